import PyProof.Rows.All
import Wide.All
import OpenK.AllK
import Wide.FinOn
import Lean
import PyProof.EqAt
import PyProof.EqKinds
import PyProof.TupleCall
import PySem.Str
import PySem.Builtin.Int.W1All
import PyProof.NeKinds
import PyProof.ZipIter
import PyProof.SumWalkG
import PyProof.MinMaxWalk
import PyProof.WalksMore
import PyProof.SeqI3
import PyProof.WalkInts
import PyProof.Rows.CallKwBuiltin
import PyProof.Rows.Tup
import PyProof.CollectIter
import PyProof.EnumMake
import PyProof.TupleOfSeq
import PyProof.ListNew
import PyProof.ReprLoop
import PyProof.StationsW
import PyProof.ExcClass3
import PyProof.Rows.CatchBare
import OpenK.KOwn
import KE.KIsAll
import PyProof.NsDelKeeps
import PyProof.RulesAs
import PyProof.ExcArgsOwn
import PyProof.ListRange
import KE.RegKIsAll
import KE.KRevIter
import PyProof.Rows.SortRuns
import KE.KSortTup
import PyProof.DictWalks
import KE.KDictList
import PyProof.ExcBaseAll.ValueError
import PySem.Challenge.RW_hourhaul_k13_laid_together_and_later
set_option Elab.async false
set_option linter.all false
set_option maxRecDepth 100000
set_option genSizeOf false
set_option compiler.extract_closed false
set_option bootstrap.genMatcherCode false
section
namespace L2
open PySem PySem.Spec PyProof.Rows
noncomputable abbrev Key := Sum Int Str
noncomputable def oA : Key -> Value -> Bool
 | .inl k, v => Value.isInt k v
 | .inr x, v => Value.isStrOf x v
noncomputable def TQ (w : World) : Key -> Int
 | .inl k => hashInt k
 | .inr x => hashStr w x
theorem bG : ∀ {k : Key} {v : Value}, oA k v = true -> (∃ i t, k = Sum.inl i /\ v = Value.int i t) \/ (∃ x t, k = Sum.inr x /\ v = Value.str x t)
 | .inl i, v, h => by
   obtain ⟨t, e⟩ := Value.isInt_shape (k := i) (v := v) h
   exact .inl ⟨i, t, rfl, e⟩
 | .inr x, v, h => by
   obtain ⟨t, e⟩ := Value.isStrOf_shape (x := x) (v := v) h
   exact .inr ⟨x, t, rfl, e⟩
theorem wB (i : Int) (t : Tok) : oA (.inl i) (.int i t) = true := by simp [oA, Value.isInt]
theorem wA (x : Str) (t : Tok) : oA (.inr x) (.str x t) = true := by simp [oA, Value.isStrOf]
theorem HF (a b : Int) : decide ((Sum.inl a : Key) = Sum.inl b) = (a == b) := by
 by_cases e : a = b
 . subst e; simp
 . have h : ¬ (Sum.inl a : Key) = Sum.inl b := fun q => e (Sum.inl.inj q)
   rw [decide_eq_false h]
   exact (beq_eq_false_iff_ne.mpr e).symm
theorem Iw (a b : Str) : decide ((Sum.inr a : Key) = Sum.inr b) = decide (a = b) := by
 by_cases e : a = b
 . subst e; simp
 . have h : ¬ (Sum.inr a : Key) = Sum.inr b := fun q => e (Sum.inr.inj q)
   rw [decide_eq_false h, decide_eq_false e]
theorem Hm (a : Int) (b : Str) : decide ((Sum.inl a : Key) = Sum.inr b) = false := decide_eq_false (fun q => nomatch q)
theorem Hg (a : Str) (b : Int) : decide ((Sum.inr a : Key) = Sum.inl b) = false := decide_eq_false (fun q => nomatch q)
noncomputable def bM (prog : Program) (w : World) : PySem.KeyKind prog w Key where
 is := oA
 hash := TQ w
 inj := fun v a b ha hb => by
  rcases bG ha with ⟨i, t, rfl, rfl⟩ | ⟨x, t, rfl, rfl⟩
  . rcases bG hb with ⟨j, u, rfl, e⟩ | ⟨y, u, rfl, e⟩
    . injection e with e1 _; rw [e1]
    . exact nomatch e
  . rcases bG hb with ⟨j, u, rfl, e⟩ | ⟨y, u, rfl, e⟩
    . exact nomatch e
    . injection e with e1 _; rw [e1]
 byValue := fun k v h => by
  rcases bG h with ⟨i, t, rfl, rfl⟩ | ⟨x, t, rfl, rfl⟩ <;> rfl
 pyHash := fun hv h => by
  rcases bG hv with ⟨i, t, rfl, rfl⟩ | ⟨x, t, rfl, rfl⟩
  . exact wpAny_pyHash_int h
  . exact wpAny_pyHash_str h
 eqBool := fun hu hv h => by
  rcases bG hu with ⟨i, t, rfl, rfl⟩ | ⟨x, t, rfl, rfl⟩
  . rcases bG hv with ⟨j, u, rfl, rfl⟩ | ⟨y, u, rfl, rfl⟩
    . rw [HF] at h; exact wpAny_eqBool_int h
    . rw [Hm] at h; exact SeqAt.EqAt.int_str i t y u _ _ _ _ h
  . rcases bG hv with ⟨j, u, rfl, rfl⟩ | ⟨y, u, rfl, rfl⟩
    . rw [Hg] at h; exact SeqAt.EqAt.str_int x t j u _ _ _ _ h
    . rw [Iw] at h; exact wpAny_eqBool_str h
 «strs» := fun k x t v h => by
  rcases bG h with ⟨i, u, rfl, e⟩ | ⟨y, u, rfl, e⟩
  . exact nomatch e
  . injection e with e1 _
    subst e1
    cases v <;> rfl
theorem qL (prog : Program) (w : World) (i : Int) (t : Tok) : (bM prog w).is (.inl i) (.int i t) = true := wB i t
theorem rA (prog : Program) (w : World) (x : Str) (t : Tok) : (bM prog w).is (.inr x) (.str x t) = true := wA x t
end L2
namespace L2
open PySem PySem.Spec PyProof.Rows
inductive V where
 | non | bl (b : Bool) | int (i : Int) | str (x : Str) | Wc (b : Array UInt8) | flt (b : UInt64) | ref (a : Addr) | ty (n : String)
 deriving DecidableEq
noncomputable def RelV : V -> Value -> Prop
 | .non, u => u = Value.none
 | .bl b, u => u = Value.bool b
 | .int i, u => ∃ t, u = Value.int i t
 | .str x, u => ∃ t, u = Value.str x t
 | .Wc b, u => ∃ t, u = Value.bytes b t
 | .flt b, u => ∃ t, u = Value.float b t
 | .ref a, u => u = Value.ref a
 | .ty n, u => u = Value.type n
noncomputable abbrev Vals : List V -> List Value -> Prop := Paired RelV
theorem Vals.length {xs : List V} {us : List Value} (r : Vals xs us) : xs.length = us.length := Paired.length r
theorem Vals.get : ∀ {xs : List V} {us : List Value} {i : Nat} {x : V}, Vals xs us -> xs[i]? = some x -> ∃ u, us[i]? = some u /\ RelV x u
 | _, _, _, _, .nil, e => by simp at e
 | _, _, 0, _, .cons r _, e => by simp at e; subst e; exact ⟨_, rfl, r⟩
 | _, _, i + 1, x, .cons _ t, e => by
   obtain ⟨u, h1, h2⟩ := Vals.get (i := i) (x := x) t (by simpa using e)
   exact ⟨u, by simpa using h1, h2⟩
theorem Vals.set {x : V} {u : Value} (r : RelV x u) : ∀ {xs : List V} {us : List Value} (i : Nat), Vals xs us -> Vals (xs.set i x) (us.set i u)
 | _, _, _, .nil => .nil
 | _, _, 0, .cons _ t => .cons r t
 | _, _, i + 1, .cons q t => .cons q (Vals.set r i t)
theorem Vals.append : ∀ {xs ys : List V} {us ws : List Value}, Vals xs us -> Vals ys ws -> Vals (xs ++ ys) (us ++ ws)
 | _, _, _, _, .nil, s => s
 | _, _, _, _, .cons r t, s => .cons r (Vals.append t s)
theorem Vals.take : ∀ {xs : List V} {us : List Value} (n : Nat), Vals xs us -> Vals (xs.take n) (us.take n)
 | _, _, 0, _ => .nil
 | _, _, _ + 1, .nil => .nil
 | _, _, n + 1, .cons r t => .cons r (Vals.take n t)
theorem Vals.drop : ∀ {xs : List V} {us : List Value} (n : Nat), Vals xs us -> Vals (xs.drop n) (us.drop n)
 | _, _, 0, r => r
 | _, _, _ + 1, .nil => .nil
 | _, _, n + 1, .cons _ t => Vals.drop n t
noncomputable def kI : Option V -> Option Value -> Prop
 | some v, some u => RelV v u
 | none, none => True
 | _, _ => False
noncomputable def KV {κ : Type} : List (κ × V) -> List (κ × Value) -> Prop := Paired fun (p : κ × V) (q : κ × Value) => p.1 = q.1 /\ RelV p.2 q.2
noncomputable def kV : Key -> V
 | .inl i => .int i
 | .inr x => .str x
inductive HO where
 /-- a list -/
 | lst (xs : List V)
 /-- a tuple (never changes) -/
 | tup (xs : List V)
 /-- a dict whose keys are ints and texts; one whose keys are tuples of ints and texts (the empty one is both) -/
 | dK (kvs : List (Key × V)) | dT (kvs : List (List Key × V))
 /-- a set of ints: its members, its size -/
 | set (S : Int -> Bool) (n : Nat)
 /-- an instance of the class at C, its dict at dx, its attributes -/
 | ins (C dx : Addr) (fs : List (Str × V))
 /-- the dict of the instance at x -/
 | own (x : Addr)
 /-- the dict of an exception -/
 | xd (fs : List (Str × V))
 /-- a bound method, f of x -/
 | met (f x : Addr)
 /-- a range object lo, lo + 1, .. below hi -/
 | v9 (lo hi : Int)
 /-- a thing that is known to the object (the script; a dict while a loop walks it): read, never written while it is so -/
 | gR (o : Obj) (u : HO)
 /-- a code object's table -/
 | J5 (ps : Array Value)
 /-- any other thing, by what is true of its one object (a def of one's own: SetO a S n := HO.ext fun h => ..) -/
 | ext (φ : Heap -> Prop)
noncomputable abbrev Hp := Addr -> Option HO
noncomputable def upd (H : Hp) (a : Addr) (o : HO) : Hp := fun b => if b = a then some o else H b
theorem aQ {H : Hp} {a : Addr} {o : HO} : upd H a o a = some o := by unfold upd; rw [if_pos rfl]
theorem aC {H : Hp} {a b : Addr} {o : HO} (h : b ≠ a) : upd H a o b = H b := by unfold upd; rw [if_neg h]
theorem Nb {H : Hp} {a b : Addr} {o u : HO} (h : H a = some o) (h' : H b = some u) (d : o ≠ u) : a ≠ b := by
 intro e; subst e; rw [h] at h'; exact d (Option.some.inj h')
theorem dU {H : Hp} {a b : Addr} {o : HO} (h : H a = some o) (h' : H b = none) : a ≠ b := by
 intro e; subst e; rw [h] at h'; cases h'
section
variable (P : Program) (w : World)
noncomputable def bL (H : Hp) (h : Heap) (a : Addr) : HO -> Prop
 | .lst xs => xs.length <= sizeLine /\ ∃ (its : List Value) (n : Nat), Vals xs its /\ h.get? a = some { cls := .type "list", data := .seq its.toArray n }
 | .tup xs => xs.length <= sizeLine /\ ∃ its : List Value, Vals xs its /\ IsTup h a its.toArray
 | .dK kvs => kvs.length <= sizeLine /\ (a == sysModules) = false /\ ∃ vs, KV kvs vs /\ h.DictOf (bM P w) a vs
 | .dT kvs => kvs.length <= sizeLine /\ (a == sysModules) = false /\ ∃ xs : List (List Key × Addr × Value),
  Paired (fun (p : List Key × V) (q : List Key × Addr × Value) => p.1 = q.1 /\ H q.2.1 = some (.tup (p.1.map kV)) /\ RelV p.2 q.2.2) kvs xs /\
  ∃ o es ep, h.get? a = some o /\ o.ExactDict /\ o.data = .dict es ep /\ es.toList = xs.map (entryOfKey (tupleKind (bM P w))) /\ (xs.map (·.1)).Nodup
 | .set S n => h.SetOf (intKind P w) a S n
 | .ins C dx fs => H dx = some (.own a) /\ fs.length <= 1000 /\ dx ≠ a /\ h.get? a = some (PySem.W.instObj C dx) /\
  ∃ mA, h.Ns1 dx mA /\ (∀ f, kI (fs.lookup f) (mA f)) /\ PySem.Within mA (fs.map (·.1))
 | .own _ => ∃ o, h.get? a = some o
 | .xd fs => ∃ mA, h.Ns1 a mA /\ ∀ f, kI (fs.lookup f) (mA f)
 | .v9 lo hi => ∃ t u v, h.get? a = some { cls := .type "range", data := .fields #[.int lo t, .int hi u, .int 1 v] }
 | .gR o u => h.get? a = some o /\ bL H h a u
 | .J5 ps => h.get? a = some { cls := .none, data := .fields ps }
 | .met f x => h.get? a = some (PySem.W.methodObj (.ref f) (.ref x))
 | .ext φ => φ h /\ (∃ o, h.get? a = some o) /\ ∀ h1 h2 : Heap, φ h1 -> (∀ o, h1.get? a = some o -> h2.get? a = some o) -> φ h2
noncomputable def jK (H : Hp) (h : Heap) : Prop := ∀ a o, H a = some o -> bL P w H h a o
end
section
variable {P : Program} {w : World} {H H' : Hp} {h h' : Heap} {a : Addr} {o : HO}
theorem bL.lt (x : bL P w H h a o) : a < h.objs.size := by
 cases o with
 | lst xs => obtain ⟨_, _, _, _, e⟩ := x; exact Heap.lt_size e
 | tup xs => obtain ⟨_, _, _, p⟩ := x; exact p.lt
 | dK kvs => obtain ⟨_, _, _, _, o, _, _, e, _⟩ := x; exact Heap.lt_size e
 | dT kvs => obtain ⟨_, _, _, _, o, _, _, e, _⟩ := x; exact Heap.lt_size e
 | set S n => obtain ⟨o, _, _, _, e, _⟩ := x; exact Heap.lt_size e
 | ins C dx fs => obtain ⟨_, _, _, e, _⟩ := x; exact Heap.lt_size e
 | own y => obtain ⟨_, e⟩ := x; exact Heap.lt_size e
 | xd fs => obtain ⟨_, ⟨_, _, _, e, _⟩, _⟩ := x; exact Heap.lt_size e
 | v9 lo hi => obtain ⟨_, _, _, e⟩ := x; exact Heap.lt_size e
 | gR ob u => obtain ⟨e, _⟩ := x; exact Heap.lt_size e
 | J5 ps => exact Heap.lt_size (show h.get? a = some _ from x)
 | met f y => exact Heap.lt_size (show h.get? a = some _ from x)
 | ext φ => obtain ⟨_, ⟨_, e⟩, _⟩ := x; exact Heap.lt_size e
theorem Paired.Jb {α β : Type} {F G : α -> β -> Prop} : ∀ {l₁ : List α} {l₂ : List β}, Paired F l₁ l₂ -> (∀ a b, F a b -> G a b) -> Paired G l₁ l₂
 | _, _, .nil, _ => .nil
 | _, _, .cons r t, f => .cons (f _ _ r) (Paired.Jb t f)
theorem bL.stay (x : bL P w H h a o) (k : ∀ b u, (b = a \/ H b = some (.own a)) -> h.get? b = some u -> h'.get? b = some u)
 (ho : ∀ b, H b = some (.own a) -> H' b = some (.own a)) (ht : ∀ b xs, H b = some (.tup xs) -> H' b = some (.tup xs)) : bL P w H' h' a o := by
 induction o with
 | lst xs => obtain ⟨z, its, n, r, e⟩ := x; exact ⟨z, its, n, r, k _ _ (.inl rfl) e⟩
 | tup xs => obtain ⟨z, its, r, ob, e, c⟩ := x; exact ⟨z, its, r, ob, k _ _ (.inl rfl) e, c⟩
 | dK kvs => obtain ⟨z, y, vs, r, ob, es, ep, e, c⟩ := x; exact ⟨z, y, vs, r, ob, es, ep, k _ _ (.inl rfl) e, c⟩
 | dT kvs =>
   obtain ⟨z, y, xs, r, ob, es, ep, e, c⟩ := x
   exact ⟨z, y, xs, Paired.Jb r fun p q z => ⟨z.1, ht _ _ z.2.1, z.2.2⟩, ob, es, ep, k _ _ (.inl rfl) e, c⟩
 | set S n => obtain ⟨ob, es, ep, t, e, c⟩ := x; exact ⟨ob, es, ep, t, k _ _ (.inl rfl) e, c⟩
 | ins C dx fs =>
   obtain ⟨d, z, ne, e, mA, ⟨od, es, ep, e2, c⟩, r⟩ := x
   exact ⟨ho _ d, z, ne, k _ _ (.inl rfl) e, mA, ⟨od, es, ep, k _ _ (.inr d) e2, c⟩, r⟩
 | own y => obtain ⟨ob, e⟩ := x; exact ⟨ob, k _ _ (.inl rfl) e⟩
 | xd fs => obtain ⟨mA, ⟨od, es, ep, e, c⟩, r⟩ := x; exact ⟨mA, ⟨od, es, ep, k _ _ (.inl rfl) e, c⟩, r⟩
 | v9 lo hi => obtain ⟨t, u, v, e⟩ := x; exact ⟨t, u, v, k _ _ (.inl rfl) e⟩
 | gR ob u ih => obtain ⟨e, q⟩ := x; exact ⟨k _ _ (.inl rfl) e, ih q⟩
 | J5 ps =>
   have e : h.get? a = some { cls := .none, data := .fields ps } := x
   show h'.get? a = some { cls := .none, data := .fields ps }
   exact k a _ (.inl rfl) e
 | met f y =>
   have e : h.get? a = some (PySem.W.methodObj (.ref f) (.ref y)) := x
   show h'.get? a = some (PySem.W.methodObj (.ref f) (.ref y))
   exact k a _ (.inl rfl) e
 | ext φ => obtain ⟨p, ⟨o, e⟩, st⟩ := x; exact ⟨st _ _ p fun o q => k _ _ (.inl rfl) q, ⟨o, k _ _ (.inl rfl) e⟩, st⟩
theorem jK.lt (x : jK P w H h) (e : H a = some o) : a < h.objs.size := (x a o e).lt
theorem jK.fresh (x : jK P w H h) (e : h.objs.size <= a) : H a = none := by
 cases q : H a with
 | none => rfl
 | some u => exact absurd (Nat.lt_of_lt_of_le (x.lt q) e) (Nat.lt_irrefl _)
theorem jK.kept (x : jK P w H h) (k : ∀ b u, h.get? b = some u -> h'.get? b = some u) : jK P w H h' := fun a o e =>
 (x a o e).stay (fun b u _ q => k b u q) (fun _ q => q) fun _ _ q => q
theorem jK.laid (x : jK P w H h) (k : ∀ b u, h.get? b = some u -> h'.get? b = some u) (hp : h.objs.size <= a) (new : bL P w (upd H a o) h' a o) : jK P w (upd H a o) h' := fun b u e => by
 have hn := x.fresh hp
 by_cases hb : b = a
 . subst hb; rw [aQ] at e; cases e; exact new
 . rw [aC hb] at e
   exact (x b u e).stay (fun c v _ q => k c v q) (fun c q => by rw [aC (dU q hn)]; exact q) fun c xs q => by rw [aC (dU q hn)]; exact q
end
noncomputable def Rd (H : Hp) (a : Addr) (u : HO) : Prop := H a = some u \/ ∃ o, H a = some (.gR o u)
theorem Rd.ok {P : Program} {w : World} {H : Hp} {h : Heap} {a : Addr} {u : HO} (r : Rd H a u) (x : jK P w H h) : bL P w H h a u := by
 rcases r with r | ⟨o, r⟩
 . exact x a u r
 . obtain ⟨_, q⟩ := x a _ r
   exact q
noncomputable def O1 : Option HO -> Prop
 | some (.lst _) => True
 | some (.dK _) => True
 | some (.dT _) => True
 | some (.set _ _) => True
 | some (.ins _ _ _) => True
 | some (.ext _) => True
 | _ => False
section
variable {P : Program} {w : World} {H : Hp} {h h' : Heap} {x e : Addr} {o' : HO}
theorem jK.write (ok : jK P w H h) (mu : O1 (H x)) (he : e = x \/ H e = some (.own x)) (k : ∀ b u, b ≠ e -> h.get? b = some u -> h'.get? b = some u) (heo : ∃ u, h'.get? e = some u)
 (new : bL P w (upd H x o') h' x o') : jK P w (upd H x o') h' := fun b u q => by
 have Qv : ∀ c y, H c = some (.own y) -> c ≠ x := fun c y r z => by subst z; rw [r] at mu; exact mu
 have Wd : ∀ c xs, H c = some (.tup xs) -> c ≠ x := fun c xs r z => by subst z; rw [r] at mu; exact mu
 by_cases hb : b = x
 . subst hb; rw [aQ] at q; cases q; exact new
 . rw [aC hb] at q
   by_cases hbe : b = e
   . have q' : H b = some (.own x) := by
      rcases he with z | z
      . exact absurd (hbe.trans z) hb
      . rw [hbe]; exact z
     rw [q] at q'; cases q'
     obtain ⟨v, hv⟩ := heo
     exact ⟨v, by rw [hbe]; exact hv⟩
   . refine (ok b u q).stay (fun c v hc r => k c v ?_ r) (fun c r => by rw [aC (Qv c b r)]; exact r) fun c xs r => by rw [aC (Wd c xs r)]; exact r
     rcases hc with rfl | hc
     . exact hbe
     . rintro rfl
       rcases he with z | z
       . exact Qv c b hc z
       . rw [hc] at z; cases z; exact hb rfl
end
structure Un (fs ex : List Addr) (H H' : Hp) (h h' : Heap) : Prop where
 keep : ∀ b o, h.get? b = some o -> H b = none -> b ∉ fs -> b ∉ ex -> h'.get? b = some o
 slot : ∀ b o, h.get? b = some o -> H b = none -> b ∈ fs -> b ∉ ex -> ∃ sl, h'.get? b = some { o with slots := sl }
 free : ∀ b o, h.get? b = some o -> H b = none -> b ∉ ex -> H' b = none
 there : ∀ b o, h.get? b = some o -> b ∉ ex -> ∃ o', h'.get? b = some o'
 tups : ∀ b xs, H b = some (.tup xs) -> H' b = some (.tup xs)
 pZ : ∀ b o u, H b = some (.gR o u) -> H' b = some (.gR o u)
 sJ : ∀ b ps, H b = some (.J5 ps) -> ∃ more, H' b = some (.J5 (ps ++ more))
section
variable {fs fs' ex ex' : List Addr} {H H1 H2 : Hp} {h h1 h2 h' : Heap} {a x e : Addr} {o : HO}
theorem Un.any (u : Un fs ex H H1 h h1) {b : Addr} {ob : Obj} (q : h.get? b = some ob) (n : H b = none) (hx : b ∉ ex) : ∃ sl, h1.get? b = some { ob with slots := sl } := by
 by_cases hb : b ∈ fs
 . exact u.slot b ob q n hb hx
 . exact ⟨ob.slots, u.keep b ob q n hb hx⟩
theorem Un.kept (k : ∀ b u, h.get? b = some u -> h'.get? b = some u) : Un fs ex H H h h' :=
 ⟨fun b ob q _ _ _ => k b ob q, fun b ob q _ _ _ => ⟨ob.slots, k b ob q⟩, fun _ _ _ n _ => n, fun b ob q _ => ⟨ob, k b ob q⟩, fun _ _ q => q, fun _ _ _ q => q, fun _ ps q => ⟨#[], by rw [q]; simp⟩⟩
theorem Un.refl : Un fs ex H H h h := Un.kept fun _ _ q => q
theorem Un.laid (k : ∀ b u, h.get? b = some u -> h'.get? b = some u) (hp : h.objs.size <= a) (hn : H a = none) : Un fs ex H (upd H a o) h h' where
 keep := fun b u q _ _ _ => k b u q
 slot := fun b u q _ _ _ => ⟨u.slots, k b u q⟩
 free := fun b u q n _ => by rw [aC (Nat.ne_of_lt (Nat.lt_of_lt_of_le (Heap.lt_size q) hp))]; exact n
 there := fun b u q _ => ⟨u, k b u q⟩
 tups := fun b xs q => by rw [aC (dU q hn)]; exact q
 pZ := fun b u xs q => by rw [aC (dU q hn)]; exact q
 sJ := fun b ps q => ⟨#[], by rw [aC (dU q hn), q]; simp⟩
theorem Un.write (mu : O1 (H x)) (he : e = x \/ H e = some (.own x)) (k : ∀ b u, b ≠ e -> h.get? b = some u -> h'.get? b = some u) (heo : ∃ u, h'.get? e = some u) : Un fs ex H (upd H x o) h h' := by
 have hx : ∀ b, H b = none -> b ≠ x := fun b n z => by subst z; rw [n] at mu; exact mu
 have hb : ∀ b, H b = none -> b ≠ e := fun b n z => by
  subst z
  rcases he with r | r
  . exact hx b n r
  . rw [n] at r; cases r
 have hm : ∀ b u, H b = some u -> ¬ O1 (some u) -> b ≠ x := fun b u q nm z => by subst z; rw [q] at mu; exact nm mu
 refine ⟨fun b u q n _ _ => k b u (hb b n) q, fun b u q n _ _ => ⟨u.slots, k b u (hb b n) q⟩, fun b u q n _ => by rw [aC (hx b n)]; exact n, fun b u q _ => ?_,
  fun b xs q => by rw [aC (hm b _ q fun z => z)]; exact q, fun b u xs q => by rw [aC (hm b _ q fun z => z)]; exact q, fun b ps q => ⟨#[], by rw [aC (hm b _ q fun z => z), q]; simp⟩⟩
 by_cases hbe : b = e
 . subst hbe; exact heo
 . exact ⟨u, k b u hbe q⟩
end
noncomputable def Rz (h : Heap) (H : Hp) : List Addr := (List.range h.objs.size).filter fun a => (H a).isSome
noncomputable def o7 (h : Heap) (H : Hp) : Heap := PySem.W.hideAll h (Rz h H)
theorem xM (h : Heap) (H : Hp) : (o7 h H).objs.size = h.objs.size := PySem.W.hideAll_size _ _
theorem ym {h : Heap} {H : Hp} {b : Addr} {o : Obj} (e : h.get? b = some o) (n : H b = none) : (o7 h H).get? b = some o :=
 PySem.W.hideAll_get _ e fun hm => by
  have q : (H b).isSome = true := (List.mem_filter.mp hm).2
  rw [n] at q; simp at q
theorem Cj {h : Heap} {H : Hp} {b : Addr} {o : Obj} (e : (o7 h H).get? b = some o) : h.get? b = some o /\ H b = none := by
 have e' : h.get? b = some o := PySem.W.of_hideAll (Rz h H) e
 refine ⟨e', ?_⟩
 cases q : H b with
 | none => rfl
 | some x =>
   have hm : b ∈ Rz h H := List.mem_filter.mpr ⟨List.mem_range.mpr (Heap.lt_size e'), by simp [q]⟩
   have z : (o7 h H).get? b = none := PySem.W.hideAll_none (Rz h H) hm
   rw [z] at e; cases e
end L2
namespace L2
open PySem PySem.Spec PyProof.Rows
structure Mod (K : PySem.W.Frag) (mg : Str -> Option Value) (base : Heap) : Prop where
 We : K.In base
 glob : base.Ns mainGlobals mg
 blt : ∃ mb, base.Ns builtinsNs mb /\ ∀ x : Str, x ≠ "__name__" -> mb x = bootBuiltins x
 nolimit : base.NoLimit
structure Cx where
 prog : Program
 w : World
 K : PySem.W.Frag
 mg : Str -> Option Value
 base : Heap
 A : Around
 N : List Str
 s₀ : Shared
 H₀ : Hp
 env : Env
 outer : List Env
 stack : List Env
 ex : List Addr
 fn : Str -> Bool
 calm : Bool
 pn : List (Addr × Obj)
 xe : Value -> Shared -> Prop
noncomputable def frs (l : List Env) : List Addr := l.filterMap (·.frame)
noncomputable abbrev Cx.fs (X : Cx) : List Addr := frs X.outer
noncomputable def xX (sc : Scope) (x : Str) : Prop := sc.names.lookup x = some .local \/ sc.names.lookup x = some .cell \/ sc.names.lookup x = some .free
noncomputable def Loc (sc : Scope) (x : Str) : Prop := sc.names.lookup x = some .local \/ sc.names.lookup x = some .cell
noncomputable def Look (env : Env) (h : Heap) (m : Str -> Option Value) (x : Str) (u : Value) : Prop :=
 (env.kindOf x = some .local /\ m x = some u) \/ ((env.kindOf x = some .cell \/ env.kindOf x = some .free) /\ ∃ c, env.cells.lookup x = some c /\ h.IsCell c (some u))
structure Cx.Ok (X : Cx) : Prop where
 mod : Mod X.K X.mg X.base
 kind : X.env.scope.kind = .function
 glob : X.env.globals = mainGlobals
 blt : X.env.builtins = builtinsNs
 above : X.s₀.heap.objs.size <= X.env.locals
 inj : ∀ x y c, X.env.cells.lookup x = some c -> X.env.cells.lookup y = some c -> x = y
 has : ∀ x, (X.env.kindOf x = some .cell \/ X.env.kindOf x = some .free) -> ∃ c, X.env.cells.lookup x = some c
 cab : ∀ x c, X.fn x = true -> X.env.cells.lookup x = some c -> X.s₀.heap.objs.size <= c
 hd : X.calm = true -> X.A.handled = none
 frames : X.A.frames = some X.stack
 Sh : X.stack = X.outer \/ (X.stack = X.env :: X.outer /\ X.env.frame = some X.env.locals)
 X8 : ∀ b ∈ X.ex, b ≠ X.env.locals /\ ∀ x c, X.env.cells.lookup x = some c -> c ≠ b
 bs : ∀ b o, X.base.get? b = some o -> X.s₀.heap.get? b = some o /\ X.H₀ b = none
 Gi : X.base.objs.size <= X.s₀.heap.objs.size
 Aw : ∀ b o, X.base.get? b = some o -> b ∉ X.ex
 Ei : ∀ b ∈ X.ex, b ∉ X.fs
 lQ : X.s₀.heap.FunFrames X.base X.outer
 Mu : ∀ b ∈ X.fs, X.H₀ b = none
structure Inv (X : Cx) (pins : List (Addr × Obj)) (σ : List (Option V)) (H : Hp) (s : Shared) : Prop where
 ok : X.Ok
 os : s.os = X.s₀.os
 bare : AllBare s.gens
 base : Un X.fs X.ex X.H₀ H X.s₀.heap s.heap
 loc : ∃ m, s.heap.Ns X.env.locals m /\ ∀ (i : Nat) (x : Str) (v : V), X.N[i]? = some x -> σ[i]? = some (some v) -> xX X.env.scope x -> ∃ u, RelV v u /\ Look X.env s.heap m x u
 cell : ∀ x c, X.env.cells.lookup x = some c -> ∃ v, s.heap.IsCell c v
 free : H X.env.locals = none
 iI : ∀ x c, X.env.cells.lookup x = some c -> H c = none
 pin : ∀ p ∈ X.pn ++ pins, s.heap.get? p.1 = some p.2 /\ H p.1 = none /\ p.1 ≠ X.env.locals /\ p.1 ∉ X.fs /\ ∀ v, p.2.data ≠ .cell v
 hok : jK X.prog X.w H s.heap
 len : σ.length = X.N.length
section
variable {X : Cx} {pins : List (Addr × Obj)} {σ : List (Option V)} {H H' : Hp} {s : Shared} {h' : Heap}
theorem Cx.Ok.Ub (ok : X.Ok) {b : Addr} {o : Obj} (e : X.base.get? b = some o) : b ∉ X.fs := fun hb => by
 have := (ok.lQ.mem hb).1
 rw [e] at this; cases this
theorem Inv.bs (I : Inv X pins σ H s) : ∀ b o, X.base.get? b = some o -> s.heap.get? b = some o /\ H b = none := fun b o e =>
 ⟨I.base.keep b o (I.ok.bs b o e).1 (I.ok.bs b o e).2 (I.ok.Ub e) (I.ok.Aw b o e), I.base.free b o (I.ok.bs b o e).1 (I.ok.bs b o e).2 (I.ok.Aw b o e)⟩
theorem Inv.bk (I : Inv X pins σ H s) : ∀ b o, X.base.get? b = some o -> s.heap.get? b = some o := fun b o e => (I.bs b o e).1
theorem Inv.mod (I : Inv X pins σ H s) : Mod X.K X.mg X.base := I.ok.mod
theorem Inv.JZ (I : Inv X pins σ H s) : X.K.In s.heap := I.ok.mod.We.keeps I.bk
theorem Inv.lt (I : Inv X pins σ H s) : X.env.locals < s.heap.objs.size := let ⟨_, hn, _⟩ := I.loc; hn.lt
theorem Inv.sz (I : Inv X pins σ H s) : X.s₀.heap.objs.size <= s.heap.objs.size := Nat.le_trans I.ok.above (Nat.le_of_lt I.lt)
theorem Inv.Tz (I : Inv X pins σ H s) {a : Addr} (h : s.heap.objs.size <= a) : a ∉ X.fs := fun hb => by
 obtain ⟨_, o, ho, _⟩ := I.ok.lQ.mem hb
 exact absurd (Nat.lt_of_lt_of_le (Heap.lt_size ho) (Nat.le_trans I.sz h)) (Nat.lt_irrefl _)
theorem Inv.Gu (I : Inv X pins σ H s) : ∀ x c, X.env.cells.lookup x = some c -> c ≠ X.env.locals := fun x c e z => by
 obtain ⟨v, o, ho, hd⟩ := I.cell x c e
 obtain ⟨m, ⟨o', es, ep, ho', hd', _⟩, _⟩ := I.loc
 rw [z, ho'] at ho; cases ho; rw [hd'] at hd; cases hd
theorem Inv.lQ (I : Inv X pins σ H s) : s.heap.FunFrames X.base X.outer := by
 have all : ∀ (l : List Env), (∀ b ∈ frs l, b ∈ X.fs) -> X.s₀.heap.FunFrames X.base l -> s.heap.FunFrames X.base l := by
  intro l
  induction l with
  | nil => intro _ _; trivial
  | cons env r ih =>
    intro hs hl
    obtain ⟨hk, ⟨L, o, hf, hn, ho, hd⟩, hr⟩ := hl
    have hL : L ∈ X.fs := hs L (by unfold frs; rw [List.filterMap_cons, hf]; exact List.mem_cons_self)
    obtain ⟨sl, e⟩ := I.base.slot L o ho (I.ok.Mu L hL) hL fun z => I.ok.Ei L z hL
    exact ⟨hk, ⟨L, _, hf, hn, e, hd⟩, ih (fun b hb => hs b (by unfold frs; rw [List.filterMap_cons, hf]; exact List.mem_cons_of_mem _ hb)) hr⟩
 exact all X.outer (fun _ hb => hb) I.ok.lQ
theorem Inv.stack (I : Inv X pins σ H s) : s.heap.FunFrames X.base X.stack := by
 rcases I.ok.Sh with e | ⟨e, hf⟩
 . rw [e]; exact I.lQ
 . rw [e]
   obtain ⟨m, hn, _⟩ := I.loc
   refine .cons (by rw [I.ok.kind]; decide) hf hn ?_ I.lQ
   exact Heap.get?_none_of_le (Nat.le_trans I.ok.Gi I.ok.above)
theorem Inv.o8 (I : Inv X pins σ H s) : ∀ b ∈ frs X.stack, b ∈ X.env.locals :: X.fs := fun b hb => by
 rcases I.ok.Sh with e | ⟨e, hf⟩
 . rw [e] at hb; exact List.mem_cons_of_mem _ hb
 . rw [e] at hb
   unfold frs at hb
   rw [List.filterMap_cons, hf] at hb
   exact hb
theorem Inv.vH (I : Inv X pins σ H s) : ∀ b ∈ frs X.stack, H b = none := fun b hb => by
 rcases List.mem_cons.mp (I.o8 b hb) with e | hb
 . rw [e]; exact I.free
 . obtain ⟨_, o, ho, _⟩ := I.ok.lQ.mem hb
   exact I.base.free b o ho (I.ok.Mu b hb) fun z => I.ok.Ei b z hb
theorem Inv.step {g' : Array GenState} {t' : Nat} {d' : Drawn} {ch : List Addr} (I : Inv X pins σ H s)
 (hch : ∀ b ∈ ch, (b ∈ X.ex \/ X.s₀.heap.objs.size <= b) /\ b ≠ X.env.locals /\ (∀ x c, X.env.cells.lookup x = some c -> c ≠ b) /\ ∀ p ∈ X.pn ++ pins, p.1 ≠ b)
 (keep : ∀ b o, b ≠ X.env.locals -> b ∉ X.fs -> b ∉ ch -> s.heap.get? b = some o -> H b = none -> h'.get? b = some o)
 (slot : ∀ b o, b ≠ X.env.locals -> b ∈ X.fs -> b ∉ ch -> s.heap.get? b = some o -> H b = none -> ∃ sl, h'.get? b = some { o with slots := sl }) (free : ∀ b o, b ∉ ch -> s.heap.get? b = some o -> H b = none -> H' b = none)
 (there : ∀ b o, b ∉ ch -> s.heap.get? b = some o -> ∃ o', h'.get? b = some o')
 (tups : ∀ b xs, H b = some (.tup xs) -> H' b = some (.tup xs)) (pZ : ∀ b o u, H b = some (.gR o u) -> H' b = some (.gR o u)) (sJ : ∀ b ps, H b = some (.J5 ps) -> ∃ more, H' b = some (.J5 (ps ++ more)))
 (ns : ∀ m, s.heap.Ns X.env.locals m -> h'.Ns X.env.locals m) (hok : jK X.prog X.w H' h') (hg : AllBare g') :
 Inv X pins σ H' { s with heap := h', gens := g', drawn := d', toks := t' } := by
 have Yb : ∀ b o, X.s₀.heap.get? b = some o -> b ≠ X.env.locals := fun b o e => Nat.ne_of_lt (Nat.lt_of_lt_of_le (Heap.lt_size e) I.ok.above)
 have Sq : ∀ b o, X.s₀.heap.get? b = some o -> b ∉ X.ex -> b ∉ ch := fun b o e hx hb => by
  rcases (hch b hb).1 with z | z
  . exact hx z
  . exact absurd (Nat.lt_of_lt_of_le (Heap.lt_size e) z) (Nat.lt_irrefl _)
 have cellK : ∀ x c, X.env.cells.lookup x = some c -> ∀ v, s.heap.IsCell c v -> h'.IsCell c v := fun x c e v ⟨o, ho, hd⟩ => by
  have Qw : c ∉ ch := fun z => (hch c z).2.2.1 x c e rfl
  by_cases hc : c ∈ X.fs
  . obtain ⟨sl, q⟩ := slot c o (I.Gu x c e) hc Qw ho (I.iI x c e)
    exact ⟨_, q, hd⟩
  . exact ⟨o, keep c o (I.Gu x c e) hc Qw ho (I.iI x c e), hd⟩
 refine ⟨I.ok, I.os, hg, ⟨fun b o e n hb hx => ?_, fun b o e n hb hx => ?_, fun b o e n hx => ?_, fun b o e hx => ?_, fun b xs e => tups b xs (I.base.tups b xs e), fun b o xs e => pZ b o xs (I.base.pZ b o xs e), fun b ps e => ?_⟩, ?_, fun x c e => ?_, ?_, fun x c e => ?_, fun p hp => ?_, hok, I.len⟩
 . exact keep b o (Yb b o e) hb (Sq b o e hx) (I.base.keep b o e n hb hx) (I.base.free b o e n hx)
 . obtain ⟨sl, e1⟩ := I.base.slot b o e n hb hx
   obtain ⟨sl', e2⟩ := slot b _ (Yb b o e) hb (Sq b o e hx) e1 (I.base.free b o e n hx)
   exact ⟨sl', e2⟩
 . obtain ⟨o', e1⟩ := I.base.there b o e hx
   exact free b o' (Sq b o e hx) e1 (I.base.free b o e n hx)
 . obtain ⟨o', e1⟩ := I.base.there b o e hx
   exact there b o' (Sq b o e hx) e1
 . obtain ⟨m1, e1⟩ := I.base.sJ b ps e
   obtain ⟨m2, e2⟩ := sJ b _ e1
   exact ⟨m1 ++ m2, by rw [e2, Array.append_assoc]⟩
 . obtain ⟨m, hn, hl⟩ := I.loc
   refine ⟨m, ns m hn, fun i x v e1 e2 e3 => ?_⟩
   obtain ⟨u, r, l⟩ := hl i x v e1 e2 e3
   refine ⟨u, r, ?_⟩
   rcases l with l | ⟨k, c, e, z⟩
   . exact .inl l
   . exact .inr ⟨k, c, e, cellK x c e _ z⟩
 . obtain ⟨v, z⟩ := I.cell x c e
   exact ⟨v, cellK x c e v z⟩
 . obtain ⟨m, ⟨o, _, _, ho, _⟩, _⟩ := I.loc
   exact free _ o (fun z => (hch _ z).2.1 rfl) ho I.free
 . obtain ⟨v, o, ho, hd⟩ := I.cell x c e
   exact free c o (fun z => (hch c z).2.2.1 x c e rfl) ho (I.iI x c e)
 . obtain ⟨e, n, ne, nf, d⟩ := I.pin p hp
   have Qw : p.1 ∉ ch := fun z => (hch p.1 z).2.2.2 p hp rfl
   exact ⟨keep p.1 p.2 ne nf Qw e n, free p.1 p.2 Qw e n, ne, nf, d⟩
theorem Inv.un {t' : Nat} (I : Inv X pins σ H s) (u : Un X.fs [] H H' s.heap h') (hok : jK X.prog X.w H' h') : Inv X pins σ H' { s with heap := h', toks := t' } := by
 obtain ⟨m, ⟨o, es, ep, ho, r⟩, _⟩ := id I.loc
 obtain ⟨sl, hL⟩ := u.any ho I.free (by simp)
 exact I.step (g' := s.gens) (d' := s.drawn) (ch := []) (fun _ z => nomatch z) (fun b o _ hb _ e n => u.keep b o e n hb (by simp)) (fun b o _ hb _ e n => u.slot b o e n hb (by simp)) (fun b o _ e n => u.free b o e n (by simp)) (fun b o _ e => u.there b o e (by simp)) u.tups u.pZ u.sJ (fun m' hm => by
  obtain ⟨o', es', ep', ho', r'⟩ := hm
  rw [ho] at ho'; cases ho'
  exact ⟨_, es', ep', hL, r'⟩) hok I.bare
theorem Inv.call {g' : Array GenState} {t' : Nat} {d' : Drawn} {ch : List Addr} (I : Inv X pins σ H s) (u : Un (frs X.stack) ch H H' s.heap h') (hok : jK X.prog X.w H' h') (hg : AllBare g')
 (hch : ∀ b ∈ ch, (b ∈ X.ex \/ X.s₀.heap.objs.size <= b) /\ b ≠ X.env.locals /\ (∀ x c, X.env.cells.lookup x = some c -> c ≠ b) /\ ∀ p ∈ X.pn ++ pins, p.1 ≠ b) :
 Inv X pins σ H' { s with heap := h', gens := g', drawn := d', toks := t' } := by
 obtain ⟨m, ⟨o, es, ep, ho, r⟩, _⟩ := id I.loc
 obtain ⟨sl, hL⟩ := u.any ho I.free fun z => (hch _ z).2.1 rfl
 exact I.step (ch := ch) hch (fun b o hL hb hc e n => u.keep b o e n (fun z => (List.mem_cons.mp (I.o8 b z)).elim hL hb) hc) (fun b o _ _ hc e n => u.any e n hc) (fun b o hc e n => u.free b o e n hc) (fun b o hc e => u.there b o e hc) u.tups u.pZ u.sJ (fun m' hm => by
  obtain ⟨o', es', ep', ho', r'⟩ := hm
  rw [ho] at ho'; cases ho'
  exact ⟨_, es', ep', hL, r'⟩) hok hg
theorem Inv.turned {t' : Nat} {it : Addr} (I : Inv X pins σ H s) (k : ∀ b o, b ≠ it -> s.heap.get? b = some o -> h'.get? b = some o) (hn : H it = none) (hL : it ≠ X.env.locals)
 (h1 : it ∈ X.ex \/ X.s₀.heap.objs.size <= it) (h2 : ∀ x c, X.env.cells.lookup x = some c -> c ≠ it) (h3 : ∀ p ∈ X.pn ++ pins, p.1 ≠ it) : Inv X pins σ H { s with heap := h', toks := t' } := by
 have Yc : ∀ b u, H b = some u -> b ≠ it := fun b u e z => by rw [z, hn] at e; cases e
 refine I.step (g' := s.gens) (d' := s.drawn) (ch := [it]) (fun b hb => ?_) (fun b o _ _ hc e _ => k b o (fun z => hc (by simp [z])) e) (fun b o _ _ hc e _ => ⟨o.slots, k b o (fun z => hc (by simp [z])) e⟩) (fun _ _ _ _ n => n)
  (fun b o hc e => ⟨o, k b o (fun z => hc (by simp [z])) e⟩) (fun _ _ e => e) (fun _ _ _ e => e) (fun b ps e => ⟨#[], by rw [e]; simp⟩) (fun m hm => ?_) (fun b u e => ?_) I.bare
 . have e : b = it := by simpa using hb
   subst e
   exact ⟨h1, hL, h2, h3⟩
 . obtain ⟨o, es, ep, ho, r⟩ := hm
   exact ⟨o, es, ep, k _ o (Ne.symm hL) ho, r⟩
 . refine (I.hok b u e).stay (fun c v hc q => k c v ?_ q) (fun _ q => q) fun _ _ q => q
   rcases hc with z | z
   . rw [z]; exact Yc b u e
   . exact Yc c _ z
theorem Inv.tok (I : Inv X pins σ H s) (t : Nat) : Inv X pins σ H { s with toks := t } := I.un (h' := s.heap) (t' := t) Un.refl I.hok
theorem Inv.kept {t' : Nat} (I : Inv X pins σ H s) (k : ∀ b u, s.heap.get? b = some u -> h'.get? b = some u) : Inv X pins σ H { s with heap := h', toks := t' } := I.un (Un.kept k) (I.hok.kept k)
theorem Inv.laid {a : Addr} {o : HO} {t' : Nat} (I : Inv X pins σ H s) (k : ∀ b u, s.heap.get? b = some u -> h'.get? b = some u) (hp : s.heap.objs.size <= a) (new : bL X.prog X.w (upd H a o) h' a o) :
 Inv X pins σ (upd H a o) { s with heap := h', toks := t' } := I.un (Un.laid k hp (I.hok.fresh hp)) (I.hok.laid k hp new)
theorem Inv.write {x e : Addr} {o : HO} {t' : Nat} (I : Inv X pins σ H s) (mu : O1 (H x)) (he : e = x \/ H e = some (.own x)) (k : ∀ b u, b ≠ e -> s.heap.get? b = some u -> h'.get? b = some u) (heo : ∃ u, h'.get? e = some u)
 (new : bL X.prog X.w (upd H x o) h' x o) : Inv X pins σ (upd H x o) { s with heap := h', toks := t' } := I.un (Un.write mu he k heo) (I.hok.write mu he k heo new)
theorem Inv.vI {Gj : List (Addr × Obj)} (I : Inv X pins σ H s) (h : ∀ p ∈ Gj, s.heap.get? p.1 = some p.2 /\ H p.1 = none /\ p.1 ≠ X.env.locals /\ p.1 ∉ X.fs /\ ∀ v, p.2.data ≠ .cell v) : Inv X Gj σ H s :=
 ⟨I.ok, I.os, I.bare, I.base, I.loc, I.cell, I.free, I.iI, fun p hp => (List.mem_append.mp hp).elim (fun z => I.pin p (List.mem_append_left _ z)) (h p), I.hok, I.len⟩
theorem rM {N : List Str} (hN : N.Nodup) {i j : Nat} {x : Str} (a : N[i]? = some x) (b : N[j]? = some x) : i = j := by
 obtain ⟨h1, e1⟩ := List.getElem?_eq_some_iff.mp a
 obtain ⟨h2, e2⟩ := List.getElem?_eq_some_iff.mp b
 exact (List.getElem_inj hN).mp (e1.trans e2.symm)
theorem nP {M : Model} {A : Around} {E : Value -> Shared -> Prop} {i : Nat} {x : Str} {v : V} {u : Value} {Q : Unit -> Shared -> Prop} (I : Inv X pins σ H s) (hN : X.N.Nodup) (hi : X.N[i]? = some x) (hx : Loc X.env.scope x) (r : RelV v u)
 (h : ∀ s', Inv X pins (σ.set i (some v)) H s' -> (∃ a, Heap.SameBut a s.heap s'.heap /\ (a = X.env.locals \/ X.env.cells.lookup x = some a)) -> Q () s') (hf : X.fn x = true \/ X.env.scope.names.lookup x = some .local := by first | exact .inl rfl | exact .inr rfl | assumption) : wpAny M A (storeName X.env x u) Q E s := by
 obtain ⟨m, hn, hl⟩ := id I.loc
 have hcls : (X.env.scope.kind == .class || (X.env.scope.kind == .module && X.env.locals != X.env.globals)) = false := by rw [I.ok.kind]; rfl
 have hiσ : i < σ.length := by rw [I.len]; exact (List.getElem?_eq_some_iff.mp hi).1
 have Gu := I.Gu
 have tracked : ∀ {a : Addr} {h' : Heap}, (∃ o, s.heap.get? a = some o /\ H a = none) -> Heap.SameBut a s.heap h' -> jK X.prog X.w H h' := fun {a h'} ha hs b ob e => by
  obtain ⟨_, _, hfree⟩ := ha
  refine (I.hok b ob e).stay (fun c w' hc q => (hs.2 c ?_).trans q) (fun _ q => q) fun _ _ q => q
  rintro rfl
  rcases hc with rfl | hc
  . rw [hfree] at e; cases e
  . rw [hfree] at hc; cases hc
 rcases hx with hk | hk
 . refine wpAny_storeName_local hk hn (fun h' hn' hs => ?_) hcls
   obtain ⟨oL, _, _, hoL, _⟩ := id hn
   refine h _ ⟨I.ok, I.os, I.bare, ⟨fun b o e n hb hx => ?_, fun b o e n hb hx => ?_, I.base.free, fun b o e hx => ?_, I.base.tups, I.base.pZ, I.base.sJ⟩, ⟨_, hn', fun j y v' e1 e2 e3 => ?_⟩, fun y c e => ?_, I.free, I.iI, fun p hp => ?_, tracked ⟨oL, hoL, I.free⟩ hs, by simpa using I.len⟩ ⟨_, hs, .inl rfl⟩
   . exact (hs.2 b (Nat.ne_of_lt (Nat.lt_of_lt_of_le (Heap.lt_size e) I.ok.above))).trans (I.base.keep b o e n hb hx)
   . obtain ⟨sl, e1⟩ := I.base.slot b o e n hb hx
     exact ⟨sl, (hs.2 b (Nat.ne_of_lt (Nat.lt_of_lt_of_le (Heap.lt_size e) I.ok.above))).trans e1⟩
   . obtain ⟨o', e1⟩ := I.base.there b o e hx
     exact ⟨o', (hs.2 b (Nat.ne_of_lt (Nat.lt_of_lt_of_le (Heap.lt_size e) I.ok.above))).trans e1⟩
   . by_cases hj : j = i
     . subst hj
       rw [hi] at e1; cases e1
       rw [List.getElem?_set_self hiσ] at e2
       cases e2
       exact ⟨u, r, .inl ⟨hk, by simp⟩⟩
     . rw [List.getElem?_set_ne (Ne.symm hj)] at e2
       obtain ⟨u', r', q⟩ := hl j y v' e1 e2 e3
       refine ⟨u', r', ?_⟩
       rcases q with ⟨k, e⟩ | ⟨k, c, e, z⟩
       . refine .inl ⟨k, ?_⟩
         have : y ≠ x := fun e => hj (rM hN e1 (e ▸ hi))
         simp [this, e]
       . exact .inr ⟨k, c, e, z.sameBut hs (Gu y c e)⟩
   . obtain ⟨w', z⟩ := I.cell y c e
     exact ⟨w', z.sameBut hs (Gu y c e)⟩
   . obtain ⟨e, n, ne, nf, d⟩ := I.pin p hp
     exact ⟨(hs.2 p.1 ne).trans e, n, ne, nf, d⟩
 . have hfn : X.fn x = true := by
    rcases hf with z | z
    . exact z
    . rw [z] at hk; cases hk
   obtain ⟨c, hc⟩ := I.ok.has x (.inl hk)
   obtain ⟨w', z⟩ := I.cell x c hc
   refine wpAny_storeName_cell I.ok.kind hk hc z (fun h' hc' hs => ?_)
   obtain ⟨oc, hoc, Wf⟩ := id z
   refine h { s with heap := h' } ⟨I.ok, I.os, I.bare, ⟨fun b o e n hb hx => ?_, fun b o e n hb hx => ?_, I.base.free, fun b o e hx => ?_, I.base.tups, I.base.pZ, I.base.sJ⟩, ⟨m, hn.sameBut hs (Ne.symm (Gu x c hc)), fun j y v' e1 e2 e3 => ?_⟩, fun y c' e => ?_, I.free, I.iI, fun p hp => ?_, tracked ⟨oc, hoc, I.iI x c hc⟩ hs, by simpa using I.len⟩ ⟨c, hs, .inr hc⟩
   . exact (hs.2 b (Nat.ne_of_lt (Nat.lt_of_lt_of_le (Heap.lt_size e) (I.ok.cab x c hfn hc)))).trans (I.base.keep b o e n hb hx)
   . obtain ⟨sl, e1⟩ := I.base.slot b o e n hb hx
     exact ⟨sl, (hs.2 b (Nat.ne_of_lt (Nat.lt_of_lt_of_le (Heap.lt_size e) (I.ok.cab x c hfn hc)))).trans e1⟩
   . obtain ⟨o', e1⟩ := I.base.there b o e hx
     exact ⟨o', (hs.2 b (Nat.ne_of_lt (Nat.lt_of_lt_of_le (Heap.lt_size e) (I.ok.cab x c hfn hc)))).trans e1⟩
   . by_cases hj : j = i
     . subst hj
       rw [hi] at e1; cases e1
       rw [List.getElem?_set_self hiσ] at e2
       cases e2
       exact ⟨u, r, .inr ⟨.inl hk, c, hc, hc'⟩⟩
     . rw [List.getElem?_set_ne (Ne.symm hj)] at e2
       obtain ⟨u', r', q⟩ := hl j y v' e1 e2 e3
       refine ⟨u', r', ?_⟩
       rcases q with q | ⟨k, c', e, z'⟩
       . exact .inl q
       . refine .inr ⟨k, c', e, z'.sameBut hs ?_⟩
         rintro rfl
         exact hj (rM hN e1 (I.ok.inj _ _ _ e hc ▸ hi))
   . by_cases hcc : c' = c
     . subst hcc; exact ⟨_, hc'⟩
     . obtain ⟨w2, z2⟩ := I.cell y c' e
       exact ⟨w2, z2.sameBut hs hcc⟩
   . obtain ⟨e, n, ne, nf, d⟩ := I.pin p hp
     refine ⟨(hs.2 p.1 ?_).trans e, n, ne, nf, d⟩
     intro q
     rw [q, hoc] at e
     have q' : oc = p.2 := Option.some.inj e
     exact d w' (by rw [<- q']; exact Wf)
theorem jG {M : Model} {A : Around} {E : Value -> Shared -> Prop} {i : Nat} {x : Str} {v : V} {u : Value} {Q : Unit -> Shared -> Prop} (I : Inv X pins σ H s) (hN : X.N.Nodup) (hi : X.N[i]? = some x) (hx : Loc X.env.scope x) (r : RelV v u)
 (h : ∀ s', Inv X pins (σ.set i (some v)) H s' -> Q () s') (hf : X.fn x = true \/ X.env.scope.names.lookup x = some .local := by first | exact .inl rfl | exact .inr rfl | assumption) : wpAny M A (storeName X.env x u) Q E s :=
 nP I hN hi hx r (fun s' I' _ => h s' I') hf
end
noncomputable abbrev XK := Value -> Option Addr -> Hp -> Prop
noncomputable abbrev St := List (Option V)
noncomputable abbrev VK := V -> Hp -> Prop
noncomputable abbrev TE := St -> Hp -> VK -> Prop
noncomputable abbrev TT := St -> Hp -> (Bool -> Hp -> Prop) -> Prop
noncomputable abbrev TA := St -> Hp -> (List V -> Hp -> Prop) -> Prop
structure Ends where
 nx : St -> Hp -> Prop
 rt : VK
 bk : St -> Hp -> Prop := fun _ _ => False
 ct : St -> Hp -> Prop := fun _ _ => False
noncomputable abbrev TS := Ends -> St -> Hp -> Prop
inductive EP (X : Cx) (pins : List (Addr × Obj)) (σ : St) (Q : VK) (u : Value) (s' : Shared) : Prop where
 | mk (v : V) (H' : Hp) (q0 : Inv X pins σ H' s') (q1 : RelV v u) (q2 : Q v H')
noncomputable def TP (X : Cx) (pins : List (Addr × Obj)) (σ : St) (Q : Bool -> Hp -> Prop) (b : Bool) (s' : Shared) : Prop := ∃ H', Inv X pins σ H' s' /\ Q b H'
inductive AP (X : Cx) (pins : List (Addr × Obj)) (σ : St) (Q : List V -> Hp -> Prop) (us : List Value) (s' : Shared) : Prop where
 | mk (vs : List V) (H' : Hp) (q0 : Inv X pins σ H' s') (q1 : Vals vs us) (q2 : Q vs H')
noncomputable def SP (X : Cx) (pins : List (Addr × Obj)) (D : Ends) (f : Flow) (s' : Shared) : Prop :=
 match f with
 | .next => ∃ σ' H', Inv X pins σ' H' s' /\ D.nx σ' H'
 | .brk => ∃ σ' H', Inv X pins σ' H' s' /\ D.bk σ' H'
 | .cont => ∃ σ' H', Inv X pins σ' H' s' /\ D.ct σ' H'
 | .ret u => ∃ v σ' H', Inv X pins σ' H' s' /\ RelV v u /\ D.rt v H'
noncomputable def PE (X : Cx) (e : Expr) (t : TE) : Prop :=
 ∀ (pins : List (Addr × Obj)) (s : Shared) (σ : St) (H : Hp) (Q : VK), Inv X pins σ H s -> t σ H Q -> wpAny (model X.prog X.w) X.A (eval e X.env) (EP X pins σ Q) X.xe s
noncomputable def PT (X : Cx) (e : Expr) (t : TT) : Prop :=
 ∀ (pins : List (Addr × Obj)) (s : Shared) (σ : St) (H : Hp) (Q : Bool -> Hp -> Prop), Inv X pins σ H s -> t σ H Q -> wpAny (model X.prog X.w) X.A (isTrue e X.env (eval e X.env)) (TP X pins σ Q) X.xe s
noncomputable def PW (X : Cx) (e : Expr) (t : TT) : Prop :=
 ∀ (whole : Sem Value) (pins : List (Addr × Obj)) (s : Shared) (σ : St) (H : Hp) (Q : Bool -> Hp -> Prop), Inv X pins σ H s -> t σ H Q -> wpAny (model X.prog X.w) X.A (isTrue e X.env whole) (TP X pins σ Q) X.xe s
theorem PW.pt {X : Cx} {e : Expr} {t : TT} (h : PW X e t) : PT X e t := h _
noncomputable def PA (X : Cx) (es : List Expr) (t : TA) : Prop :=
 ∀ (pos : Pos) (pins : List (Addr × Obj)) (s : Shared) (σ : St) (H : Hp) (Q : List V -> Hp -> Prop), Inv X pins σ H s -> t σ H Q -> wpAny (model X.prog X.w) X.A (spliced (backTo pos (starEach es X.env))) (AP X pins σ Q) X.xe s
noncomputable def PS (X : Cx) (st : Stmt) (t : TS) : Prop :=
 ∀ (pins : List (Addr × Obj)) (s : Shared) (σ : St) (H : Hp) (D : Ends), Inv X pins σ H s -> t D σ H -> wpAny (model X.prog X.w) X.A (exec st X.env) (SP X pins D) X.xe s
noncomputable def vL (X : Cx) (st : List Stmt) (t : TS) : Prop :=
 ∀ (pins : List (Addr × Obj)) (s : Shared) (σ : St) (H : Hp) (D : Ends), Inv X pins σ H s -> t D σ H -> wpAny (model X.prog X.w) X.A (execs st X.env) (SP X pins D) X.xe s
theorem cJ {α : Type} {t : Sem α} {Q Q' : α -> Shared -> Prop} {M : Model} {A : Around} {E : Value -> Shared -> Prop} {s : Shared} (h : wpAny M A t Q E s) (hQ : ∀ a s, Q a s -> Q' a s) : wpAny M A t Q' E s := wpAny_mono h hQ fun _ _ x => x
end L2
namespace L2
open PySem PySem.Spec PyProof.Rows
section
variable {X : Cx}
noncomputable def Nx (i : Nat) : TE := fun σ H Q => ∃ v, σ[i]? = some (some v) /\ Q v H
noncomputable def tC (v : V) : TE := fun _ H Q => Q v H
theorem gF {i : Nat} {x : Str} {pos : Pos} (hN : X.N[i]? = some x) (hv : xX X.env.scope x) (hd : (x == ("__debug__" : Str)) = false := by decide) (hcd : (x == ("__classdict__" : Str)) = false := by decide) : PE X (.Name x pos) (Nx i) := by
 intro pins s σ H Q I h
 obtain ⟨v, e, h⟩ := h
 obtain ⟨m, hn, hl⟩ := I.loc
 obtain ⟨u, r, l⟩ := hl i x v hN e hv
 have fin : EP X pins σ Q u s := ⟨v, H, I, r, h⟩
 rcases l with ⟨hk, hm⟩ | ⟨hk, c, hc, hcell⟩
 . exact wpAny_Name (wpAny_loadName_local I.ok.kind hk hn hm fin) hd
 . rcases hk with hk | hk
   . exact wpAny_Name (wpAny_loadName_cell I.ok.kind hk hc hcell fin) hd
   . exact wpAny_Name (wpAny_loadName_free I.ok.kind hk hc hcell fin hcd) hd
theorem G4 {i j pos} : PE X (.Constant (.int i) j pos) (tC (.int i)) := fun _ _ _ H _ I h => wpAny_Constant_int ⟨.int i, H, I.tok _, ⟨_, rfl⟩, h⟩
theorem Pn {b j pos} : PE X (.Constant (.bool b) j pos) (tC (.bl b)) := fun _ _ _ H _ I h => Constant_bool ⟨.bl b, H, I, rfl, h⟩
noncomputable def Gl (X : Cx) (x : Str) : Prop := X.env.kindOf x = some .globalImplicit
theorem BR {E : Value -> Shared -> Prop} {pins : List (Addr × Obj)} {s : Shared} {σ : St} {H : Hp} {x : Str} {u : Value} {pos : Pos} {Q : Value -> Shared -> Prop} (I : Inv X pins σ H s) (hg : Gl X x) (hm : X.mg x = some u) (h : Q u s)
 (hd : (x == ("__debug__" : Str)) = false := by decide) : wpAny (model X.prog X.w) X.A (eval (.Name x pos) X.env) Q E s :=
 Calls.Name_function_global I.ok.kind hg (Calls.loadGlobal_global (by rw [I.ok.glob]; exact I.mod.glob.keeps I.bk) hm h) hd
theorem mK {E : Value -> Shared -> Prop} {pins : List (Addr × Obj)} {s : Shared} {σ : St} {H : Hp} {x : Str} {u : Value} {pos : Pos} {Q : Value -> Shared -> Prop} (I : Inv X pins σ H s) (hg : Gl X x) (hm : X.mg x = none) (hv : bootBuiltins x = some u) (h : Q u s)
 (hn : x ≠ "__name__" := by decide) (hd : (x == ("__debug__" : Str)) = false := by decide) : wpAny (model X.prog X.w) X.A (eval (.Name x pos) X.env) Q E s := by
 obtain ⟨mb, h1, h2⟩ := I.mod.blt
 exact Calls.Name_function_global I.ok.kind hg (Calls.loadGlobal_builtin (by rw [I.ok.glob]; exact I.mod.glob.keeps I.bk) hm (by rw [I.ok.blt]; exact h1.keeps I.bk) ((h2 x hn).trans hv) h) hd
theorem Ed {x : Str} {v : V} {u : Value} {pos : Pos} (hg : Gl X x) (hm : X.mg x = none) (hv : bootBuiltins x = some u) (r : RelV v u) (hn : x ≠ "__name__" := by decide) (hd : (x == ("__debug__" : Str)) = false := by decide) : PE X (.Name x pos) (tC v) :=
 fun _ _ _ H _ I h => mK I hg hm hv ⟨v, H, I, r, h⟩ hn hd
variable {a b : Expr} {ta tb : TE} {pos : Pos}
noncomputable def tB (t : TE) : TT := fun σ H Q => t σ H fun x H1 => ∃ c, x = .bl c /\ Q c H1
theorem Je {e : Expr} {t : TE} (h : PE X e t) (he : ∀ whole, isTrue e X.env whole = (do let v <- whole; standAt e.pos; holding [v] (truthy v)) := by intro _; rfl) : PT X e (tB t) := by
 intro pins s σ H Q I hw
 refine isTrue_plain (cJ (h pins s σ H _ I hw) fun v s1 ⟨x, H1, I1, r1, q1⟩ => ?_) (he _)
 obtain ⟨d, rfl, q⟩ := q1
 cases r1
 exact wpAny_truthy_bool ⟨H1, I1, q⟩
variable {tA Ss : TT} {rest : List Expr}
noncomputable def VN (t u : TT) : TT := fun σ H Q => t σ H fun c H1 => if c = true then u σ H1 Q else Q false H1
noncomputable def tOr (t u : TT) : TT := fun σ H Q => t σ H fun c H1 => if c = true then Q true H1 else u σ H1 Q
noncomputable def TF (t : TT) : TT := fun σ H Q => t σ H fun c H1 => Q (!c) H1
theorem DW (ha : PT X a tA) : PW X (.BoolOp .And [a] pos) tA := by
 intro wh pins s σ H Q I h
 refine isTrue_and (cJ (ha pins s σ H Q I h) fun c s1 e => ?_)
 cases c with
 | true => exact isTrue_and_nil e
 | false => exact e
theorem Ip (ha : PT X a tA) : PW X (.BoolOp .Or [a] pos) tA := by
 intro wh pins s σ H Q I h
 refine isTrue_or (cJ (ha pins s σ H Q I h) fun c s1 e => ?_)
 cases c with
 | false => exact isTrue_or_nil e
 | true => exact e
theorem GR (ha : PT X a tA) (hb : PW X (.BoolOp .And (b :: rest) pos) Ss) : PW X (.BoolOp .And (a :: b :: rest) pos) (VN tA Ss) := by
 intro wh pins s σ H Q I h
 refine isTrue_and (cJ (ha pins s σ H _ I h) fun c s1 ⟨H1, I1, q1⟩ => ?_)
 cases c with
 | true => exact hb wh pins s1 σ H1 Q I1 q1
 | false => exact ⟨H1, I1, q1⟩
theorem Oe (ha : PT X a tA) (hb : PW X (.BoolOp .Or (b :: rest) pos) Ss) : PW X (.BoolOp .Or (a :: b :: rest) pos) (tOr tA Ss) := by
 intro wh pins s σ H Q I h
 refine isTrue_or (cJ (ha pins s σ H _ I h) fun c s1 ⟨H1, I1, q1⟩ => ?_)
 cases c with
 | true => exact ⟨H1, I1, q1⟩
 | false => exact hb wh pins s1 σ H1 Q I1 q1
theorem Il (ha : PT X a tA) : PT X (.UnaryOp .Not a pos) (TF tA) := by
 intro pins s σ H Q I h
 exact isTrue_not (ha pins s σ H (fun c H1 => Q (!c) H1) I h)
end
end L2
namespace L2
open PySem PySem.Spec PyProof.Rows
noncomputable def dW (K : PySem.W.Frag) (H : Hp) (a : Addr) (xs : List V) : Prop :=
 Rd H a (.lst xs) \/
  ∃ (o : Obj) (its : Array Value) (n : Nat), K.lookup a = some o /\ o.cls = .type "list" /\ o.dict = none /\ o.data = .seq its n /\ its.size <= sizeLine /\ Vals xs its.toList
noncomputable def iG (K : PySem.W.Frag) (H : Hp) (a : Addr) (xs : List V) : Prop :=
 Rd H a (.tup xs) \/
  ∃ (o : Obj) (its : Array Value) (n : Nat), K.lookup a = some o /\ o.cls = .type "tuple" /\ o.data = .seq its n /\ its.size <= sizeLine /\ Vals xs its.toList
noncomputable def U3 : Value -> Option V
 | .none => some .non
 | .bool b => some (.bl b)
 | .int i _ => some (.int i)
 | .str x _ => some (.str x)
 | .bytes b _ => some (.Wc b)
 | .float b _ => some (.flt b)
 | .ref a => some (.ref a)
 | .type n => some (.ty n)
 | _ => none
theorem RelV.abs {x : V} {u : Value} (r : RelV x u) : U3 u = some x := by
 cases x with
 | non => cases r; rfl
 | bl _ => cases r; rfl
 | int _ => obtain ⟨t, rfl⟩ := r; rfl
 | str _ => obtain ⟨t, rfl⟩ := r; rfl
 | Wc _ => obtain ⟨t, rfl⟩ := r; rfl
 | flt _ => obtain ⟨t, rfl⟩ := r; rfl
 | ref _ => cases r; rfl
 | ty _ => cases r; rfl
theorem RelV.inj {x y : V} {u : Value} (r : RelV x u) (q : RelV y u) : x = y := Option.some.inj (r.abs.symm.trans q.abs)
theorem Vals.inj : ∀ {xs ys : List V} {us : List Value}, Vals xs us -> Vals ys us -> xs = ys
 | _, _, _, .nil, .nil => rfl
 | _, _, _, .cons r t, .cons r' t' => by rw [r.inj r', Vals.inj t t']
section
variable {X : Cx} {pins : List (Addr × Obj)} {σ : St} {H : Hp} {s : Shared} {a : Addr} {xs ys : List V}
theorem dW.of {K : PySem.W.Frag} (h : H a = some (.lst xs)) : dW K H a xs := .inl (.inl h)
theorem iG.of {K : PySem.W.Frag} (h : H a = some (.tup xs)) : iG K H a xs := .inl (.inl h)
theorem Inv.list (I : Inv X pins σ H s) (h : dW X.K H a xs) : ∃ its : List Value, Vals xs its /\ PlainL s.heap a its.toArray /\ xs.length <= sizeLine := by
 rcases h with h | ⟨o, its, n, hk, hc, hd, hs, hz, r⟩
 . obtain ⟨z, its, n, r, e⟩ := h.ok I.hok
   exact ⟨its, r, ⟨_, n, e, rfl, rfl, rfl⟩, z⟩
 . refine ⟨its.toList, r, ⟨o, n, I.JZ a o hk, hc, hd, by simpa using hs⟩, ?_⟩
   have e := r.length
   simp only [Array.length_toList] at e
   omega
theorem Inv.tuple (I : Inv X pins σ H s) (h : iG X.K H a xs) : ∃ its : List Value, Vals xs its /\ IsTup s.heap a its.toArray /\ xs.length <= sizeLine := by
 rcases h with h | ⟨o, its, n, hk, hc, hs, hz, r⟩
 . obtain ⟨z, its, r, p⟩ := h.ok I.hok
   exact ⟨its, r, p, z⟩
 . refine ⟨its.toList, r, ⟨o, I.JZ a o hk, hc, n, by simpa using hs⟩, ?_⟩
   have e := r.length
   simp only [Array.length_toList] at e
   omega
theorem Inv.rB (I : Inv X pins σ H s) (h : dW X.K H a xs) (h' : dW X.K H a ys) : xs = ys := by
 obtain ⟨its, r, ⟨o, n, e, _, _, d⟩, _⟩ := I.list h
 obtain ⟨its', r', ⟨o', n', e', _, _, d'⟩, _⟩ := I.list h'
 rw [e] at e'; cases e'
 rw [d] at d'
 injection d' with d1 _
 have : its = its' := by simpa using congrArg Array.toList d1
 subst this
 exact r.inj r'
theorem Inv.nH (I : Inv X pins σ H s) (h : iG X.K H a xs) (h' : iG X.K H a ys) : xs = ys := by
 obtain ⟨its, r, ⟨o, e, _, n, d⟩, _⟩ := I.tuple h
 obtain ⟨its', r', ⟨o', e', _, n', d'⟩, _⟩ := I.tuple h'
 rw [e] at e'; cases e'
 rw [d] at d'
 injection d' with d1 _
 have : its = its' := by simpa using congrArg Array.toList d1
 subst this
 exact r.inj r'
end
noncomputable abbrev Cx.wish (X : Cx) (E : Value -> Shared -> Prop) : Cx := { X with xe := E }
noncomputable abbrev Cx.N7 (X : Cx) : Cx := X.wish fun _ _ => False
theorem Cx.Ok.wish {X : Cx} (ok : X.Ok) (E : Value -> Shared -> Prop) : (X.wish E).Ok :=
 ⟨ok.mod, ok.kind, ok.glob, ok.blt, ok.above, ok.inj, ok.has, ok.cab, ok.hd, ok.frames, ok.Sh, ok.X8, ok.bs, ok.Gi, ok.Aw, ok.Ei, ok.lQ, ok.Mu⟩
theorem Cx.Ok.gC {X : Cx} {E : Value -> Shared -> Prop} (ok : (X.wish E).Ok) : X.Ok :=
 ⟨ok.mod, ok.kind, ok.glob, ok.blt, ok.above, ok.inj, ok.has, ok.cab, ok.hd, ok.frames, ok.Sh, ok.X8, ok.bs, ok.Gi, ok.Aw, ok.Ei, ok.lQ, ok.Mu⟩
section
variable {X : Cx} {pins : List (Addr × Obj)} {σ : St} {H : Hp} {s : Shared} {E : Value -> Shared -> Prop}
theorem Inv.wish (I : Inv X pins σ H s) (E : Value -> Shared -> Prop) : Inv (X.wish E) pins σ H s := ⟨I.ok.wish E, I.os, I.bare, I.base, I.loc, I.cell, I.free, I.iI, I.pin, I.hok, I.len⟩
theorem Inv.gC (I : Inv (X.wish E) pins σ H s) : Inv X pins σ H s := ⟨I.ok.gC, I.os, I.bare, I.base, I.loc, I.cell, I.free, I.iI, I.pin, I.hok, I.len⟩
theorem SP.gC {D : Ends} {f : Flow} {s' : Shared} (h : SP (X.wish E) pins D f s') : SP X pins D f s' := by
 cases f with
 | next => obtain ⟨σ', H', I, q⟩ := h; exact ⟨σ', H', I.gC, q⟩
 | brk => obtain ⟨σ', H', I, q⟩ := h; exact ⟨σ', H', I.gC, q⟩
 | cont => obtain ⟨σ', H', I, q⟩ := h; exact ⟨σ', H', I.gC, q⟩
 | ret u => obtain ⟨v, σ', H', I, r, q⟩ := h; exact ⟨v, σ', H', I.gC, r, q⟩
theorem vL.N7 {st : List Stmt} {t : TS} (h : vL X.N7 st t) : vL X st t := fun pins s σ H D I hw =>
 wpAny_mono (h pins s σ H D (I.wish _) hw) (fun _ _ q => q.gC) fun _ _ z => False.elim z
end
section
variable {X : Cx} {st : Stmt} {rest : List Stmt} {t u : TS} {e : Expr} {te : TE} {pos : Pos}
noncomputable def OD : TS := fun D σ H => D.nx σ H
noncomputable def Ur (t u : TS) : TS := fun D σ H => t { D with nx := u D } σ H
theorem Dl : vL X [] OD := fun _ _ σ H _ I h => wpAny_execs_nil ⟨σ, H, I, h⟩
theorem Ah (h1 : PS X st t) (h2 : vL X rest u) : vL X (st :: rest) (Ur t u) := by
 intro pins s σ H D I h
 refine wpAny_execs_cons (cJ (h1 pins s σ H { D with nx := u D } I h) fun f s1 q => ?_)
 cases f with
 | next =>
   obtain ⟨σ', H', I', q⟩ := q
   exact h2 pins s1 σ' H' D I' q
 | ret v => exact q
 | brk => exact q
 | cont => exact q
theorem Inv.quiet {pins : List (Addr × Obj)} {σ : St} {H : Hp} {s : Shared} (I : Inv X pins σ H s) : interactive X.env = false := by simp [interactive, I.ok.kind]
noncomputable def Nq (te : TE) : TS := fun D σ H => te σ H fun _ H1 => D.nx σ H1
theorem vD (he : PE X e te) (hs : swapsWith e none pos.line X.env = pure false := by rfl) : PS X (.Expr e pos) (Nq te) := by
 intro pins s σ H D I h
 exact wpAny_Expr_any (cJ (he pins s σ H _ I h) fun v s1 ⟨x, H1, I1, r1, q1⟩ => ⟨σ, H1, I1, q1⟩) I.quiet hs
noncomputable def UL (te : TE) : TS := fun D σ H => te σ H D.rt
theorem zH (he : PE X e te) : PS X (.Return (some e) pos) (UL te) := by
 intro pins s σ H D I h
 exact wpAny_Return_some (cJ (he pins s σ H _ I h) fun v s1 ⟨x, H1, I1, r1, q1⟩ => ⟨x, σ, H1, I1, r1, q1⟩)
noncomputable def Vy (c : TT) (t u : TS) : TS := fun D σ H => c σ H fun b H1 => if b = true then t D σ H1 else u D σ H1
theorem Oq {c : Expr} {a b : List Stmt} {tc : TT} (hc : PT X c tc) (ha : vL X a t) (hb : vL X b u) : PS X (.If c a b pos) (Vy tc t u) := by
 intro pins s σ H D I h
 refine wpAny_If (cJ (hc pins s σ H _ I h) fun d s1 ⟨H1, I1, q1⟩ => ?_)
 cases d with
 | true => exact ha pins s1 σ H1 D I1 q1
 | false => exact hb pins s1 σ H1 D I1 q1
end
noncomputable abbrev TG := V -> St -> Hp -> (St -> Hp -> Prop) -> Prop
noncomputable abbrev xV := List V -> St -> Hp -> (St -> Hp -> Prop) -> Prop
noncomputable def PG (X : Cx) (target : Expr) (t : TG) : Prop :=
 ∀ (pins : List (Addr × Obj)) (s : Shared) (σ : St) (H : Hp) (v : V) (u : Value) (Q : St -> Hp -> Prop), Inv X pins σ H s -> RelV v u -> t v σ H Q ->
   wpAny (model X.prog X.w) X.A (assign target X.env u) (fun _ s' => ∃ σ' H', Inv X pins σ' H' s' /\ Q σ' H') X.xe s
noncomputable def Ry (X : Cx) (ts : List Expr) (t : xV) : Prop :=
 ∀ (pins : List (Addr × Obj)) (s : Shared) (σ : St) (H : Hp) (vs : List V) (us : List Value) (Q : St -> Hp -> Prop), Inv X pins σ H s -> Vals vs us -> t vs σ H Q ->
   wpAny (model X.prog X.w) X.A (assignInOrder ((assignEach ts X.env).map (·.2)) us) (fun _ s' => ∃ σ' H', Inv X pins σ' H' s' /\ Q σ' H') X.xe s
noncomputable abbrev GK := V -> V -> V -> Hp -> (Hp -> Prop) -> Prop
noncomputable def O9 (X : Cx) (t : GK) : Prop :=
 ∀ (pins : List (Addr × Obj)) (s : Shared) (σ : St) (H : Hp) (o i v : V) (ov iv u : Value) (Q : Hp -> Prop), Inv X pins σ H s -> RelV o ov -> RelV i iv -> RelV v u -> t o i v H Q ->
   wpAny (model X.prog X.w) X.A (setItem ov iv u) (fun _ s' => ∃ H', Inv X pins σ H' s' /\ Q H') X.xe s
section
variable {X : Cx} {pos : Pos}
noncomputable def mJ (i : Nat) : TG := fun v σ H Q => Q (σ.set i (some v)) H
theorem aG {i : Nat} {x : Str} (hN : X.N.Nodup) (hi : X.N[i]? = some x) (hx : Loc X.env.scope x) (hf : X.fn x = true \/ X.env.scope.names.lookup x = some .local := by first | exact .inl rfl | exact .inr rfl | assumption) : PG X (.Name x pos) (mJ i) := by
 intro pins s σ H v u Q I r h
 exact wpAny_assign_Name (jG I hN hi hx r (fun s' I' => ⟨_, H, I', h⟩) hf)
noncomputable def Ir : xV := fun vs σ H Q => vs = [] /\ Q σ H
noncomputable def za (t : TG) (u : xV) : xV := fun vs σ H Q => ∃ v r, vs = v :: r /\ t v σ H fun σ' H' => u r σ' H' Q
theorem eU : Ry X [] Ir := by
 intro pins s σ H vs us Q I r h
 obtain ⟨e, h⟩ := h
 subst e
 cases r
 exact assignInOrder_nil ⟨σ, H, I, h⟩
theorem aL {e : Expr} {es : List Expr} {t : TG} {u : xV} (h1 : PG X e t) (h2 : Ry X es u)
 (hs : (assignEach (e :: es) X.env).map (·.2) = assign e X.env :: (assignEach es X.env).map (·.2) := by rfl) : Ry X (e :: es) (za t u) := by
 intro pins s σ H vs us Q I r h
 obtain ⟨v, vr, e1, h⟩ := h
 subst e1
 cases r with
 | cons r rr =>
   rw [hs]
   refine assignInOrder_cons (cJ (h1 pins s σ H _ _ _ I r h) fun _ s1 ⟨σ1, H1, I1, q1⟩ => ?_)
   exact h2 pins s1 σ1 H1 _ _ Q I1 rr q1
noncomputable def GF (K : PySem.W.Frag) (n : Nat) (t : xV) : TG := fun v σ H Q => ∃ a xs, v = .ref a /\ iG K H a xs /\ xs.length = n /\ t xs σ H Q
theorem gK {es : List Expr} {k : Nat} {t : xV} {n : Nat} (hc : X.calm = true) (h : Ry X es t)
 (hn : (assignEach es X.env).length = n := by rfl) (hst : (assignEach es X.env).findIdx? (·.1) = none := by rfl) : PG X (.Tuple es k pos) (GF X.K n t) := by
 intro pins s σ H v u Q I r hw
 obtain ⟨a, xs, e1, hq, hl, hw⟩ := hw
 subst e1
 cases r
 obtain ⟨its, rv, ht, hz⟩ := I.tuple hq
 refine assign_Tuple_tuple (I.ok.hd hc) ht (by simp [hn, <- hl, rv.length]) hst fun h' hx => ?_
 have I1 : Inv X pins σ H { s with heap := h' } := I.kept (t' := s.toks) fun b o e => hx b o (Nat.ne_of_lt (Heap.lt_size e)) e
 exact h pins _ σ H xs _ Q I1 (by simpa using rv) hw
noncomputable def Tw (to ti : TE) (t : GK) : TG := fun v σ H Q => to σ H fun o H1 => ti σ H1 fun i H2 => t o i v H2 fun H3 => Q σ H3
theorem GZ {o i : Expr} {to ti : TE} {t : GK} (ho : PE X o to) (hi : PE X i ti) (hs : O9 X t)
 (ha : ∀ v, assign (.Subscript o i pos) X.env v = (do
  let ov <- holding [v] (eval o X.env)
  let iv <- holding [v, ov] (eval i X.env)
  standAt pos
  holding [v, ov, iv] (setItem ov iv v)
  release [v, ov, iv] []) := by intro _; rfl) : PG X (.Subscript o i pos) (Tw to ti t) := by
 intro pins s σ H v u Q I r h
 rw [ha]
 refine wpAny_bind (wpAny_holding (cJ (ho pins s σ H _ I h) fun ov s1 ⟨x, H1, I1, r1, q1⟩ => ?_))
 refine wpAny_bind (wpAny_holding (cJ (hi pins s1 σ H1 _ I1 q1) fun iv s2 ⟨y, H2, I2, r2, q2⟩ => ?_))
 refine wpAny_bind (wpAny_standAt (wpAny_bind (wpAny_holding (cJ (hs pins s2 σ H2 x y v ov iv u _ I2 r1 r2 r q2) fun _ s3 ⟨H3, I3, q3⟩ => ?_))))
 exact wpAny_release ⟨σ, H3, I3, q3⟩
noncomputable def Hc (te : TE) (g : TG) : TS := fun D σ H => te σ H fun x H1 => g x σ H1 D.nx
theorem Aa {tg e : Expr} {te : TE} {g : TG} (he : PE X e te) (hg : PG X tg g) (hs : swapsWithSole [tg] e pos.line X.env = pure false := by rfl) (hw : swappedStores [tg] e X.env = pure none := by rfl)
 (h1 : (assignEach [tg] X.env).map (·.2) = [assign tg X.env] := by rfl) : PS X (.Assign [tg] e pos) (Hc te g) := by
 intro pins s σ H D I h
 refine wpAny_Assign_stores (cJ (he pins s σ H _ I h) fun v s1 ⟨x, H1, I1, r1, q1⟩ => ?_) hs hw
 rw [h1]
 exact cJ (hg pins s1 σ H1 x v _ I1 r1 q1) fun _ s2 q => q
theorem zj {i : Nat} {x : Str} {e : Expr} {te : TE} {pos' : Pos} (hN : X.N.Nodup) (hi : X.N[i]? = some x) (hx : Loc X.env.scope x) (he : PE X e te) (hs : swapsWith e (some (.Name x pos')) pos.line X.env = pure false := by rfl) (hf : X.fn x = true \/ X.env.scope.names.lookup x = some .local := by first | exact .inl rfl | exact .inr rfl | assumption) :
 PS X (.Assign [.Name x pos'] e pos) (Hc te (mJ i)) := by
 intro pins s σ H D I h
 refine wpAny_Assign_Name (cJ (he pins s σ H _ I h) fun v s1 ⟨y, H1, I1, r1, q1⟩ => ?_) hs
 exact jG I1 hN hi hx r1 (fun s2 I2 => ⟨_, H1, I2, q1⟩) hf
noncomputable def Th (i j : Nat) (ta : TA) : TS := fun D σ H => ta σ H fun vs H1 => ∃ v w, vs = [v, w] /\ D.nx ((σ.set i (some v)).set j (some w)) H1
theorem Ij {i j : Nat} {x y : Str} {a b : Expr} {ta : TA} {px py pt : Pos} {kt k2 J6} (hc : X.calm = true) (hN : X.N.Nodup) (hi : X.N[i]? = some x) (hj : X.N[j]? = some y) (hij : i ≠ j)
 (hx : X.env.scope.names.lookup x = some .local) (hy : X.env.scope.names.lookup y = some .local) (ha : PA X [a, b] ta)
 (hw : swappedStores [.Tuple [.Name x px, .Name y py] kt pt] (.Tuple [a, b] k2 J6) X.env = pure (some [x, y]))
 (hs : swapsWithSole [.Tuple [.Name x px, .Name y py] kt pt] (.Tuple [a, b] k2 J6) pos.line X.env = pure false := by rfl) :
 PS X (.Assign [.Tuple [.Name x px, .Name y py] kt pt] (.Tuple [a, b] k2 J6) pos) (Th i j ta) := by
 intro pins s σ H D I h
 rw [exec_Assign_arm]
 refine wpAny_bind (wpAny_standAt ?_)
 rw [hs]
 refine wpAny_bind (wpAny_pure ?_)
 rw [if_neg (by decide)]
 refine wpAny_bind (Tuple_ (cJ (ha _ pins s σ H _ I h) fun us s1 ⟨vs, H1, I1, r1, q1⟩ => ?_))
 obtain ⟨v, w, e1, q1⟩ := q1
 subst e1
 obtain ⟨u1, u2, rfl, rv, xO⟩ : ∃ u1 u2, us = [u1, u2] /\ RelV v u1 /\ RelV w u2 := by
  cases r1 with
  | cons p q =>
    cases q with
    | cons p' q' =>
      cases q'
      exact ⟨_, _, rfl, p, p'⟩
 refine wpAny_newObj_type ?_ (by show 2 <= sizeLine; decide)
 have I2 : Inv X pins σ H1 { s1 with heap := s1.heap.push { cls := .type "tuple", data := .seq [u1, u2].toArray } } := I1.kept (t' := s1.toks) fun b o e => Heap.get?_push_of_some _ e
 rw [hw]
 refine wpAny_bind (wpAny_pure ?_)
 show wpAny (model X.prog X.w) X.A (do rule "assign.swapped-stores"; let items <- unpackItems (.ref s1.heap.objs.size) 2 none; assignInOrder [fun v => bindName X.env y v, fun v => bindName X.env x v] items.reverse; pure Flow.next) _ _ _
 refine wpAny_bind (wpAny_rule (wpAny_bind (unpackItems_tuple (items := #[u1, u2]) (I.ok.hd hc) (IsTup.new s1.heap _) fun h' hx' => ?_)))
 have I3 := I2.kept (h' := h') (t' := s1.toks) fun b o e => hx' b o (Nat.ne_of_lt (Heap.lt_size e)) e
 show wpAny _ _ (assignInOrder [fun v => bindName X.env y v, fun v => bindName X.env x v] [u2, u1] >>= fun _ => pure Flow.next) _ _ _
 refine wpAny_bind (assignInOrder_cons (wpAny_bindName (jG I3 hN hj (.inl hy) xO (fun s2 I4 => ?_) (.inr hy))))
 refine assignInOrder_cons (wpAny_bindName (jG I4 hN hi (.inl hx) rv (fun s3 I5 => assignInOrder_nil (wpAny_pure ?_)) (.inr hx)))
 rw [List.set_comm _ _ (Ne.symm hij)] at I5
 exact ⟨_, H1, I5, q1⟩
end
structure It where
 go : Nat -> Hp -> Prop
 J7 : Nat -> Hp -> V -> Hp -> Prop
 stop : Nat -> Hp -> Prop
noncomputable def mQ (X : Cx) (pins : List (Addr × Obj)) (H : Hp) (b : Addr) : Prop :=
 H b = none /\ b ≠ X.env.locals /\ b ∉ X.fs /\ (b ∈ X.ex \/ X.s₀.heap.objs.size <= b) /\ (∀ x c, X.env.cells.lookup x = some c -> c ≠ b) /\ ∀ p ∈ X.pn ++ pins, p.1 ≠ b
theorem Inv.Dv {X : Cx} {pins : List (Addr × Obj)} {σ : St} {H H' : Hp} {s : Shared} {b : Addr} (I : Inv X pins σ H s) (hb : s.heap.objs.size <= b) (hn : H' b = none) : mQ X pins H' b := by
 refine ⟨hn, Nat.ne_of_gt (Nat.lt_of_lt_of_le I.lt hb), I.Tz hb, .inr (Nat.le_trans I.sz hb), fun x c e z => ?_, fun p hp z => ?_⟩
 . obtain ⟨v, q⟩ := I.cell x c e
   exact absurd (Nat.lt_of_lt_of_le q.lt (by rw [z]; exact hb)) (Nat.lt_irrefl _)
 . exact absurd (Nat.lt_of_lt_of_le (Heap.lt_size (I.pin p hp).1) (by rw [z]; exact hb)) (Nat.lt_irrefl _)
structure Turn (P : Program) (w : World) (K : PySem.W.Frag) (tg : Expr) (J : It) (fp : List Addr) (it : Addr) (tn : Nat -> Heap -> Prop) : Prop where
 mem : it ∈ fp
 obj : ∀ i h, tn i h -> ∀ b ∈ fp, ∃ o, h.get? b = some o /\ ∀ v, o.data ≠ .cell v
 keep : ∀ i h h', tn i h -> (∀ b ∈ fp, ∀ o, h.get? b = some o -> h'.get? b = some o) -> tn i h'
 item : ∀ (X : Cx), X.prog = P -> X.w = w -> X.K = K -> X.calm = true -> ∀ (i : Nat) (pins : List (Addr × Obj)) (s : Shared) (σ : St) (H : Hp) (E : Value -> Shared -> Prop), Inv X pins σ H s -> (∀ b ∈ fp, mQ X pins H b) -> tn i s.heap -> J.go i H ->
  wpAny (model P w) X.A (pyNext (.ref it)) (fun r s1 => ∃ u, r = some u /\
   wpAny (model P w) X.A (letOwnedTupleGo tg (.ref it) u) (fun _ s2 => ∃ x H', Inv X pins σ H' s2 /\ RelV x u /\ J.J7 i H x H' /\ tn (i + 1) s2.heap /\ ∀ b ∈ fp, H' b = none) E s1) E s
 done : ∀ (X : Cx), X.prog = P -> X.w = w -> X.K = K -> X.calm = true -> ∀ (i : Nat) (pins : List (Addr × Obj)) (s : Shared) (σ : St) (H : Hp) (E : Value -> Shared -> Prop), Inv X pins σ H s -> (∀ b ∈ fp, mQ X pins H b) -> tn i s.heap -> J.stop i H ->
  wpAny (model P w) X.A (pyNext (.ref it)) (fun r s1 => r = none /\ Inv X pins σ H s1) E s
 self : ∀ (A : Around) (i : Nat) (s : Shared) (Q : Value -> Shared -> Prop) (E : Value -> Shared -> Prop), tn i s.heap -> Q (.ref it) s -> wpAny (model P w) A (pyIter (.ref it)) Q E s
noncomputable abbrev TI := St -> Hp -> (It -> Hp -> Prop) -> Prop
noncomputable def PIE (X : Cx) (pins : List (Addr × Obj)) (σ : St) (tg : Expr) (R : It -> Hp -> Prop) (itv : Value) (s2 : Shared) : Prop :=
 ∃ (it : Addr) (fp : List Addr) (tn : Nat -> Heap -> Prop) (J : It) (H' : Hp), itv = .ref it /\ Inv X pins σ H' s2 /\ Turn X.prog X.w X.K tg J fp it tn /\ tn 0 s2.heap /\ (∀ b ∈ fp, mQ X pins H' b) /\ R J H'
noncomputable def PI (X : Cx) (tg iter : Expr) (wi : TI) : Prop :=
 ∀ (pins : List (Addr × Obj)) (s : Shared) (σ : St) (H : Hp) (R : It -> Hp -> Prop), Inv X pins σ H s -> wi σ H R ->
   wpAny (model X.prog X.w) X.A (eval iter X.env) (fun v s1 => wpAny (model X.prog X.w) X.A (pyIter v) (PIE X pins σ tg R) X.xe s1) X.xe s
theorem zW {M : Model} {A : Around} {E : Value -> Shared -> Prop} {s : Shared} {tg : Expr} {it : Addr} {u : Value} {o : Obj} {n : String} {vs : Array Value} {Q : Unit -> Shared -> Prop} (ho : s.heap.get? it = some o) (hc : o.cls = .type n) (hd : o.data = .fields vs)
 (hn : ["enumerate", "zip", "dict_itemiterator", "dict_reverseitemiterator", "odict_iterator", "itertools.zip_longest", "itertools.pairwise"].contains n = false) (hQ : Q () s) : wpAny M A (letOwnedTupleGo tg (.ref it) u) Q E s := by
 unfold letOwnedTupleGo
 cases tg <;> first
  | exact wpAny_pure hQ
  | (cases u <;> first
   | exact wpAny_pure hQ
   | (refine wpAny_bind (wpAny_load ho ?_)
      rw [hc, hd]
      show wpAny M A (if (["enumerate", "zip", "dict_itemiterator", "dict_reverseitemiterator", "odict_iterator", "itertools.zip_longest", "itertools.pairwise"].contains n && vs[0]? == some (rawInt _)) = true then _ else _) Q E s
      rw [if_neg (by intro h; rw [hn, Bool.false_and] at h; cases h)]
      exact wpAny_pure hQ))
noncomputable def JK (K : PySem.W.Frag) (a : Addr) : It :=
 ⟨fun i H => ∃ xs x, dW K H a xs /\ xs[i]? = some x, fun i H x H' => H' = H /\ ∀ xs, dW K H a xs -> xs[i]? = some x, fun i H => ∃ xs, dW K H a xs /\ xs.length <= i⟩
noncomputable def KY (K : PySem.W.Frag) (a : Addr) : It :=
 ⟨fun i H => ∃ xs x, iG K H a xs /\ xs[i]? = some x, fun i H x H' => H' = H /\ ∀ xs, iG K H a xs -> xs[i]? = some x, fun i H => ∃ xs, iG K H a xs /\ xs.length <= i⟩
noncomputable def M9 (lo : Int) (n : Nat) : It := ⟨fun i _ => i < n, fun i H x H' => H' = H /\ x = .int (lo + i), fun i _ => n <= i⟩
theorem wO {P : Program} {w : World} {K : PySem.W.Frag} {tg : Expr} (a it : Addr) : Turn P w K tg (JK K a) [it] it (fun i h => h.IsListIter it a i) where
 mem := by simp
 obj := fun i h st b hb => by
  have e : b = it := by simpa using hb
  subst e
  obtain ⟨o, e, c, d⟩ := st
  exact ⟨o, e, fun v z => by rw [d] at z; cases z⟩
 keep := fun i h h' st k => st.at fun o e => k it (by simp) o e
 item := by
  intro X hP hw hK hc i pins s σ H E I hf st hg
  subst hP hw hK
  obtain ⟨xs, x, hq, hx⟩ := hg
  obtain ⟨its, rv, p, hz⟩ := I.list hq
  obtain ⟨u, hu, ru⟩ := rv.get hx
  obtain ⟨f0, f1, f2, f3, f4, f5⟩ := hf it (by simp)
  refine wpAny_pyNext_list_item st p.isList (x := u) (by simpa using hu) fun h' st' sb => ?_
  have I1 : Inv X pins σ H { s with heap := h' } := I.turned (t' := s.toks) (fun b o hb e => (sb.2 b hb).trans e) f0 f1 f3 f4 f5
  obtain ⟨o, e, c, d⟩ := id st'
  exact ⟨u, rfl, zW (s := { s with heap := h' }) e c d (by decide) ⟨x, H, I1, ru, ⟨rfl, fun ys hy => by rw [I.rB hy hq]; exact hx⟩, st', fun b hb => (hf b hb).1⟩⟩
 done := by
  intro X hP hw hK hc i pins s σ H E I hf st hg
  subst hP hw hK
  obtain ⟨xs, hq, hx⟩ := hg
  obtain ⟨its, rv, p, hz⟩ := I.list hq
  obtain ⟨f0, f1, f2, f3, f4, f5⟩ := hf it (by simp)
  have hl := rv.length
  exact wpAny_pyNext_list_end (I.ok.hd hc) st p.isList (by simp; omega) fun h' eb => ⟨rfl, I.turned (t' := s.toks) (fun b o hb e => eb b o hb e) f0 f1 f3 f4 f5⟩
 self := fun _ _ _ _ _ st h => wpAny_pyIter_listiter st h
theorem uA {P : Program} {w : World} {K : PySem.W.Frag} {tg : Expr} (a it : Addr) : Turn P w K tg (KY K a) [it] it (fun i h => h.IsTupleIter it a i) where
 mem := by simp
 obj := fun i h st b hb => by
  have e : b = it := by simpa using hb
  subst e
  obtain ⟨o, e, c, d⟩ := st
  exact ⟨o, e, fun v z => by rw [d] at z; cases z⟩
 keep := fun i h h' st k => st.at fun o e => k it (by simp) o e
 item := by
  intro X hP hw hK hc i pins s σ H E I hf st hg
  subst hP hw hK
  obtain ⟨xs, x, hq, hx⟩ := hg
  obtain ⟨its, rv, p, hz⟩ := I.tuple hq
  obtain ⟨u, hu, ru⟩ := rv.get hx
  obtain ⟨f0, f1, f2, f3, f4, f5⟩ := hf it (by simp)
  refine wpAny_pyNext_tuple_item st (show s.heap.IsTuple a its.toArray from p) (x := u) (by simpa using hu) fun h' st' sb => ?_
  have I1 : Inv X pins σ H { s with heap := h' } := I.turned (t' := s.toks) (fun b o hb e => (sb.2 b hb).trans e) f0 f1 f3 f4 f5
  obtain ⟨o, e, c, d⟩ := id st'
  exact ⟨u, rfl, zW (s := { s with heap := h' }) e c d (by decide) ⟨x, H, I1, ru, ⟨rfl, fun ys hy => by rw [I.nH hy hq]; exact hx⟩, st', fun b hb => (hf b hb).1⟩⟩
 done := by
  intro X hP hw hK hc i pins s σ H E I hf st hg
  subst hP hw hK
  obtain ⟨xs, hq, hx⟩ := hg
  obtain ⟨its, rv, p, hz⟩ := I.tuple hq
  obtain ⟨f0, f1, f2, f3, f4, f5⟩ := hf it (by simp)
  have hl := rv.length
  exact wpAny_pyNext_tuple_end (I.ok.hd hc) st (show s.heap.IsTuple a its.toArray from p) (by simp; omega) fun h' eb => ⟨rfl, I.turned (t' := s.toks) (fun b o hb e => eb b o hb e) f0 f1 f3 f4 f5⟩
 self := fun _ _ _ _ _ st h => wpAny_pyIter_tupleiter st h
theorem uD {P : Program} {w : World} {K : PySem.W.Frag} {tg : Expr} (it : Addr) (lo : Int) (n : Nat) : Turn P w K tg (M9 lo n) [it] it (fun i h => IsRangeIter h it (lo + (i : Nat) * 1) ((n : Int) - (i : Nat)) 1) where
 mem := by simp
 obj := fun i h st b hb => by
  have e : b = it := by simpa using hb
  subst e
  exact ⟨_, st, fun v z => by
   have z' : Data.fields _ = Data.cell v := z
   cases z'⟩
 keep := fun i h h' st k => k it (by simp) _ st
 item := by
  intro X hP hw hK hc i pins s σ H E I hf st hg
  subst hP hw hK
  obtain ⟨f0, f1, f2, f3, f4, f5⟩ := hf it (by simp)
  have W := Walks.range (prog := X.prog) (w := X.w) (I.ok.hd hc) it lo 1 n
  refine W.item i s _ _ hg st fun v h' tk hv st' kk => ?_
  obtain ⟨t, rfl⟩ := hv
  have I1 : Inv X pins σ H { s with heap := h', toks := tk } := I.turned (fun b o hb e => kk b o (by simpa using hb) e) f0 f1 f3 f4 f5
  refine ⟨_, rfl, zW (s := { s with heap := h', toks := tk }) (n := "range_iterator") st' rfl rfl (by decide) ⟨.int (lo + i), H, I1, ⟨t, ?_⟩, ⟨rfl, rfl⟩, st', fun b hb => (hf b hb).1⟩⟩
  rw [Int.mul_one]
 done := by
  intro X hP hw hK hc i pins s σ H E I hf st hg
  subst hP hw hK
  obtain ⟨f0, f1, f2, f3, f4, f5⟩ := hf it (by simp)
  exact wpAny_pyNext_range_end (I.ok.hd hc) st (by have : n <= i := hg; omega) fun h' eb => ⟨rfl, I.turned (t' := s.toks) (fun b o hb e => eb b o hb e) f0 f1 f3 f4 f5⟩
 self := fun _ _ _ _ _ st h => wpAny_pyIter_rangeiter st h
end L2
namespace L2
open PySem PySem.Spec PyProof.Rows
section
variable {X : Cx} {tg : Expr}
theorem qU {pins : List (Addr × Obj)} {σ : St} {H : Hp} {s : Shared} {R : It -> Hp -> Prop} {E : Value -> Shared -> Prop} {lo hi : Int} {t u v : Tok} {tk : Nat} (I : Inv X pins σ H s) (h1 : -(2 ^ 62) <= lo) (h2 : lo < 2 ^ 62) (h3 : -(2 ^ 62) <= hi) (h4 : hi < 2 ^ 62)
 (q : R (M9 lo (hi - lo).toNat) H) : wpAny (model X.prog X.w) X.A (pyIter (.ref s.heap.objs.size)) (PIE X pins σ tg R) E { s with heap := s.heap.push { cls := .type "range", data := .fields #[.int lo t, .int hi u, .int 1 v] }, toks := tk } := by
 refine wpAny_pyIter_range (IsRange.new ..) (small_one h1 h2 h3 h4) ?_
 have I1 : Inv X pins σ H { s with heap := s.heap.push { cls := .type "range", data := .fields #[.int lo t, .int hi u, .int 1 v] }, toks := tk } := I.kept fun b o e => Heap.get?_push_of_some _ e
 refine ⟨(s.heap.push { cls := .type "range", data := .fields #[.int lo t, .int hi u, .int 1 v] }).objs.size, [(s.heap.push { cls := .type "range", data := .fields #[.int lo t, .int hi u, .int 1 v] }).objs.size], _, _, H, rfl,
  I1.kept (t' := tk) fun b o e => Heap.get?_push_of_some _ e, uD _ lo (hi - lo).toNat, ?_, fun b hb => ?_, q⟩
 . have e1 : lo + ((0 : Nat) : Int) * 1 = lo := by simp
   have e2 : (((hi - lo).toNat : Nat) : Int) - ((0 : Nat) : Int) = Builtin.Range.rangeSize lo hi 1 := by rw [rangeSize_one]; split <;> omega
   show IsRangeIter _ _ (lo + ((0 : Nat) : Int) * 1) ((((hi - lo).toNat : Nat) : Int) - ((0 : Nat) : Int)) 1
   rw [e1, e2]
   exact Heap.get?_push_size _ rfl
 . have e : b = (s.heap.push { cls := .type "range", data := .fields #[.int lo t, .int hi u, .int 1 v] }).objs.size := by simpa using hb
   subst e
   exact I1.Dv (Nat.le_refl _) (I1.hok.fresh (Nat.le_refl _))
noncomputable def O3 (ta : TA) : TI := fun σ H R => ta σ H fun vs H1 => ∃ j : Int, vs = [.int j] /\ -(2 ^ 62) <= j /\ j < 2 ^ 62 /\ R (M9 0 j.toNat) H1
noncomputable def Nm (ta : TA) : TI := fun σ H R => ta σ H fun vs H1 => ∃ i j : Int, vs = [.int i, .int j] /\ (-(2 ^ 62) <= i /\ i < 2 ^ 62 /\ -(2 ^ 62) <= j /\ j < 2 ^ 62) /\ R (M9 i (j - i).toNat) H1
theorem xm {a : Expr} {ta : TA} {p pos : Pos} (hg : Gl X "range") (hm : X.mg "range" = none) (ha : PA X [a] ta) (hs : starEach [a] X.env = [(false, eval a X.env)] := by rfl) : PI X tg (.Call (.Name "range" p) [a] [] pos) (O3 ta) := by
 intro pins s σ H R I h
 refine Call_ (mK I hg hm boot_range (PyProof.Rows.callWith_type1 (cJ (ha pos pins s σ H _ I h) fun us s1 ⟨vs, H1, I1, r1, q1⟩ => ?_) hs rfl))
 obtain ⟨j, e, q1, q2, q⟩ := q1
 subst e
 cases r1 with
 | cons r rr =>
   cases rr
   obtain ⟨t, rfl⟩ := r
   exact call_range_1 (qU I1 (by omega) (by omega) q1 q2 (by simpa using q))
theorem xu {a b : Expr} {ta : TA} {p pos : Pos} (hg : Gl X "range") (hm : X.mg "range" = none) (ha : PA X [a, b] ta) (hs : starEach [a, b] X.env = [(false, eval a X.env), (false, eval b X.env)] := by rfl) (hs2 : starEach [b] X.env = [(false, eval b X.env)] := by rfl) :
 PI X tg (.Call (.Name "range" p) [a, b] [] pos) (Nm ta) := by
 intro pins s σ H R I h
 refine Call_ (mK I hg hm boot_range (PyProof.Rows.callWith_type1 (cJ (ha pos pins s σ H _ I h) fun us s1 ⟨vs, H1, I1, r1, q1⟩ => ?_) (by rw [hs, hs2]) (by rw [hs2]; rfl)))
 obtain ⟨i, j, e, ⟨q1, q2, q3, q4⟩, q⟩ := q1
 subst e
 cases r1 with
 | cons r rr =>
   cases rr with
   | cons r' rr =>
     cases rr
     obtain ⟨t, rfl⟩ := r
     obtain ⟨t', rfl⟩ := r'
     exact call_range_2 (qU I1 q1 q2 q3 q4 q)
noncomputable def Vp (wi : TI) (g : TG) (tb : TS) : TS := fun D σ H => wi σ H fun J H1 => ∃ W : Nat -> Nat -> St -> Hp -> Prop, (∃ m, W 0 m σ H1) /\ ∀ i m σ H, W i m σ H ->
 (J.stop i H /\ D.nx σ H) \/ (J.go i H /\ ∃ N : St -> Hp -> Prop, (∀ σ' H', N σ' H' -> ∃ m', m' < m /\ W (i + 1) m' σ' H') /\ ∀ x H', J.J7 i H x H' -> g x σ H' fun σ2 H2 => tb { D with nx := N, ct := N, bk := D.nx } σ2 H2)
noncomputable def lV (fp : List Addr) (h : Heap) : List (Addr × Obj) := fp.filterMap fun b => (h.get? b).map fun o => (b, o)
theorem fK {fp : List Addr} {h : Heap} {b : Addr} {o : Obj} (hb : b ∈ fp) (e : h.get? b = some o) : (b, o) ∈ lV fp h := List.mem_filterMap.mpr ⟨b, hb, by rw [e]; rfl⟩
theorem wN {fp : List Addr} {h : Heap} {p : Addr × Obj} (hp : p ∈ lV fp h) : p.1 ∈ fp /\ h.get? p.1 = some p.2 := by
 obtain ⟨b, hb, e⟩ := List.mem_filterMap.mp hp
 cases q : h.get? b with
 | none => rw [q] at e; cases e
 | some o =>
   rw [q] at e
   have e' : (b, o) = p := Option.some.inj e
   subst e'
   exact ⟨hb, q⟩
theorem Inv.pinned {pins : List (Addr × Obj)} {σ : St} {H : Hp} {s : Shared} {fp : List Addr} (I : Inv X pins σ H s) (hf : ∀ b ∈ fp, mQ X pins H b) (ho : ∀ b ∈ fp, ∃ o, s.heap.get? b = some o /\ ∀ v, o.data ≠ .cell v) : Inv X (pins ++ lV fp s.heap) σ H s :=
 I.vI fun p hp => (List.mem_append.mp hp).elim (fun z => I.pin p (List.mem_append_right _ z)) fun z => by
  obtain ⟨hb, e⟩ := wN z
  obtain ⟨f0, f1, f2, _⟩ := hf p.1 hb
  obtain ⟨o, e', d⟩ := ho p.1 hb
  rw [e] at e'; cases e'
  exact ⟨e, f0, f1, f2, d⟩
theorem Inv.jk {pins pl : List (Addr × Obj)} {σ : St} {H : Hp} {s : Shared} (I : Inv X (pins ++ pl) σ H s) : Inv X pins σ H s := I.vI fun p hp => I.pin p (List.mem_append_right _ (List.mem_append_left _ hp))
theorem yM {iter : Expr} {body : List Stmt} {wi : TI} {g : TG} {tb : TS} {pos : Pos} (hp : PassesOwn (model X.prog X.w) X.A X.env X.xe) (hc : X.calm = true) (hi : PI X tg iter wi) (hg : PG X tg g) (hb : vL X body tb)
 (hs : ∀ x, foldedSetIterable iter X.env x = pure x := by intro _; rfl) : PS X (.For tg iter body [] pos) (Vp wi g tb) := by
 intro pins s σ H D I h
 refine wpAny_For (cJ (hi pins s σ H _ I h) fun v s1 h1 => cJ h1 fun itv s2 h2 => ?_) hs
 obtain ⟨it, fp, tn, J, H2, e, I2, T, st2, f2, W, ⟨m0, w0⟩, turn⟩ := h2
 subst e
 -- what stays true of the iterator's objects through the loop
 have stat : ∀ {H' : Hp}, (∀ b ∈ fp, H' b = none) -> ∀ b ∈ fp, mQ X pins H' b := fun hn b hb => ⟨hn b hb, (f2 b hb).2⟩
 refine codeAny_forLoop_any (fun n s' => ∃ i σ' H', Inv X pins σ' H' s' /\ tn i s'.heap /\ (∀ b ∈ fp, H' b = none) /\ W i n σ' H') ?_ m0 ⟨0, σ, H2, I2, st2, fun b hb => (f2 b hb).1, w0⟩
 rintro n s3 ⟨i, σ3, H3, I3, st3, Yd, w3⟩
 rcases turn i n σ3 H3 w3 with ⟨stop, qn⟩ | ⟨go, N, hN, step⟩
 . refine wpAny_passesOwn hp (cJ (T.done X rfl rfl rfl hc i pins s3 σ3 H3 X.xe I3 (stat Yd) st3 stop) fun r s4 ⟨hr, I4⟩ => ?_)
   subst hr
   exact wpAny_execs_nil ⟨σ3, H3, I4, qn⟩
 . refine wpAny_passesOwn hp (cJ (T.item X rfl rfl rfl hc i pins s3 σ3 H3 X.xe I3 (stat Yd) st3 go) fun r s4 ⟨u, hr, h4⟩ => ?_)
   subst hr
   refine wpAny_passesOwn hp (cJ h4 fun _ s5 ⟨x, H5, I5, r5, y5, Ej, fr5⟩ => ?_)
   have I5' := I5.pinned (stat fr5) (T.obj _ _ Ej)
   refine wpAny_passesOwn hp (cJ (hg _ s5 σ3 H5 x u _ I5' r5 (step x H5 y5)) fun _ s6 ⟨σ6, H6, I6, q6⟩ => ?_)
   refine wpAny_passesOwn hp (cJ (hb _ s6 σ6 H6 _ I6 q6) fun f s7 q7 => ?_)
   have again : ∀ {σ7 : St} {H7 : Hp}, Inv X (pins ++ lV fp s5.heap) σ7 H7 s7 -> N σ7 H7 -> ∃ m, m < n /\ ∃ i σ' H', Inv X pins σ' H' s7 /\ tn i s7.heap /\ (∀ b ∈ fp, H' b = none) /\ W i m σ' H' := fun {σ7 H7} I7 n7 => by
    obtain ⟨m', hm, w7⟩ := hN σ7 H7 n7
    refine ⟨m', hm, i + 1, σ7, H7, I7.jk, T.keep _ _ _ Ej fun b hb o e => (I7.pin (b, o) (List.mem_append_right _ (List.mem_append_right _ (fK hb e)))).1, fun b hb => ?_, w7⟩
    obtain ⟨o, e, d⟩ := T.obj _ _ Ej b hb
    exact (I7.pin (b, o) (List.mem_append_right _ (List.mem_append_right _ (fK hb e)))).2.1
   cases f with
   | next => obtain ⟨σ7, H7, I7, n7⟩ := q7; exact again I7 n7
   | cont => obtain ⟨σ7, H7, I7, n7⟩ := q7; exact again I7 n7
   | brk => obtain ⟨σ7, H7, I7, q7⟩ := q7; exact ⟨σ7, H7, I7.jk, q7⟩
   | ret v => obtain ⟨x7, σ7, H7, I7, r7, q7⟩ := q7; exact ⟨x7, σ7, H7, I7.jk, r7, q7⟩
end
end L2
namespace L2
open PySem PySem.Spec PyProof.Rows
noncomputable abbrev R2 := V -> V -> Hp -> VK -> Prop
noncomputable def fP (X : Cx) (f : Value -> Value -> Sem Value) (r : R2) : Prop :=
 ∀ (pins : List (Addr × Obj)) (s : Shared) (σ : St) (H : Hp) (x y : V) (v u : Value) (Q : VK), Inv X pins σ H s -> RelV x v -> RelV y u -> r x y H Q ->
   wpAny (model X.prog X.w) X.A (f v u) (EP X pins σ Q) X.xe s
noncomputable def Ut (X : Cx) (f : Value -> Sem Value) (r : V -> Hp -> VK -> Prop) : Prop :=
 ∀ (pins : List (Addr × Obj)) (s : Shared) (σ : St) (H : Hp) (x : V) (v : Value) (Q : VK), Inv X pins σ H s -> RelV x v -> r x H Q ->
   wpAny (model X.prog X.w) X.A (f v) (EP X pins σ Q) X.xe s
noncomputable def cV (X : Cx) (f : Value) (r : List V -> Hp -> VK -> Prop) : Prop :=
 ∀ (pins : List (Addr × Obj)) (s : Shared) (σ : St) (H : Hp) (xs : List V) (us : List Value) (Q : VK), Inv X pins σ H s -> Vals xs us -> r xs H Q ->
   wpAny (model X.prog X.w) X.A (call f us) (EP X pins σ Q) X.xe s
noncomputable def Lq (r : R2) (ta tb : TE) : TE := fun σ H Q => ta σ H fun x H1 => tb σ H1 fun y H2 => r x y H2 Q
noncomputable def Xc (r : V -> Hp -> VK -> Prop) (ta : TE) : TE := fun σ H Q => ta σ H fun x H1 => r x H1 Q
noncomputable def rI (C : Int -> Int -> Prop) (g : Int -> Int -> V) : R2 := fun x y H Q => ∃ i j, x = .int i /\ y = .int j /\ C i j /\ Q (g i j) H
noncomputable def Bt (g : Int -> Int -> V) : R2 := fun x y H Q => ∃ i j, x = .int i /\ y = .int j /\ Q (g i j) H
noncomputable def rU (g : Int -> V) : V -> Hp -> VK -> Prop := fun x H Q => ∃ i, x = .int i /\ Q (g i) H
section
variable {X : Cx} {a b c : Expr} {ta tb tc : TE} {pos : Pos}
theorem Hl (ha : PE X a ta) (hb : PE X b tb) {pins : List (Addr × Obj)} {s : Shared} {σ : St} {H : Hp} {R : V -> V -> Hp -> Prop} (I : Inv X pins σ H s)
 (h : ta σ H fun x H1 => tb σ H1 fun y H2 => R x y H2) {Q : Value -> Shared -> Prop} {f : Value -> Value -> Sem Value}
 (hf : ∀ v u s2 x y H2, Inv X pins σ H2 s2 -> RelV x v -> RelV y u -> R x y H2 -> wpAny (model X.prog X.w) X.A (f v u) Q X.xe s2) :
 wpAny (model X.prog X.w) X.A (eval a X.env) (fun v s₁ => wpAny (model X.prog X.w) X.A (eval b X.env) (fun u s₂ => wpAny (model X.prog X.w) X.A (f v u) Q X.xe s₂) X.xe s₁) X.xe s := by
 refine cJ (ha pins s σ H _ I h) fun v s1 ⟨x, H1, I1, r1, q1⟩ => ?_
 refine cJ (hb pins s1 σ H1 _ I1 q1) fun u s2 ⟨y, H2, I2, r2, q2⟩ => ?_
 exact hf v u s2 x y H2 I2 r1 r2 q2
theorem M5 {op : Operator} {r : R2} (ho : fP X (binaryOp op) r) (ha : PE X a ta) (hb : PE X b tb) : PE X (.BinOp a op b pos) (Lq r ta tb) := by
 intro pins s σ H Q I h
 exact wpAny_BinOp (Hl ha hb I h fun v u s2 x y H2 I2 rx ry q => ho pins s2 σ H2 x y v u Q I2 rx ry q)
theorem Od {op : UnaryOp} {r : V -> Hp -> VK -> Prop} (ho : Ut X (unaryOp op) r) (ha : PE X a ta) : PE X (.UnaryOp op a pos) (Xc r ta) := by
 intro pins s σ H Q I h
 exact UnaryOp_ (cJ (ha pins s σ H _ I h) fun v s1 ⟨x, H1, I1, r1, q1⟩ => ho pins s1 σ H1 x v Q I1 r1 q1)
theorem Vw {f : Value -> Value -> Sem Value} {C : Int -> Int -> Prop} {g : Int -> Int -> Int}
 (rule : ∀ (i j : Int) (t u : Tok) (s : Shared) (Q : Value -> Shared -> Prop) (E : Value -> Shared -> Prop), C i j -> Q (.int (g i j) s.toks) { s with toks := s.toks + 1 } -> wpAny (model X.prog X.w) X.A (f (.int i t) (.int j u)) Q E s) :
 fP X f (rI C fun i j => .int (g i j)) := by
 intro pins s σ H x y v u Q I rx ry h
 obtain ⟨i, j, rfl, rfl, hc, q⟩ := h
 obtain ⟨t, rfl⟩ := rx
 obtain ⟨t', rfl⟩ := ry
 exact rule i j t t' s _ _ hc ⟨.int (g i j), H, I.tok _, ⟨_, rfl⟩, q⟩
theorem Om {f : Value -> Value -> Sem Value} {g : Int -> Int -> Int}
 (rule : ∀ (i j : Int) (t u : Tok) (s : Shared) (Q : Value -> Shared -> Prop) (E : Value -> Shared -> Prop), Q (.int (g i j) s.toks) { s with toks := s.toks + 1 } -> wpAny (model X.prog X.w) X.A (f (.int i t) (.int j u)) Q E s) :
 fP X f (Bt fun i j => .int (g i j)) := by
 intro pins s σ H x y v u Q I rx ry h
 obtain ⟨i, j, rfl, rfl, q⟩ := h
 obtain ⟨t, rfl⟩ := rx
 obtain ⟨t', rfl⟩ := ry
 exact rule i j t t' s _ _ ⟨.int (g i j), H, I.tok _, ⟨_, rfl⟩, q⟩
theorem HB {f : Value -> Value -> Sem Value} {g : Int -> Int -> Bool}
 (rule : ∀ (i j : Int) (t u : Tok) (s : Shared) (Q : Value -> Shared -> Prop) (E : Value -> Shared -> Prop), Q (.bool (g i j)) s -> wpAny (model X.prog X.w) X.A (f (.int i t) (.int j u)) Q E s) :
 fP X f (Bt fun i j => .bl (g i j)) := by
 intro pins s σ H x y v u Q I rx ry h
 obtain ⟨i, j, rfl, rfl, q⟩ := h
 obtain ⟨t, rfl⟩ := rx
 obtain ⟨t', rfl⟩ := ry
 exact rule i j t t' s _ _ ⟨.bl (g i j), H, I, rfl, q⟩
noncomputable def T5 (i j : Int) : Prop := 0 <= j /\ j <= 1000000 /\ i.natAbs < 2 ^ 64
noncomputable def Hu (i j : Int) : Prop := (-(2 ^ 64) < i /\ i < 2 ^ 64) \/ (-(2 ^ 64) < j /\ j < 2 ^ 64)
theorem Hu.ok {i j : Int} (h : Hu i j) : IntMulOk i j := by
 rcases h with ⟨h1, h2⟩ | ⟨h1, h2⟩
 . exact .of_left (intBits_le_64 h1 h2)
 . exact .of_right (intBits_le_64 h1 h2)
theorem Hr : fP X (binaryOp .Add) (Bt fun i j => .int (i + j)) := Om fun _ _ _ _ _ _ _ q => add_int q
theorem JH : fP X (binaryOp .Sub) (Bt fun i j => .int (i - j)) := Om fun _ _ _ _ _ _ _ q => sub_int q
theorem Jt : fP X (binaryOp .Mult) (rI Hu fun i j => .int (i * j)) := Vw fun _ _ _ _ _ _ _ hc q => mul_int q hc.ok
theorem IV : fP X (binaryOp .Mod) (rI (fun _ j => 0 < j) fun i j => .int (i % j)) := Vw fun i j _ _ _ _ _ hc q => by
 have h1 : (0 : Int) < j := hc
 exact mod_int' (by omega) (by rw [Int.fmod_eq_emod_of_nonneg i (by omega)]; exact q)
theorem Ih : fP X (binaryOp .Pow) (rI T5 fun i j => .int (i ^ j.toNat)) := Vw fun _ _ _ _ _ _ _ hc q => pow_int_small hc.1 hc.2.1 hc.2.2 q
theorem unI {f : Value -> Sem Value} {g : Int -> Int}
 (rule : ∀ (i : Int) (t : Tok) (s : Shared) (Q : Value -> Shared -> Prop) (E : Value -> Shared -> Prop), Q (.int (g i) s.toks) { s with toks := s.toks + 1 } -> wpAny (model X.prog X.w) X.A (f (.int i t)) Q E s) :
 Ut X f (rU fun i => .int (g i)) := by
 intro pins s σ H x v Q I rx h
 obtain ⟨i, rfl, q⟩ := h
 obtain ⟨t, rfl⟩ := rx
 exact rule i t s _ _ ⟨.int (g i), H, I.tok _, ⟨_, rfl⟩, q⟩
theorem Hw : Ut X (unaryOp .USub) (rU fun i => .int (-i)) := unI fun _ _ _ _ _ q => neg_int q
end
section
variable {X : Cx} {a b c : Expr} {ta tb tc : TE} {pos : Pos}
theorem Qq : fP X (compareOp .Lt) (Bt fun i j => .bl (decide (i < j))) := HB fun _ _ _ _ _ _ _ q => lt_int q
theorem Ob : fP X (compareOp .LtE) (Bt fun i j => .bl (decide (i <= j))) := HB fun _ _ _ _ _ _ _ q => le_int q
theorem Ov : fP X (compareOp .Gt) (Bt fun i j => .bl (decide (j < i))) := HB fun _ _ _ _ _ _ _ q => gt_int q
theorem bC (b : Expr) {op : CmpOp} (h : op ≠ .In := by decide) (h2 : op ≠ .NotIn := by decide) : behindInMarks op b = false := by
 have e1 : (op == CmpOp.In) = false := by cases op <;> first | rfl | exact absurd rfl h
 have e2 : (op == CmpOp.NotIn) = false := by cases op <;> first | rfl | exact absurd rfl h2
 cases b <;> simp [behindInMarks, e1, e2]
theorem CW {op : CmpOp} {r : R2} (ho : fP X (compareOp op) r) (ha : PE X a ta) (hb : PE X b tb) (hm : behindInMarks op b = false) : PE X (.Compare a [op] [b] pos) (Lq r ta tb) := by
 intro pins s σ H Q I h
 exact wpAny_Compare1 (Hl ha hb I h fun v u s2 x y H2 I2 rx ry q => ho pins s2 σ H2 x y v u Q I2 rx ry q) hm
noncomputable def O7 (t : TE) : TT := fun σ H Q => t σ H fun x H' => ∃ k, x = .bl k /\ Q k H'
theorem BX {op : CmpOp} {r : R2} (ho : fP X (compareOp op) r) (ha : PE X a ta) (hb : PE X b tb) (hm : behindInMarks op b = false) : PT X (.Compare a [op] [b] pos) (O7 (Lq r ta tb)) := by
 intro pins s σ H Q I h
 refine wpAny_isTrue_Compare1 (cJ (ha pins s σ H _ I h) fun v s1 ⟨x, H1, I1, r1, q1⟩ => cJ (hb pins s1 σ H1 _ I1 q1) fun u s2 ⟨y, H2, I2, r2, q2⟩ =>
  cJ (ho pins s2 σ H2 x y v u _ I2 r1 r2 q2) fun c s3 ⟨z, H3, I3, r3, k, e, q3⟩ => ?_) hm
 subst e
 cases r3
 exact wpAny_truthy_bool ⟨H3, I3, q3⟩
theorem pF : (sizeLine : Nat) < 2 ^ 63 := by rw [sizeLine_eq]; decide
theorem uC : fP X (binaryOp .Add) (fun x y H Q => ∃ i j, x = .str i /\ y = .str j /\ i.length + j.length <= sizeLine /\ Q (.str (i ++ j)) H) := by
 intro pins s σ H x y v u Q I rx ry h
 obtain ⟨i, j, rfl, rfl, hz, q⟩ := h
 obtain ⟨t, rfl⟩ := rx
 obtain ⟨t', rfl⟩ := ry
 exact add_str (fun t' tk => ⟨.str (i ++ j), H, I.tok _, ⟨_, rfl⟩, q⟩) hz
theorem vals1 {x : V} {us : List Value} (r : Vals [x] us) : ∃ u, us = [u] /\ RelV x u := by
 cases r with
 | cons r1 r2 => cases r2; exact ⟨_, rfl, r1⟩
theorem vals2 {x y : V} {us : List Value} (r : Vals [x, y] us) : ∃ u w', us = [u, w'] /\ RelV x u /\ RelV y w' := by
 cases r with
 | cons r1 r2 =>
   cases r2 with
   | cons r3 r4 => cases r4; exact ⟨_, _, rfl, r1, r3⟩
theorem xg (hc : X.calm = true) : cV X (.builtin "max") (fun xs H Q => ∃ i j, xs = [.int i, .int j] /\ Q (.int (if j > i then j else i)) H) := by
 intro pins s σ H xs us Q I r h
 obtain ⟨i, j, rfl, q⟩ := h
 obtain ⟨u, w', rfl, ⟨t, rfl⟩, ⟨t', rfl⟩⟩ := vals2 r
 refine max_two_ints (I.ok.hd hc) fun h' tk k => ⟨_, H, I.kept k, ?_, q⟩
 by_cases hj : j > i
 . rw [if_pos hj, if_pos hj]; exact ⟨_, rfl⟩
 . rw [if_neg hj, if_neg hj]; exact ⟨_, rfl⟩
theorem wC (hc : X.calm = true) : cV X (.builtin "min") (fun xs H Q => ∃ i j, xs = [.int i, .int j] /\ Q (.int (if j < i then j else i)) H) := by
 intro pins s σ H xs us Q I r h
 obtain ⟨i, j, rfl, q⟩ := h
 obtain ⟨u, w', rfl, ⟨t, rfl⟩, ⟨t', rfl⟩⟩ := vals2 r
 refine min_two_ints (I.ok.hd hc) fun h' tk k => ⟨_, H, I.kept k, ?_, q⟩
 by_cases hj : j < i
 . rw [if_pos hj, if_pos hj]; exact ⟨_, rfl⟩
 . rw [if_neg hj, if_neg hj]; exact ⟨_, rfl⟩
end
end L2
namespace L2
open PySem PySem.Spec PyProof.Rows
theorem kI.some_of {v : V} {o : Option Value} (r : kI (some v) o) : ∃ u, o = some u /\ RelV v u := by
 cases o with
 | none => exact (show False from r).elim
 | some u => exact ⟨u, rfl, r⟩
end L2
namespace L2
open PySem PySem.Spec PyProof.Rows
structure gO (k : Nat) (A : Around) : Prop where
 hd : A.handled = none
 dp : A.depth + 3 * k + 5 < recursionLimit
 un : A.units + 16 * k + 200 < cLine
theorem gO.deeper {k : Nat} {A : Around} (r : gO (k + 1) A) (env : Env) : gO k (A.deeper env) :=
 ⟨r.hd, by have := r.dp; show A.depth + 1 + 3 * k + 5 < _; omega, by have := r.un; show A.units + 3 + 16 * k + 200 < _; omega⟩
theorem gO.depth {k : Nat} {A : Around} (r : gO k A) : A.depth < recursionLimit := by have := r.dp; omega
noncomputable def V8 : TA := fun _ H Q => Q [] H
noncomputable def Ph (ta : TE) (tr : TA) : TA := fun σ H Q => ta σ H fun x H1 => tr σ H1 fun xs H2 => Q (x :: xs) H2
section
variable {X : Cx} {e : Expr} {es : List Expr} {te : TE} {t : TA} {pos : Pos}
theorem gb : PA X [] V8 := fun _ _ _ _ H Q I h => Calls.spliced_nil ⟨[], H, I, .nil, h⟩
theorem bT (ha : PE X e te) (hr : PA X es t) (hs : starEach (e :: es) X.env = (false, eval e X.env) :: starEach es X.env := by rfl) : PA X (e :: es) (Ph te t) := by
 intro pos pins s σ H Q I h
 rw [hs]
 show wpAny _ _ (spliced ((false, eval e X.env) :: backTo pos (starEach es X.env))) _ _ s
 refine Calls.spliced_cons (cJ (ha pins s σ H _ I h) fun u s1 ⟨x, H1, I1, r1, q1⟩ => ?_)
 exact cJ (hr pos pins s1 σ H1 _ I1 q1) fun us s2 ⟨xs, H2, I2, r2, q2⟩ => ⟨x :: xs, H2, I2, .cons r1 r2, q2⟩
noncomputable def U8 (t : TA) : TE := fun σ H Q => t σ H fun xs H1 => xs.length <= sizeLine /\ ∀ p, H1 p = none -> Q (.ref p) (upd H1 p (.tup xs))
noncomputable def U4 (t : TA) : TE := fun σ H Q => t σ H fun xs H1 => xs.length <= sizeLine /\ ∀ p, H1 p = none -> Q (.ref p) (upd H1 p (.lst xs))
theorem pN {x1} (h : PA X es t) : PE X (.Tuple es x1 pos) (U8 t) := by
 intro pins s σ H Q I hq
 refine wpAny_Tuple_spliced (cJ (h pos pins s σ H _ I hq) fun us s1 ⟨xs, H1, I1, r, z, q⟩ => ⟨by rw [<- r.length]; exact z, ?_⟩)
 have hf : H1 s1.heap.objs.size = none := I1.hok.fresh (Nat.le_refl _)
 refine ⟨.ref s1.heap.objs.size, upd H1 s1.heap.objs.size (.tup xs), I1.laid (t' := s1.toks) (fun b u e => Heap.get?_push_of_some _ e) (Nat.le_refl _) ?_, rfl, q _ hf⟩
 exact ⟨z, us, r, ⟨_, Heap.get?_push_size _ rfl, rfl, _, rfl⟩⟩
theorem zV (h : PA X es t) : PE X (.List es pos) (U4 t) := by
 intro pins s σ H Q I hq
 refine wpAny_List_spliced (cJ (h pos pins s σ H _ I hq) fun us s1 ⟨xs, H1, I1, r, z, q⟩ => ⟨by rw [<- r.length]; exact z, ?_⟩)
 have hf : H1 s1.heap.objs.size = none := I1.hok.fresh (Nat.le_refl _)
 refine ⟨.ref s1.heap.objs.size, upd H1 s1.heap.objs.size (.lst xs), I1.laid (t' := s1.toks) (fun b u e => Heap.get?_push_of_some _ e) (Nat.le_refl _) ?_, rfl, q _ hf⟩
 exact ⟨z, us, 0, r, Heap.get?_push_size _ rfl⟩
end
noncomputable abbrev Sp := List V -> Hp -> VK -> XK -> Prop
noncomputable abbrev Ac := List Env -> Hp -> Shared -> XK -> Value -> Shared -> Prop
structure BV (P : Program) (w : World) (K : PySem.W.Frag) (mg : Str -> Option Value) (base : Heap) (A : Around) (outer : List Env) (s : Shared) (H : Hp) : Prop where
 frames : A.frames = some outer
 mod : Mod K mg base
 bs : ∀ b o, base.get? b = some o -> s.heap.get? b = some o /\ H b = none
 Gi : base.objs.size <= s.heap.objs.size
 lQ : s.heap.FunFrames base outer
 Mu : ∀ b ∈ frs outer, H b = none
 hok : jK P w H s.heap
 bare : AllBare s.gens
noncomputable def CE (outer : List Env) (P : Program) (w : World) (H : Hp) (s : Shared) (Q : VK) (u : Value) (s' : Shared) : Prop :=
 ∃ v H', s'.os = s.os /\ AllBare s'.gens /\ Un (frs outer) [] H H' s.heap s'.heap /\ jK P w H' s'.heap /\ RelV v u /\ Q v H'
noncomputable def CR (CX : Ac) (outer : List Env) (P : Program) (w : World) (H : Hp) (s : Shared) (Q : VK) (E : XK) (r : Result) (s' : Shared) : Prop :=
 match r with
 | .ok (.ret u) => CE outer P w H s Q u s'
 | .ok _ => False
 | .error e => CX outer H s E e s'
structure cT (P : Program) (w : World) (K : PySem.W.Frag) (mg : Str -> Option Value) (base : Heap) (CX : Ac) (k : Nat) (f : Addr) (fd : FuncData) (ps : List Str) (sp : Sp) : Prop where
 len : ∀ vs H Q E, sp vs H Q E -> vs.length = ps.length
 run : ∀ (A : Around) (outer : List Env) (s : Shared) (H : Hp) (args : Args) (us : List Value) (vs : List V) (Q : VK) (E : XK), gO k A -> BV P w K mg base A outer s H -> BindsTo s fd args (ps.zip us) -> Vals vs us -> sp vs H Q E ->
  codeAny (model P w) A (.call (.ref f) args) (CR CX outer P w H s Q E) s
section
variable {X : Cx} {pins : List (Addr × Obj)} {σ : St} {H : Hp} {s s' : Shared}
theorem Inv.env0 (I : Inv X pins σ H s) : BV X.prog X.w X.K X.mg X.base X.A X.stack s H :=
 ⟨I.ok.frames, I.ok.mod, I.bs, Nat.le_trans I.ok.Gi I.sz, I.stack, I.vH, I.hok, I.bare⟩
theorem Inv.after {Q : VK} {u : Value} (I : Inv X pins σ H s) (h : CE X.stack X.prog X.w H s Q u s') : EP X pins σ Q u s' := by
 obtain ⟨v, H', os, bare, un, hok, r, q⟩ := h
 obtain ⟨hh, g, d, t, os'⟩ := s'
 obtain rfl : os' = s.os := os
 exact ⟨v, H', I.call (h' := hh) (g' := g) (d' := d) (t' := t) (ch := []) un hok bare (fun b z => absurd z (by simp)), r, q⟩
end
noncomputable def Oi (sp : Sp) (Gk : List V) (E : XK) (t : TA) : TE := fun σ H Q => t σ H fun vs H1 => sp (vs ++ Gk) H1 Q E
noncomputable def Binds (K : PySem.W.Frag) (fd : FuncData) (ps : List Str) (ds : List Value) : Prop :=
 ∀ (s : Shared) (us : List Value), K.In s.heap -> (us ++ ds).length = ps.length -> BindsTo s fd ⟨us, []⟩ (ps.zip (us ++ ds))
theorem Binds.all {K : PySem.W.Frag} {fd : FuncData} {ps : List Str} (h : ∀ us : List Value, us.length = ps.length -> bindArgs fd ⟨us, []⟩ = pure (ps.zip us)) : Binds K fd ps [] := fun s us _ hl => by
 rw [List.append_nil] at hl ⊢
 exact .of_eq (h us hl)
noncomputable def Passes (CX : Ac) (X : Cx) (E : XK) : Prop := ∀ (pins : List (Addr × Obj)) (σ : St) (H : Hp) (s : Shared) (e : Value) (s' : Shared), Inv X pins σ H s -> CX X.stack H s E e s' -> X.xe e s'
section
variable {X : Cx} {CX : Ac} {k : Nat} {f C : Addr} {fd : FuncData} {ps : List Str} {sp : Sp} {Gk : List V} {ds : List Value} {E : XK} {x m : Str} {p pos apos : Pos} {e o : Expr} {es : List Expr} {ta : TE} {t : TA}
theorem GX {pins : List (Addr × Obj)} {σ : St} {H : Hp} {s : Shared} {Q : VK} {us : List Value} {vs : List V} (F : cT X.prog X.w X.K X.mg X.base CX k f fd ps sp) (hr : gO k X.A) (hb : Binds X.K fd ps ds) (hd : Vals Gk ds) (hx : Passes CX X E)
 (I : Inv X pins σ H s) (r : Vals vs us) (h : sp (vs ++ Gk) H Q E) : wpAny (model X.prog X.w) X.A (call (.ref f) us) (EP X pins σ Q) X.xe s := by
 have r2 : Vals (vs ++ Gk) (us ++ ds) := r.append hd
 have hl : (us ++ ds).length = ps.length := by rw [<- r2.length]; exact F.len _ _ _ _ h
 refine wpAny_call (codeAny_mono (F.run X.A X.stack s H ⟨us, []⟩ (us ++ ds) (vs ++ Gk) Q E hr I.env0 (hb s us I.JZ hl) r2 h) fun r s' hq => ?_)
 cases r with
 | error e => exact hx pins σ H s e s' I hq
 | ok fl =>
   cases fl with
   | ret u => exact I.after hq
   | next => exact False.elim hq
   | brk => exact False.elim hq
   | cont => exact False.elim hq
theorem Bk (F : cT X.prog X.w X.K X.mg X.base CX k f fd ps sp) (hr : gO k X.A) (hg : Gl X x) (hm : X.mg x = some (.ref f)) (hk : PySem.W.keepIn X.K (.ref f) = true) (hb : Binds X.K fd ps ds) (hd : Vals Gk ds) (hx : Passes CX X E)
 (ha : PA X (e :: es) t) (hdb : (x == ("__debug__" : Str)) = false := by decide) (he : starEach (e :: es) X.env = (false, eval e X.env) :: starEach es X.env := by rfl) (hpl : (backTo pos (starEach es X.env)).any (·.1) = false := by rfl) :
 PE X (.Call (.Name x p) (e :: es) [] pos) (Oi sp Gk E t) := by
 intro pins s σ H Q I h
 refine wpAny_Call_Name_kw (BR I hg hm ?_ hdb)
 refine PySem.W.callWith_K (h₀ := X.base) I.ok.mod.We hk (cJ (ha pos pins s σ H _ I h) fun us s1 ⟨vs, H1, I1, r, q⟩ => ⟨I1.JZ, ?_⟩) he hpl
 exact GX F hr hb hd hx I1 r q
end
structure bj (N P : List Str) (sc : Scope) : Prop where
 kind : sc.kind = .function
 co : sc.isCoroutine = false
 gen : sc.isGenerator = false
 nd : N.Nodup
 pre : N.take P.length = P
 par : ∀ x ∈ P, sc.names.lookup x = some .local \/ sc.names.lookup x = some .cell
 J8 : ∀ y ∈ sc.names, y.2 ≠ .free
theorem nQ {kindOf : Str -> Option NameKind} {x : Str} : ∀ {binds : List (Str × Value)} {m : Str -> Option Value}, (∀ v, (x, v) ∉ binds) -> bindL kindOf binds m x = m x
 | [], _, _ => rfl
 | (n, v) :: r, m, h => by
   unfold bindL
   rw [nQ fun w hw => h w (List.mem_cons_of_mem _ hw)]
   split
   . have : x ≠ n := by rintro rfl; exact h v List.mem_cons_self
     simp [this]
   . rfl
theorem ou {kindOf : Str -> Option NameKind} {x : Str} : ∀ {binds : List (Str × Value)} {m : Str -> Option Value}, (∀ v, (x, v) ∉ binds) -> bindC kindOf binds m x = m x
 | [], _, _ => rfl
 | (n, v) :: r, m, h => by
   unfold bindC
   rw [ou fun w hw => h w (List.mem_cons_of_mem _ hw)]
   split
   . rfl
   . have : x ≠ n := by rintro rfl; exact h v List.mem_cons_self
     simp [this]
theorem oh {kindOf : Str -> Option NameKind} {x : Str} {v : Value} : ∀ {P : List Str} {vs : List Value} {i : Nat} {m : Str -> Option Value}, P.Nodup -> P[i]? = some x -> vs[i]? = some v -> kindOf x = some .local ->
 bindL kindOf (P.zip vs) m x = some v
 | [], _, _, _, _, h, _, _ => by simp at h
 | _ :: _, [], _, _, _, _, h, _ => by simp at h
 | p :: P, w :: vs, 0, m, nd, h1, h2, hk => by
   simp at h1 h2; subst h1; subst h2
   show bindL kindOf ((p, w) :: P.zip vs) m p = _
   unfold bindL
   rw [nQ fun v hv => (List.nodup_cons.mp nd).1 (List.of_mem_zip hv).1, if_pos hk]
   simp
 | p :: P, w :: vs, i + 1, m, nd, h1, h2, hk => by
   show bindL kindOf ((p, w) :: P.zip vs) m x = _
   unfold bindL
   exact oh (i := i) (List.nodup_cons.mp nd).2 (by simpa using h1) (by simpa using h2) hk
theorem nT {kindOf : Str -> Option NameKind} {x : Str} {v : Value} : ∀ {P : List Str} {vs : List Value} {i : Nat} {m : Str -> Option Value}, P.Nodup -> P[i]? = some x -> vs[i]? = some v -> kindOf x ≠ some .local ->
 bindC kindOf (P.zip vs) m x = some v
 | [], _, _, _, _, h, _, _ => by simp at h
 | _ :: _, [], _, _, _, _, h, _ => by simp at h
 | p :: P, w :: vs, 0, m, nd, h1, h2, hk => by
   simp at h1 h2; subst h1; subst h2
   show bindC kindOf ((p, w) :: P.zip vs) m p = _
   unfold bindC
   rw [ou fun v hv => (List.nodup_cons.mp nd).1 (List.of_mem_zip hv).1, if_neg hk]
   simp
 | p :: P, w :: vs, i + 1, m, nd, h1, h2, hk => by
   show bindC kindOf ((p, w) :: P.zip vs) m x = _
   unfold bindC
   exact nT (i := i) (List.nodup_cons.mp nd).2 (by simpa using h1) (by simpa using h2) hk
noncomputable def start (N : List Str) (vs : List V) : St := vs.map some ++ List.replicate (N.length - vs.length) none
noncomputable def tZ (CX : Ac) (P : Program) (w : World) (K : PySem.W.Frag) (mg : Str -> Option Value) (base : Heap) (N : List Str) (qual : Str) (scope : Scope) (f : Addr) (cd : Value) (A : Around) (outer : List Env) (s : Shared) (H : Hp) (E : XK) : Cx where
 prog := P
 w := w
 K := K
 mg := mg
 base := base
 A := A.deeper (envOfC qual scope s.heap.objs.size f cd)
 N := N
 s₀ := s
 H₀ := H
 env := envOfC qual scope s.heap.objs.size f cd
 outer := outer
 stack := envOfC qual scope s.heap.objs.size f cd :: outer
 ex := []
 calm := true
 fn := fun _ => true
 pn := []
 xe := fun e s' => wpAny (model P w) (A.deeper (envOfC qual scope s.heap.objs.size f cd)) (leaving (envOfC qual scope s.heap.objs.size f cd) e) (fun _ s'' => CX outer H s E e s'') (fun e' s'' => CX outer H s E e' s'') s'
theorem qH {sc : Scope} {n : Nat} {x : Str} (h : sc.names.lookup x = some .cell) : ∃ c, (cellsFrom n sc.names []).lookup x = some c := by
 have q := PySem.W.cellsFrom_some sc.names n [] (.inl h)
 exact Option.isSome_iff_exists.mp q
theorem wR {CX : Ac} {P : Program} {w : World} {K : PySem.W.Frag} {mg : Str -> Option Value} {base : Heap} {N ps : List Str} {qual : Str} {scope : Scope} {f : Addr} {cd : Value} {A : Around} {outer : List Env} {s s1 : Shared} {H : Hp} {E : XK} {us : List Value} {vs : List V}
 (S : bj N ps scope) (hd : A.handled = none) (e0 : BV P w K mg base A outer s H) (hl : vs.length = ps.length) (r : Vals vs us)
 (x : InCallC s s.heap.objs.size (bindL (envOfC qual scope s.heap.objs.size f cd).kindOf (ps.zip us) fun _ => none) (cellsFrom (s.heap.objs.size + 1) scope.names []) (bindC (envOfC qual scope s.heap.objs.size f cd).kindOf (ps.zip us) fun _ => none) s1) :
 Inv (tZ CX P w K mg base N qual scope f cd A outer s H E) [] (start N vs) H s1 := by
 have hpl : ps.length <= N.length := by have := congrArg List.length S.pre; rw [List.length_take] at this; omega
 obtain ⟨h1, tk, rfl, hk⟩ := x.done
 have Qx : ∀ b : Addr, b ∉ (tZ CX P w K mg base N qual scope f cd A outer s H E).ex := fun b z => absurd (show b ∈ ([] : List Addr) from z) (by simp)
 refine ⟨⟨e0.mod, S.kind, rfl, rfl, Nat.le_refl _, fun y z c h1 h2 => ?_, fun y hy => ?_, fun y c _ h => ?_, fun _ => hd, Around.frames_deeper e0.frames, .inr ⟨rfl, rfl⟩, fun b z => absurd z (Qx b), e0.bs, e0.Gi, fun b _ _ => Qx b, fun b z => absurd z (Qx b), e0.lQ, e0.Mu⟩,
  rfl, e0.bare, Un.kept hk, ⟨_, x.toInCall.ns, fun i y v h1 h2 h3 => ?_⟩, fun y c h => ⟨_, x.cell y c h⟩, e0.hok.fresh (Nat.le_refl _), fun y c h => ?_, fun p hp => absurd (show p ∈ ([] : List (Addr × Obj)) from hp) (by simp), e0.hok.kept hk, ?_⟩
 . exact name_of_addr x.apart (PySem.mem_of_lookup h1) (PySem.mem_of_lookup h2)
 . have hy : scope.names.lookup y = some .cell \/ scope.names.lookup y = some .free := hy
   rcases hy with hy | hy
   . exact qH hy
   . exact absurd rfl (S.J8 _ (PySem.mem_of_lookup hy))
 . exact Nat.le_of_lt (x.above y c (PySem.mem_of_lookup h))
 . have hi : i < vs.length := by
    unfold start at h2
    by_cases hi : i < vs.length
    . exact hi
    . rw [List.getElem?_append_right (by simpa using hi)] at h2
      rw [List.getElem?_replicate] at h2
      split at h2 <;> cases h2
   have ha : vs[i]? = some v := by
    unfold start at h2
    rw [List.getElem?_append_left (by simpa using hi), List.getElem?_map] at h2
    cases e : vs[i]? with
    | none => rw [e] at h2; cases h2
    | some a => rw [e] at h2; cases h2; rfl
   obtain ⟨u, hu, rv⟩ := r.get ha
   have hp : ps[i]? = some y := by
    rw [<- S.pre, List.getElem?_take_of_lt (by omega)]; exact h1
   have Ye : ps.Nodup := by rw [<- S.pre]; exact S.nd.sublist (List.take_sublist _ _)
   refine ⟨u, rv, ?_⟩
   rcases S.par y (List.mem_of_getElem? hp) with k | k
   . exact .inl ⟨k, oh Ye hp hu k⟩
   . obtain ⟨c, e⟩ := qH (n := s.heap.objs.size + 1) k
     refine .inr ⟨.inl k, c, e, ?_⟩
     have q := x.cell y c e
     rw [nT Ye hp hu (by show scope.names.lookup y ≠ _; rw [k]; decide)] at q
     exact q
 . exact e0.hok.fresh (Nat.le_of_lt (x.above y c (PySem.mem_of_lookup h)))
 . unfold start
   show _ = N.length
   rw [List.length_append, List.length_map, List.length_replicate]
   omega
theorem P0 {CX : Ac} {P : Program} {w : World} {K : PySem.W.Frag} {mg : Str -> Option Value} {base : Heap} {k : Nat} {f : Addr} {name qual : Str} {params : Arguments} {body : List Stmt} {scope : Scope} {dV kV doc pm cdv ct oc : Value} {an od : Option Addr}
 {osl : Array (Option Value)} {N ps : List Str} {sp : Sp} (lk : K.lookup f = some ⟨oc, od, .func (PySem.W.fnOf name qual params body scope dV kV doc pm an cdv ct), osl⟩) (hcd : PySem.W.codeIn K cdv qual = true) (S : bj N ps scope)
 (len : ∀ vs H Q E, sp vs H Q E -> vs.length = ps.length)
 (hbody : ∀ (A : Around) (outer : List Env) (s : Shared) (H : Hp) (vs : List V) (Q : VK) (E : XK), gO k (A.deeper (envOfC qual scope s.heap.objs.size f cdv)) -> sp vs H Q E ->
  ∃ t, vL (tZ CX P w K mg base N qual scope f cdv A outer s H E) body t /\ t { nx := fun _ H' => Q .non H', rt := Q } (start N vs) H) :
 cT P w K mg base CX (k + 1) f (PySem.W.fnOf name qual params body scope dV kV doc pm an cdv ct) ps sp := by
 refine ⟨len, fun A outer s H args us vs Q E hr e0 hb r hsp => ?_⟩
 have hl := len _ _ _ _ hsp
 have KX : K.In s.heap := e0.mod.We.keeps fun b o e => (e0.bs b o e).1
 have lim : s.heap.NoLimit := e0.mod.nolimit.keeps fun b o e => (e0.bs b o e).1
 have hkind : ∀ y ∈ ps.zip us, scope.names.lookup y.1 = some .local \/ (scope.names.lookup y.1 = some .cell /\ ((cellsFrom (s.heap.objs.size + 1) scope.names []).lookup y.1).isSome = true) := fun ⟨n, v⟩ hy => by
  rcases S.par n (List.of_mem_zip hy).1 with q | q
  . exact .inl q
  . exact .inr ⟨q, PySem.W.cellsFrom_some _ _ _ (.inl q)⟩
 refine codeAny_call_function hr.depth (KX _ _ lk) rfl S.co S.gen rfl (PySem.W.codeRec_of KX hcd) (hb _ _ _ _ ?_)
 refine wpAny_newFunctionEnv_cells S.kind hkind fun env he s1 x => ?_
 subst he
 refine ⟨lim.keeps x.toInCall.keep, codeAny_func ?_⟩
 obtain ⟨t, ht, hq⟩ := hbody A outer s H vs Q E (hr.deeper _) hsp
 have I : Inv (tZ CX P w K mg base N qual scope f cdv A outer s H E) [] (start N vs) H s1 := wR S hr.hd e0 hl r x
 refine wpAny_mono (ht [] s1 (start N vs) H _ I hq) (fun fl s' hs => ?_) fun e s' hs => hs
 have fin : ∀ {σ' : St} {H' : Hp} {v : V} {u : Value}, Inv (tZ CX P w K mg base N qual scope f cdv A outer s H E) [] σ' H' s' -> RelV v u -> Q v H' -> CE outer P w H s Q u s' :=
  fun {σ' H' v u} J rv q => ⟨v, H', J.os, J.bare, J.base, J.hok, rv, q⟩
 cases fl with
 | ret u =>
   obtain ⟨v, σ', H', J, rv, q⟩ := hs
   exact fin J rv q
 | next =>
   obtain ⟨σ', H', J, q⟩ := hs
   exact fin (v := V.non) (u := Value.none) J rfl q
 | brk =>
   obtain ⟨_, _, _, q⟩ := hs
   exact False.elim q
 | cont =>
   obtain ⟨_, _, _, q⟩ := hs
   exact False.elim q
end L2
namespace L2
open PySem PySem.Spec PyProof.Rows
section
variable {X : Cx} {x : Str} {p pos : Pos} {e : Expr} {es : List Expr} {t : TA} {id T : String} {r : List V -> Hp -> VK -> Prop}
noncomputable def Rh (r : List V -> Hp -> VK -> Prop) (t : TA) : TE := fun σ H Q => t σ H fun vs H1 => r vs H1 Q
theorem dh (hc : cV X (.builtin id) r) (hg : Gl X x) (hm : X.mg x = none) (hv : bootBuiltins x = some (.builtin id)) (ha : PA X (e :: es) t) (hn : x ≠ "__name__" := by decide) (hdb : (x == ("__debug__" : Str)) = false := by decide)
 (he : starEach (e :: es) X.env = (false, eval e X.env) :: starEach es X.env := by rfl) (hpl : (backTo pos (starEach es X.env)).any (·.1) = false := by rfl) : PE X (.Call (.Name x p) (e :: es) [] pos) (Rh r t) := by
 intro pins s σ H Q I h
 refine wpAny_Call_Name_kw (mK I hg hm hv ?_ hn hdb)
 exact PyProof.Rows.callWith_builtin1 (cJ (ha pos pins s σ H _ I h) fun us s1 ⟨vs, H1, I1, r1, q1⟩ => hc pins s1 σ H1 vs us Q I1 r1 q1) he hpl
theorem oG (hc : cV X (.type T) r) (hg : Gl X x) (hm : X.mg x = none) (hv : bootBuiltins x = some (.type T)) (ha : PA X (e :: es) t) (hn : x ≠ "__name__" := by decide) (hdb : (x == ("__debug__" : Str)) = false := by decide)
 (he : starEach (e :: es) X.env = (false, eval e X.env) :: starEach es X.env := by rfl) (hpl : (backTo pos (starEach es X.env)).any (·.1) = false := by rfl) : PE X (.Call (.Name x p) (e :: es) [] pos) (Rh r t) := by
 intro pins s σ H Q I h
 refine wpAny_Call_Name_kw (mK I hg hm hv ?_ hn hdb)
 exact PyProof.Rows.callWith_type1 (cJ (ha pos pins s σ H _ I h) fun us s1 ⟨vs, H1, I1, r1, q1⟩ => hc pins s1 σ H1 vs us Q I1 r1 q1) he hpl
end
end L2
namespace HT
open PySem PyProof.Rows
section
variable {prog : Program} {w : World} {A : Around} {E : Value -> Shared -> Prop} {s : Shared}
theorem Dh {t b : Addr} {vs ws : List Value} {Q : Value -> Shared -> Prop} (ht : IsTup s.heap t vs.toArray) (hb : IsTup s.heap b ws.toArray) (hv : vs ≠ [])
 (h1 : ws = [] -> Q (.ref t) s) (h2 : ws ≠ [] -> Q (.ref s.heap.objs.size) { s with heap := s.heap.push { cls := .type "tuple", data := .seq (vs ++ ws).toArray } })
 (hsz : vs.length + ws.length <= sizeLine) : wpAny (model prog w) A (binaryOp .Add (.ref t) (.ref b)) Q E s := by
 obtain ⟨⟨cls, dd, data, sl⟩, ho, hc, n, hd⟩ := id ht
 obtain ⟨⟨cls2, dd2, data2, sl2⟩, ho2, hc2, n2, hd2⟩ := id hb
 simp only at hc hd hc2 hd2
 subst hc hd hc2 hd2
 have e : vs.toArray ++ ws.toArray = (vs ++ ws).toArray := by simp
 by_cases hw : ws = []
 . exact concat_meets ⟨_, ho, rfl⟩ ⟨_, ho2, rfl⟩ noFill_tuple_add seq_tuple_add PySem.F.slot_tuple_add PySem.F.entry_tuple_add (PySem.F.args_tuple_add_2 _ _)
    (tuple_addW1 t b vs.toArray ws.toArray n n2 dd dd2 sl sl2 (by simpa using hv) (by simp [hw])) ⟨ho, ho2, h1 hw⟩
 . refine concat_meets ⟨_, ho, rfl⟩ ⟨_, ho2, rfl⟩ noFill_tuple_add seq_tuple_add PySem.F.slot_tuple_add PySem.F.entry_tuple_add (PySem.F.args_tuple_add_2 _ _)
    (tuple_addW2 t b vs.toArray ws.toArray n n2 dd dd2 sl sl2 (by simpa using hv) (by simpa using hw) (by rw [List.size_toArray, List.size_toArray]; exact hsz)) ⟨ho, ho2, ?_⟩
   rw [e]
   exact h2 hw
noncomputable def cz (n d : Nat) : Option Int -> Nat
 | none => d
 | some v => if v < 0 then (v + (n : Int)).toNat else min v.toNat n
theorem JX (n d : Nat) (hd : d <= n) (o : Option Int) : cz n d o <= n := by
 cases o with
 | none => exact hd
 | some v =>
   show (if v < 0 then (v + (n : Int)).toNat else min v.toNat n) <= n
   by_cases hv : v < 0
   . rw [if_pos hv]; omega
   . rw [if_neg hv]; exact Nat.min_le_right _ _
theorem uX (v : Int) (n d : Nat) : (if v < 0 then max (v + (n : Int)) 0 else min v (n : Int)) = ((cz n d (some v) : Nat) : Int) := by
 show (if v < 0 then max (v + (n : Int)) 0 else min v (n : Int)) = (((if v < 0 then (v + (n : Int)).toNat else min v.toNat n) : Nat) : Int)
 by_cases hv : v < 0
 . simp only [if_pos hv]; omega
 . simp only [if_neg hv]; omega
theorem uh (lo hi : Option Int) (n : Nat) : Builtin.Slice.sliceAdjust lo hi 1 (n : Int) = (((cz n 0 lo : Nat) : Int), ((cz n n hi : Nat) : Int)) := by
 have h1 : ¬ ((1 : Int) < 0) := by omega
 unfold Builtin.Slice.sliceAdjust
 simp only [h1, if_false]
 refine Prod.ext ?_ ?_
 . cases lo with
   | none => rfl
   | some v => exact uX v n 0
 . cases hi with
   | none => rfl
   | some v => exact uX v n n
theorem tQ (i j : Nat) : Builtin.Slice.slicePlaces (i : Int) (j : Int) 1 = j - i := by
 unfold Builtin.Slice.slicePlaces
 have h1 : (1 : Int) > 0 := by omega
 simp only [h1, if_true, Int.ediv_one]
 split <;> omega
theorem mU {v : Value} {o : Option Int} {Q : Option Int -> Shared -> Prop} (p : IsPart v o) (h : Q o s) : wpAny (model prog w) A (Builtin.Slice.slicePartIndex v) Q E s := by
 cases p with
 | none => exact slicePart_none h
 | int i t => exact slicePart_int h
theorem fB {sl : Addr} {vl vu : Value} {lo hi : Option Int} {n : Nat} {Q : Int × Int × Nat -> Shared -> Prop} (hs : s.heap.IsSliceOf sl vl vu .none) (pl : IsPart vl lo) (pu : IsPart vu hi)
 (h : Q (((cz n 0 lo : Nat) : Int), 1, cz n n hi - cz n 0 lo) s) : wpAny (model prog w) A (Builtin.Slice.sliceApplied (.ref sl) (pure (n : Int))) Q E s := by
 obtain ⟨os, hos, hcs, hds⟩ := id hs
 unfold Builtin.Slice.sliceApplied Builtin.Slice.sliceFields
 refine wpAny_bind (wpAny_bind (wpAny_field hos hds (x := vl) rfl (wpAny_bind (wpAny_field hos hds (x := vu) rfl (wpAny_bind (wpAny_field hos hds (x := .none) rfl (wpAny_pure ?_)))))))
 refine wpAny_bind (slicePart_none ?_)
 show wpAny _ _ (if ((1 : Int) == 0) = true then _ else _) _ _ s
 rw [if_neg (by decide)]
 refine wpAny_bind (mU pl (wpAny_bind (mU pu (wpAny_bind (wpAny_pure ?_)))))
 show wpAny _ _ (match Builtin.Slice.sliceAdjust lo hi 1 (n : Int) with | (lo, hi) => pure (lo, (1 : Int), Builtin.Slice.slicePlaces lo hi 1)) _ _ s
 rw [uh lo hi n]
 show wpAny _ _ (pure (((cz n 0 lo : Nat) : Int), (1 : Int), Builtin.Slice.slicePlaces ((cz n 0 lo : Nat) : Int) ((cz n n hi : Nat) : Int) 1)) _ _ s
 rw [tQ]
 exact wpAny_pure h
theorem yC (xs : Array Value) (i k : Nat) : ((List.range k).filterMap fun (m : Nat) => xs[((i : Int) + (m : Int) * 1).toNat]?).toArray = ((xs.toList.drop i).take k).toArray := by
 have e : (fun (m : Nat) => xs[((i : Int) + (m : Int) * 1).toNat]?) = fun m => xs[i + m]? := by
  funext m
  have : ((i : Int) + (m : Int) * 1).toNat = i + m := by omega
  rw [this]
 rw [e]
 have := pick_run xs i k
 rw [List.filterMap_map] at this
 have e2 : ((fun x => xs[x]?) ∘ fun x => i + x) = fun m => xs[i + m]? := rfl
 rw [e2] at this
 rw [this]
theorem jz {t sl : Addr} {items : Array Value} {vl vu : Value} {lo hi : Option Int} {Q : Value -> Shared -> Prop} (ht : IsTup s.heap t items) (hs : s.heap.IsSliceOf sl vl vu .none) (pl : IsPart vl lo) (pu : IsPart vu hi)
 (hw : ¬ (cz items.size 0 lo = 0 /\ cz items.size items.size hi = items.size))
 (h : Q (.ref s.heap.objs.size) { s with heap := s.heap.push { cls := .type "tuple", data := .seq ((items.toList.drop (cz items.size 0 lo)).take (cz items.size items.size hi - cz items.size 0 lo)).toArray } })
 (hsz : items.size <= sizeLine) : wpAny (model prog w) A (getItem (.ref t) (.ref sl)) Q E s := by
 have wg : sizeOk (.seq ((items.toList.drop (cz items.size 0 lo)).take (cz items.size items.size hi - cz items.size 0 lo)).toArray) := by
  show ((items.toList.drop (cz items.size 0 lo)).take (cz items.size items.size hi - cz items.size 0 lo)).toArray.size <= sizeLine
  rw [List.size_toArray, List.length_take, List.length_drop, Array.length_toList]
  omega
 have hj : cz items.size items.size hi <= items.size := JX _ _ (Nat.le_refl _) hi
 obtain ⟨os, hos, hcs, hds⟩ := id hs
 have hTs : s.TypeIs (.ref sl) "slice" := ⟨os, hos, hcs⟩
 unfold getItem
 try with_reducible refine wpAny_holding ?_
 first | refine wpAny_bind (wpAny_pure ?_) | skip
 refine wpAny_bind (wpAny_sequenceKey ht.typeIs (by decide) ?_)
 refine wpAny_bind (wpAny_callSpecial?_slot (name := Str.ofString "__getitem__") ht.typeIs PyProof.Rows.slot_tuple_getitem
  (wpAny_call_entry PyProof.Rows.slot_tuple_getitem ht.typeIs entry_tuple_getitem ?_ (args_tuple_getitem _ _)))
 show wpAny _ _ (Builtin.Tuple.tupleItemsOf (.ref t) >>= _) _ _ s
 refine wpAny_bind (tupleItemsOf_ ht ?_)
 refine wpAny_bind (wpAny_typeOf hTs ?_)
 rw [if_pos (by decide)]
 refine wpAny_bind (fB hs pl pu ?_)
 have hno : ¬ ((((cz items.size 0 lo : Nat) : Int) == 0 && (1 : Int) == 1 && (cz items.size items.size hi - cz items.size 0 lo) == items.size) = true) := by
  intro q
  rw [Bool.and_eq_true, Bool.and_eq_true] at q
  have q1 : ((cz items.size 0 lo : Nat) : Int) = 0 := eq_of_beq q.1.1
  have q2 : cz items.size items.size hi - cz items.size 0 lo = items.size := eq_of_beq q.2
  exact hw ⟨by omega, by omega⟩
 show wpAny _ _ (if (((cz items.size 0 lo : Nat) : Int) == 0 && (1 : Int) == 1 && (cz items.size items.size hi - cz items.size 0 lo) == items.size) = true then _ else _) _ _ s
 rw [if_neg hno, yC]
 first
  | exact wpAny_bind (m := Builtin.Tuple.tupleExact _) (wpAny_newObj_type (wpAny_pure ⟨_, rfl, wpAny_pure h⟩) wg)
  | exact wpAny_bind (m := Builtin.Tuple.tupleExact _) (wpAny_newObj_type (wpAny_bind (wpAny_pure (wpAny_pure ⟨_, rfl, wpAny_pure h⟩))) wg)
  | exact wpAny_bind (wpAny_bind (m := Builtin.Tuple.tupleExact _) (wpAny_newObj_type (wpAny_pure (wpAny_pure ⟨_, rfl, wpAny_pure h⟩)) wg))
  | exact wpAny_bind (wpAny_bind (m := Builtin.Tuple.tupleExact _) (wpAny_newObj_type (wpAny_pure ⟨_, rfl, wpAny_pure h⟩) wg))
end
end HT
namespace L2
open PySem PySem.Spec PyProof.Rows
noncomputable abbrev TO := St -> Hp -> (Option Int -> Hp -> Prop) -> Prop
noncomputable def PO (X : Cx) (e : Option Expr) (t : TO) : Prop :=
 ∀ (pins : List (Addr × Obj)) (s : Shared) (σ : St) (H : Hp) (Q : Option Int -> Hp -> Prop), Inv X pins σ H s -> t σ H Q ->
   wpAny (model X.prog X.w) X.A (evalPart e X.env) (fun u s' => ∃ o H', Inv X pins σ H' s' /\ IsPart u o /\ Q o H') X.xe s
noncomputable def Dw : TO := fun _ H Q => Q none H
noncomputable def Qk (t : TE) : TO := fun σ H Q => t σ H fun x H1 => ∃ i, x = .int i /\ Q (some i) H1
section
variable {X : Cx} {e : Expr} {te : TE} {lo hi : Option Expr} {tl th : TO} {pos p2 : Pos}
theorem BJ : PO X none Dw := by
 intro pins s σ H Q I h
 rw [evalPart_none]
 exact wpAny_pure ⟨none, H, I, .none, h⟩
theorem Ds (h : PE X e te) : PO X (some e) (Qk te) := by
 intro pins s σ H Q I hw
 rw [evalPart_some]
 refine cJ (h pins s σ H _ I hw) fun u s1 ⟨x, H1, I1, r1, q1⟩ => ?_
 obtain ⟨i, rfl, q⟩ := q1
 obtain ⟨t, rfl⟩ := r1
 exact ⟨some i, H1, I1, .int i t, q⟩
noncomputable def Q4 (X : Cx) (r : V -> Option Int -> Option Int -> Hp -> VK -> Prop) : Prop :=
 ∀ (pins : List (Addr × Obj)) (s : Shared) (σ : St) (H : Hp) (x : V) (v vl vu : Value) (lo hi : Option Int) (sl : Addr) (Q : VK), Inv X pins σ H s -> RelV x v -> s.heap.IsSliceOf sl vl vu .none -> IsPart vl lo -> IsPart vu hi -> r x lo hi H Q ->
   ∃ T id, typeLookup (.type T) "__getitem__" = pure (some (.builtin id)) /\ s.TypeIs v T /\ wpAny (model X.prog X.w) X.A (getItem v (.ref sl)) (EP X pins σ Q) X.xe s
noncomputable def tSl (r : V -> Option Int -> Option Int -> Hp -> VK -> Prop) (te : TE) (tl th : TO) : TE := fun σ H Q => te σ H fun x H1 => tl σ H1 fun l H2 => th σ H2 fun u H3 => r x l u H3 Q
theorem qJ {r : V -> Option Int -> Option Int -> Hp -> VK -> Prop} (hr : Q4 X r) (he : PE X e te) (hl : PO X lo tl) (hu : PO X hi th) : PE X (.Subscript e (.Slice lo hi none p2) pos) (tSl r te tl th) := by
 intro pins s σ H Q I h
 refine Subscript_ (cJ (he pins s σ H _ I h) fun v s1 ⟨x, H1, I1, r1, q1⟩ => ?_)
 refine wpAny_Slice (cJ (hl pins s1 σ H1 _ I1 q1) fun vl s2 ⟨l, H2, I2, pl, q2⟩ => cJ (hu pins s2 σ H2 _ I2 q2) fun vu s3 ⟨u, H3, I3, pu, q3⟩ => ?_)
 rw [evalPart_none]
 refine wpAny_pure ?_
 have I4 : Inv X pins σ H3 { s3 with heap := s3.heap.push { cls := .type "slice", data := .fields #[vl, vu, .none] } } := I3.kept (t' := s3.toks) fun b ob q => Heap.get?_push_of_some _ q
 obtain ⟨T, id, hT, ht, hg⟩ := hr pins { s3 with heap := s3.heap.push { cls := .type "slice", data := .fields #[vl, vu, .none] } } σ H3 x v vl vu l u s3.heap.objs.size Q I4 r1 (Heap.IsSliceOf.new ..) pl pu q3
 show wpAny (model X.prog X.w) X.A (subscriptTail e (.Slice lo hi none p2) v (.ref s3.heap.objs.size)) (EP X pins σ Q) X.xe { s3 with heap := s3.heap.push { cls := .type "slice", data := .fields #[vl, vu, .none] } }
 exact tail_any (ops := [.ref s3.heap.objs.size, v]) ht hT hg (by with_unfolding_all rfl)
noncomputable def sI (xs : List V) (lo hi : Option Int) : List V := (xs.drop (HT.cz xs.length 0 lo)).take (HT.cz xs.length xs.length hi - HT.cz xs.length 0 lo)
theorem j5 (xs : List V) (lo hi : Option Int) : (sI xs lo hi).length <= xs.length := by
 unfold sI
 rw [List.length_take, List.length_drop]
 omega
noncomputable def TV (K : PySem.W.Frag) : V -> Option Int -> Option Int -> Hp -> VK -> Prop := fun x lo hi H Q => ∃ a xs, x = .ref a /\ iG K H a xs /\
 ¬ (HT.cz xs.length 0 lo = 0 /\ HT.cz xs.length xs.length hi = xs.length) /\ ∀ p, H p = none -> Q (.ref p) (upd H p (.tup (sI xs lo hi)))
theorem Ho : Q4 X (TV X.K) := by
 intro pins s σ H x v vl vu lo hi sl Q I rx hs pl pu h
 obtain ⟨a, xs, rfl, hx, hw, q⟩ := h
 cases rx
 obtain ⟨its, r, ht, hz⟩ := I.tuple hx
 have hlen : its.toArray.size = xs.length := by rw [List.size_toArray]; exact r.length.symm
 refine ⟨"tuple", _, PyProof.Rows.slot_tuple_getitem.lookup, ht.typeIs, ?_⟩
 refine HT.jz ht hs pl pu (by rw [hlen]; exact hw) ?_ (by rw [hlen]; exact hz)
 rw [hlen]
 refine ⟨.ref s.heap.objs.size, _, I.laid (t' := s.toks) (o := .tup (sI xs lo hi)) (fun b ob q => Heap.get?_push_of_some _ q) (Nat.le_refl _) ?_, rfl, q _ (I.hok.fresh (Nat.le_refl _))⟩
 exact ⟨Nat.le_trans (j5 xs lo hi) hz, _, (r.drop (HT.cz xs.length 0 lo)).take (HT.cz xs.length xs.length hi - HT.cz xs.length 0 lo), IsTup.new _ _⟩
noncomputable def Qd (K : PySem.W.Frag) : R2 := fun x y H Q => ∃ a b xs ys, x = .ref a /\ y = .ref b /\ iG K H a xs /\ iG K H b ys /\ xs ≠ [] /\ xs.length + ys.length <= sizeLine /\
 (ys = [] -> Q (.ref a) H) /\ (ys ≠ [] -> ∀ p, H p = none -> Q (.ref p) (upd H p (.tup (xs ++ ys))))
theorem Vals.kY {xs : List V} {us : List Value} (r : Vals xs us) : us = [] ↔ xs = [] := by
 cases r with
 | nil => simp
 | cons _ _ => simp
theorem DX : fP X (binaryOp .Add) (Qd X.K) := by
 intro pins s σ H x y v u Q I rx ry h
 obtain ⟨a, b, xs, ys, rfl, rfl, ha, hb, hx, hz, q1, q2⟩ := h
 cases rx
 cases ry
 obtain ⟨its, r1, p1, _⟩ := I.tuple ha
 obtain ⟨its2, r2, p2, _⟩ := I.tuple hb
 refine HT.Dh p1 p2 (fun z => hx (r1.kY.mp z)) (fun z => ⟨.ref a, H, I, rfl, q1 (r2.kY.mp z)⟩) (fun z => ?_) (by rw [<- r1.length, <- r2.length]; exact hz)
 refine ⟨.ref s.heap.objs.size, _, I.laid (t' := s.toks) (o := .tup (xs ++ ys)) (fun b ob q => Heap.get?_push_of_some _ q) (Nat.le_refl _) ?_, rfl, q2 (fun w => z (r2.kY.mpr w)) _ (I.hok.fresh (Nat.le_refl _))⟩
 exact ⟨by rw [List.length_append]; exact hz, _, r1.append r2, IsTup.new _ _⟩
end
end L2
namespace L2
open PySem PySem.Spec PyProof.Rows
noncomputable def iW (n : Nat) (i : Int) : Option Nat := if 0 <= i then (if i < n then some i.toNat else none) else if -(n : Int) <= i then some (i + n).toNat else none
noncomputable def Ls {α : Type} (xs : List α) (i : Int) : Option α := (iW xs.length i).bind fun j => xs[j]?
theorem u0 {n : Nat} {i : Int} {j : Nat} (h : iW n i = some j) : seqIndex? i n = some j /\ j < n /\ -(n : Int) <= i /\ i < n := by
 unfold iW at h
 by_cases h0 : 0 <= i
 . rw [if_pos h0] at h
   by_cases h1 : i < n
   . rw [if_pos h1] at h
     have e : i.toNat = j := Option.some.inj h
     exact ⟨by rw [seqIndex_of h0 h1, e], by omega, by omega, h1⟩
   . rw [if_neg h1] at h; cases h
 . rw [if_neg h0] at h
   by_cases h1 : -(n : Int) <= i
   . rw [if_pos h1] at h
     have e : (i + n).toNat = j := Option.some.inj h
     exact ⟨by rw [seqIndex_neg (by omega) h1, e], by omega, h1, by omega⟩
   . rw [if_neg h1] at h; cases h
theorem vz {α : Type} {xs : List α} {i : Int} {v : α} (h : Ls xs i = some v) : ∃ j, seqIndex? i xs.length = some j /\ xs[j]? = some v /\ j < xs.length /\ -(xs.length : Int) <= i /\ i < xs.length := by
 unfold Ls at h
 cases e : iW xs.length i with
 | none => rw [e] at h; cases h
 | some j =>
   rw [e] at h
   obtain ⟨h1, h2, h3, h4⟩ := u0 e
   exact ⟨j, h1, h, h2, h3, h4⟩
noncomputable def vm (b : Expr) : Prop := ∀ o i, subscripted b false o i = operate [o, i] (getItem o i)
noncomputable def R5 (X : Cx) (r : R2) : Prop :=
 ∀ (value slice : Expr) (pins : List (Addr × Obj)) (s : Shared) (σ : St) (H : Hp) (x y : V) (v u : Value) (Q : VK), Inv X pins σ H s -> RelV x v -> RelV y u -> r x y H Q ->
   subscripted slice false v u = operate [v, u] (getItem v u) -> wpAny (model X.prog X.w) X.A (subscriptTail value slice v u) (EP X pins σ Q) X.xe s
noncomputable def Xw (X : Cx) (id : String) (r : V -> List V -> Hp -> VK -> Prop) : Prop :=
 ∀ (pins : List (Addr × Obj)) (s : Shared) (σ : St) (H : Hp) (x : V) (xs : List V) (v : Value) (us : List Value) (Q : VK), Inv X pins σ H s -> RelV x v -> Vals xs us -> r x xs H Q ->
   wpAny (model X.prog X.w) X.A (call (.builtin id) (v :: us)) (EP X pins σ Q) X.xe s
section
variable {X : Cx} {a b : Expr} {ta tb : TE} {pos : Pos}
theorem MK {r : R2} (hr : R5 X r) (ha : PE X a ta) (hb : PE X b tb) (hs : vm b) : PE X (.Subscript a b pos) (Lq r ta tb) := by
 intro pins s σ H Q I h
 exact Subscript_ (Hl ha hb I h fun v u s2 x y H2 I2 rx ry q => hr a b pins s2 σ H2 x y v u Q I2 rx ry q (hs _ _))
noncomputable def Ui (K : PySem.W.Frag) : R2 := fun x y H Q => ∃ p xs i v, x = .ref p /\ y = .int i /\ dW K H p xs /\ Ls xs i = some v /\ Q v H
noncomputable def Tu (K : PySem.W.Frag) : R2 := fun x y H Q => ∃ p xs i v, x = .ref p /\ y = .int i /\ iG K H p xs /\ Ls xs i = some v /\ Q v H
theorem CN : R5 X (Ui X.K) := by
 intro value slice pins s σ H x y v u Q I rx ry h hs
 obtain ⟨p, xs, i, z, rfl, rfl, hq, he, q⟩ := h
 cases rx
 obtain ⟨t, rfl⟩ := ry
 obtain ⟨its, r, pl, hz⟩ := I.list hq
 obtain ⟨j, h1, h2, h3, h4, h5⟩ := vz he
 obtain ⟨w, ew, xO⟩ := r.get h2
 have hl := r.length
 have hn := pF
 have fin : EP X pins σ Q w s := ⟨z, H, I, xO, q⟩
 by_cases h0 : 0 <= i
 . have hj : i.toNat = j := by
    rw [seqIndex_of h0 h5] at h1
    exact Option.some.inj h1
   exact item_listR pl.isList h0 (by omega) (by rw [hj]; simpa using ew) fin hs
 . have hj : (i + (its.toArray.size : Int)).toNat = j := by
    rw [seqIndex_neg (by omega) h4] at h1
    rw [List.size_toArray, <- hl]
    exact Option.some.inj h1
   exact subscriptTail_builtinR (x := w) pl.isList.typeIs slot_list_getitem.lookup
    (wpAny_getItem_list_neg (Q := fun r s' => r = w /\ EP X pins σ Q r s') pl.isList (by omega) (by rw [List.size_toArray] <;> omega) (by omega) (by rw [hj]; simpa using ew) ⟨rfl, fin⟩) hs
theorem Jq : R5 X (Tu X.K) := by
 intro value slice pins s σ H x y v u Q I rx ry h hs
 obtain ⟨p, xs, i, z, rfl, rfl, hq, he, q⟩ := h
 cases rx
 obtain ⟨t, rfl⟩ := ry
 obtain ⟨its, r, pl, hz⟩ := I.tuple hq
 obtain ⟨j, h1, h2, h3, h4, h5⟩ := vz he
 obtain ⟨w, ew, xO⟩ := r.get h2
 have hl := r.length
 have hn := pF
 have fin : EP X pins σ Q w s := ⟨z, H, I, xO, q⟩
 exact subscriptTail_builtinR (x := w) pl.typeIs slot_tuple_getitem.lookup
  (getItem_tuple (j := j) (Q := fun r s' => r = w /\ EP X pins σ Q r s') pl (by omega) (by omega) (by rw [List.size_toArray, <- hl]; exact h1) (by simpa using ew) ⟨rfl, fin⟩) hs
theorem uz (its : List Value) (n j : Nat) (u : Value) : Obj.mapSeq (·.setIfInBounds j u) { cls := .type "list", data := .seq its.toArray n } = { cls := .type "list", data := .seq (its.set j u).toArray n } := by
 simp [Obj.mapSeq]
theorem Inv.lst {pins : List (Addr × Obj)} {σ : St} {H : Hp} {s : Shared} {p : Addr} {xs : List V} (I : Inv X pins σ H s) (h : H p = some (.lst xs)) :
 ∃ (its : List Value) (n : Nat), Vals xs its /\ s.heap.get? p = some { cls := .type "list", data := .seq its.toArray n } /\ xs.length <= sizeLine := by
 obtain ⟨z, its, n, r, e⟩ := I.hok p _ h
 exact ⟨its, n, r, e, z⟩
theorem Inv.Jh {pins : List (Addr × Obj)} {σ : St} {H : Hp} {s : Shared} {p : Addr} {xs ys : List V} {its its' : List Value} {n n' : Nat} {f : Obj -> Obj} (I : Inv X pins σ H s) (h : H p = some (.lst xs))
 (ho : s.heap.get? p = some { cls := .type "list", data := .seq its.toArray n }) (hf : f { cls := .type "list", data := .seq its.toArray n } = { cls := .type "list", data := .seq its'.toArray n' }) (r : Vals ys its') (hz : ys.length <= sizeLine) (t : Nat) :
 Inv X pins σ (upd H p (.lst ys)) { s with heap := s.heap.update p f, toks := t } := by
 have e : (s.heap.update p f).get? p = some { cls := .type "list", data := .seq its'.toArray n' } := by
  rw [Heap.get?_update_self f ho (by rw [hf] <;> rfl), hf]
 refine I.write (x := p) (e := p) (by rw [h]; trivial) (.inl rfl) (fun b u hb q => (Heap.get?_update_other _ _ (Ne.symm hb)).trans q) ⟨_, e⟩ ?_
 exact ⟨hz, its', n', r, e⟩
noncomputable def Oz : V -> V -> V -> Hp -> (Hp -> Prop) -> Prop := fun o i v H Q => ∃ p xs k j, o = .ref p /\ i = .int k /\ H p = some (.lst xs) /\ iW xs.length k = some j /\ Q (upd H p (.lst (xs.set j v)))
theorem set_list : O9 X Oz := by
 intro pins s σ H o i v ov iv u Q I ro ri rv h
 obtain ⟨p, xs, k, j, rfl, rfl, hp, hj, q⟩ := h
 cases ro
 obtain ⟨t, rfl⟩ := ri
 obtain ⟨its, n, r, ho, hz⟩ := I.lst hp
 obtain ⟨h1, h2, h3, h4⟩ := u0 hj
 have hl := r.length
 have hn := pF
 have I' : Inv X pins σ (upd H p (.lst (xs.set j v))) { s with heap := s.heap.update p (Obj.mapSeq (·.setIfInBounds j u)) } :=
  I.Jh hp ho (uz its n j u) (r.set rv j) (by rw [List.length_set]; exact hz) s.toks
 by_cases h0 : 0 <= k
 . have hk : k.toNat = j := by
    rw [seqIndex_of h0 h4] at h1
    exact Option.some.inj h1
   exact PySem.W.ki_setAt ho h0 (by omega) (by rw [List.size_toArray, <- hl]; exact h4) (by rw [hk]; exact ⟨_, I', q⟩)
 . have hk : (k + (its.toArray.size : Int)).toNat = j := by
    rw [seqIndex_neg (by omega) h3] at h1
    rw [List.size_toArray, <- hl]
    exact Option.some.inj h1
   exact PySem.W.ki_setBack ho (by omega) (by rw [List.size_toArray, <- hl]; exact h3) (by omega) (by rw [hk]; exact ⟨_, I', q⟩)
theorem pR (lo hi : Option Int) (n : Nat) : (sliceBounds lo hi none n).1 = ((HT.cz n 0 lo : Nat) : Int) /\ (sliceBounds lo hi none n).2.1 = ((HT.cz n n hi : Nat) : Int) /\ (sliceBounds lo hi none n).2.2 = 1 := by
 refine ⟨?_, ?_, rfl⟩
 . cases lo with
   | none => simp [sliceBounds, HT.cz]
   | some i =>
     simp only [sliceBounds, HT.cz, Option.getD_none, show (1 : Int) > 0 by decide, if_true]
     by_cases h : i < 0
     . simp only [h, if_true] <;> omega
     . simp only [h, if_false] <;> omega
 . cases hi with
   | none => simp [sliceBounds, HT.cz]
   | some i =>
     simp only [sliceBounds, HT.cz, Option.getD_none, show (1 : Int) > 0 by decide, if_true]
     by_cases h : i < 0
     . simp only [h, if_true] <;> omega
     . simp only [h, if_false] <;> omega
theorem ni (its : List Value) (lo hi : Option Int) : slicePick its.toArray lo hi none = ((its.drop (HT.cz its.length 0 lo)).take (HT.cz its.length its.length hi - HT.cz its.length 0 lo)).toArray := by
 obtain ⟨h1, h2, h3⟩ := pR lo hi its.toArray.size
 unfold slicePick
 rw [h1, h2, h3]
 simp only [sliceRange_one, pick_run, List.size_toArray] <;> rfl
noncomputable def Uu (K : PySem.W.Frag) : V -> Option Int -> Option Int -> Hp -> VK -> Prop := fun x lo hi H Q => ∃ a xs, x = .ref a /\ dW K H a xs /\ ∀ p, H p = none -> Q (.ref p) (upd H p (.lst (sI xs lo hi)))
theorem Ce : Q4 X (Uu X.K) := by
 intro pins s σ H x v vl vu lo hi sl Q I rx hs pl pu h
 obtain ⟨a, xs, rfl, hx, q⟩ := h
 cases rx
 obtain ⟨its, r, ht, hz⟩ := I.list hx
 have hlen := r.length
 refine ⟨"list", _, slot_list_getitem.lookup, ht.isList.typeIs, ?_⟩
 refine wpAny_getItem_list_slice ht.isList hs pl pu .none (by simp) ?_ (by rw [List.size_toArray] <;> omega)
 rw [ni, <- hlen]
 refine ⟨.ref s.heap.objs.size, _, I.laid (t' := s.toks) (o := .lst (sI xs lo hi)) (fun b ob q => Heap.get?_push_of_some _ q) (Nat.le_refl _) ?_, rfl, q _ (I.hok.fresh (Nat.le_refl _))⟩
 exact ⟨Nat.le_trans (j5 xs lo hi) hz, _, 0, (r.drop (HT.cz xs.length 0 lo)).take (HT.cz xs.length xs.length hi - HT.cz xs.length 0 lo), Heap.get?_push_size _ rfl⟩
theorem o4 : cV X (.builtin "len") (fun xs H Q => ∃ p ys, xs = [.ref p] /\ (dW X.K H p ys \/ iG X.K H p ys) /\ Q (.int ys.length) H) := by
 intro pins s σ H xs us Q I r h
 obtain ⟨p, ys, rfl, hq, q⟩ := h
 obtain ⟨u, rfl, rx⟩ := vals1 r
 cases rx
 have hn := pF
 rcases hq with hq | hq
 . obtain ⟨its, r', pl, hz⟩ := I.list hq
   have hlen := r'.length
   exact Calls.call_len_list pl.isList (by simp only [List.size_toArray] <;> omega) ⟨.int ys.length, H, I.tok _, ⟨s.toks + 1, by rw [List.size_toArray, hlen]⟩, q⟩
 . obtain ⟨its, r', pl, hz⟩ := I.tuple hq
   have hlen := r'.length
   exact len_tuple pl (by simp only [List.size_toArray] <;> omega) ⟨.int ys.length, H, I.tok _, ⟨s.toks + 1, by rw [List.size_toArray, hlen]⟩, q⟩
theorem pJ : cV X (.type "list") (fun xs H Q => ∃ p ys, xs = [.ref p] /\ (dW X.K H p ys \/ iG X.K H p ys) /\ ∀ l, H l = none -> Q (.ref l) (upd H l (.lst ys))) := by
 intro pins s σ H xs us Q I r h
 obtain ⟨p, ys, rfl, hq, q⟩ := h
 obtain ⟨u, rfl, rx⟩ := vals1 r
 cases rx
 have fin : ∀ (its : List Value), Vals ys its -> ys.length <= sizeLine -> ∀ (h' : Heap) (c' : Nat), (∀ b o', s.heap.get? b = some o' -> h'.get? b = some o') ->
  h'.get? s.heap.objs.size = some { cls := .type "list", dict := none, data := .seq its.toArray c', slots := #[] } -> EP X pins σ Q (.ref s.heap.objs.size) { s with heap := h' } := fun its r' hz h' c' kp e =>
  ⟨.ref s.heap.objs.size, _, I.laid (t' := s.toks) kp (Nat.le_refl _) (show bL X.prog X.w _ h' _ (.lst ys) from ⟨hz, its, c', r', e⟩), rfl, q _ (I.hok.fresh (Nat.le_refl _))⟩
 rcases hq with hq | hq
 . obtain ⟨its, r', pl, hz⟩ := I.list hq
   have hlen := r'.length
   obtain ⟨o, ho, hc, n, hd⟩ := pl.isList
   exact call_list_seq p (.inl rfl) ho hc hd (fun h' c' kp e => fin its r' hz h' c' kp e) (by simp only [List.size_toArray] <;> omega)
 . obtain ⟨its, r', pl, hz⟩ := I.tuple hq
   have hlen := r'.length
   obtain ⟨o, ho, hc, n, hd⟩ := pl
   exact call_list_seq p (.inr rfl) ho hc hd (fun h' c' kp e => fin its r' hz h' c' kp e) (by simp only [List.size_toArray] <;> omega)
theorem iH : cV X (.type "tuple") (fun xs H Q => ∃ p ys, xs = [.ref p] /\ ((dW X.K H p ys /\ ∀ l, H l = none -> Q (.ref l) (upd H l (.tup ys))) \/ (iG X.K H p ys /\ Q (.ref p) H))) := by
 intro pins s σ H xs us Q I r h
 obtain ⟨p, ys, rfl, h⟩ := h
 obtain ⟨u, rfl, rx⟩ := vals1 r
 cases rx
 rcases h with ⟨hq, q⟩ | ⟨hq, q⟩
 . obtain ⟨its, r', pl, hz⟩ := I.list hq
   have hlen := r'.length
   refine call_tuple_list pl.isList (fun h' kp => ?_) (by simp only [List.size_toArray] <;> omega)
   have I1 : Inv X pins σ H { s with heap := h' } := I.kept (t' := s.toks) kp
   have I2 : Inv X pins σ (upd H h'.objs.size (.tup ys)) { s with heap := h'.push { cls := .type "tuple", data := .seq its.toArray } } :=
    I1.laid (t' := s.toks) (fun b o e => Heap.get?_push_of_some _ e) (Nat.le_refl _) (show bL X.prog X.w _ _ _ (.tup ys) from ⟨hz, its, r', IsTup.new _ _⟩)
   exact ⟨.ref h'.objs.size, _, I2, rfl, q _ (I1.hok.fresh (Nat.le_refl _))⟩
 . obtain ⟨its, r', pl, hz⟩ := I.tuple hq
   exact call_tuple_same pl ⟨.ref p, H, I, rfl, q⟩
noncomputable def XQ (K : PySem.W.Frag) (T : String) (x : V) (H : Hp) : Prop := match x with
 | .str _ => T = "str"
 | .int _ => T = "int"
 | .ref p => (T = "list" /\ ∃ xs, dW K H p xs) \/ (T = "tuple" /\ ∃ o, K.lookup p = some o /\ o.cls = .type "tuple" /\ o.dict = none) \/
  (T = "dict" /\ ((∃ kvs, H p = some (.dK kvs)) \/ ∃ kvs, H p = some (.dT kvs))) \/ (T = "set" /\ ∃ S n, H p = some (.set S n))
 | _ => False
theorem GD {pins : List (Addr × Obj)} {σ : St} {H : Hp} {s : Shared} {T : String} {x : V} {v : Value} (I : Inv X pins σ H s) (r : RelV x v) (ty : XQ X.K T x H) :
 s.TypeIs v T /\ ∀ a, v = .ref a -> ∃ ob, s.heap.get? a = some ob /\ ob.dict = none := by
 cases x with
 | str z =>
   obtain ⟨t, rfl⟩ := r
   cases (show T = "str" from ty)
   exact ⟨typeIs_str s z t, fun _ e => nomatch e⟩
 | int i =>
   obtain ⟨t, rfl⟩ := r
   cases (show T = "int" from ty)
   exact ⟨typeIs_int s i t, fun _ e => nomatch e⟩
 | ref p =>
   cases r
   rcases ty with ⟨rfl, xs, hq⟩ | ⟨rfl, o, hk, hc, hd⟩ | ⟨rfl, hk⟩ | ⟨rfl, S, n, hk⟩
   . obtain ⟨its, _, pl, _⟩ := I.list hq
     refine ⟨pl.isList.typeIs, fun a e => ?_⟩
     cases e
     obtain ⟨o, n, e, c, hd, _⟩ := pl
     exact ⟨o, e, hd⟩
   . refine ⟨⟨o, I.JZ p o hk, hc⟩, fun a e => ?_⟩
     cases e
     exact ⟨o, I.JZ _ o hk, hd⟩
   . have z : ∃ o, s.heap.get? p = some o /\ o.ExactDict := by
      rcases hk with ⟨kvs, hk⟩ | ⟨kvs, hk⟩
      . obtain ⟨_, _, _, _, o, _, _, e, ex, _⟩ := I.hok p _ hk
        exact ⟨o, e, ex⟩
      . obtain ⟨_, _, _, _, o, _, _, e, ex, _⟩ := I.hok p _ hk
        exact ⟨o, e, ex⟩
     obtain ⟨o, e, ex⟩ := z
     refine ⟨⟨o, e, ex.1⟩, fun a e2 => ?_⟩
     cases e2
     exact ⟨o, e, ex.2.1⟩
   . obtain ⟨o, _, _, _, e, ex, _⟩ := I.hok p _ hk
     refine ⟨⟨o, e, ex.1⟩, fun a e2 => ?_⟩
     cases e2
     exact ⟨o, e, ex.2.1⟩
 | _ => exact False.elim ty
noncomputable def tBM (K : PySem.W.Frag) (T : String) (r : V -> List V -> Hp -> VK -> Prop) (to : TE) (t : TA) : TE := fun σ H Q => to σ H fun x H1 => XQ K T x H1 /\ t σ H1 fun xs H2 => r x xs H2 Q
variable {o e : Expr} {es : List Expr} {to : TE} {t : TA} {name : Str} {apos cpos : Pos} {T id : String} {r : V -> List V -> Hp -> VK -> Prop}
theorem PL (pa : PlainAttrs T) (slot : Slot T name id) (hty : typeOf (.builtin id) = pure (.type "method_descriptor")) (hm : Xw X id r) (ho : PE X o to) (ha : PA X (e :: es) t)
 (hbase : attributeBase o name X.env (eval o X.env) = eval o X.env := by rfl)
 (hfew : ((backTo cpos (starEach (e :: es) X.env)).all (fun x => !x.1) && (backToKw cpos (keywordEach [] X.env)).all (fun x => x.1.isSome)
  && decide ((e :: es).length + ([] : List Keyword).length + (if ([] : List Keyword).isEmpty then 0 else 1) < 30)) = true := by rfl)
 (hline : (apos.endLine == cpos.line) = true := by rfl) (hs : starEach (e :: es) X.env = (false, eval e X.env) :: starEach es X.env := by rfl) (hplain : (backTo cpos (starEach es X.env)).any (·.1) = false := by rfl) :
 PE X (.Call (.Attribute o name apos) (e :: es) [] cpos) (tBM X.K T r to t) := by
 intro pins s σ H Q I h
 refine wpAny_Call_method_late hbase hfew hline rfl (cJ (ho pins s σ H _ I h) fun v s1 ⟨x, H1, I1, r1, ty, q1⟩ => ?_)
 obtain ⟨h1, h2⟩ := GD I1 r1 ty
 refine ⟨T, id, pa, slot, hty, h1, h2, ?_⟩
 have hA := ha cpos pins s1 σ H1 _ I1 q1
 rw [hs] at hA ⊢
 refine Calls.callWith_builtin (by show (false || (backTo cpos (starEach es X.env)).any (·.1)) = false; rw [hplain] <;> rfl) (Calls.evalArgs_plain ?_)
 exact cJ hA fun us s2 ⟨vs, H2, I2, r2, q2⟩ => hm pins s2 σ H2 x vs v us Q I2 r1 r2 q2
/- xs.append(e), list.index on a module's tuple .. are Xw facts of 06m -/
end
end L2
namespace L2
open PySem PySem.Spec PyProof.Rows
noncomputable def MtM (X : Cx) (id : String) (r : V -> List V -> Hp -> VK -> Prop) : Prop :=
 ∀ (pins : List (Addr × Obj)) (s : Shared) (σ : St) (H : Hp) (x : V) (xs : List V) (v : Value) (us : List Value) (Q : VK), Inv X pins σ H s -> RelV x v -> Vals xs us -> r x xs H Q ->
   wpAny (model X.prog X.w) X.A (call (.builtin id) (v :: us)) (EP X pins σ Q) X.xe s
theorem Vals.one : ∀ {x : V} {us : List Value}, Vals [x] us -> ∃ u, us = [u] /\ RelV x u
 | _, _, .cons r .nil => ⟨_, rfl, r⟩
theorem Vals.two : ∀ {x y : V} {us : List Value}, Vals [x, y] us -> ∃ u v, us = [u, v] /\ RelV x u /\ RelV y v
 | _, _, _, .cons r (.cons q .nil) => ⟨_, _, rfl, r, q⟩
theorem Vals.zero : ∀ {us : List Value}, Vals [] us -> us = []
 | _, .nil => rfl
theorem Vals.rep {xs : List V} {us : List Value} (h : Vals xs us) : ∀ k : Nat, Vals (List.replicate k xs).flatten (List.replicate k us).flatten
 | 0 => .nil
 | k + 1 => by
   rw [List.replicate_succ, List.replicate_succ, List.flatten_cons, List.flatten_cons]
   exact Vals.append h (Vals.rep h k)
theorem foldl_rep (its : List Value) : ∀ (k : Nat) (acc : List Value),
 List.foldl (fun x1 x2 => x1 ++ x2) acc.toArray (List.replicate k its.toArray) = (acc ++ (List.replicate k its).flatten).toArray
 | 0, acc => by simp
 | k + 1, acc => by
   have e : acc.toArray ++ its.toArray = (acc ++ its).toArray := by simp
   have e2 : (acc ++ its) ++ (List.replicate k its).flatten = acc ++ (List.replicate (k + 1) its).flatten := by
    rw [List.replicate_succ, List.flatten_cons, List.append_assoc]
   rw [<- e2, <- foldl_rep its k (acc ++ its), <- e, List.replicate_succ, List.foldl_cons]
section
variable {X : Cx} {pins : List (Addr × Obj)} {σ : St} {H : Hp} {s : Shared} {l b : Addr} {xs ys zs : List V}
theorem Inv.Wb {its its' : List Value} {n : Nat} {f : Array Value -> Array Value} {t' : Nat} (I : Inv X pins σ H s) (hH : H l = some (.lst xs))
 (e : s.heap.get? l = some { cls := .type "list", data := .seq its.toArray n }) (hf : f its.toArray = its'.toArray) (hv : Vals ys its') (hz : ys.length <= sizeLine) :
 Inv X pins σ (upd H l (.lst ys)) { s with heap := s.heap.update l (Obj.mapSeq f), toks := t' } := by
 have q := PySem.IsL.update e f
 rw [hf] at q
 refine I.write (x := l) (e := l) (by rw [hH]; exact trivial) (.inl rfl) (fun b' u hb hu => (Heap.get?_update_other s.heap (Obj.mapSeq f) (Ne.symm hb)).trans hu) ⟨_, q⟩ ?_
 exact ⟨hz, its', _, hv, q⟩
theorem Inv.Ju {its : List Value} {t' : Nat} (I : Inv X pins σ H s) (hv : Vals ys its) (hz : ys.length <= sizeLine) :
 Inv X pins σ (upd H s.heap.objs.size (.lst ys)) { s with heap := s.heap.push { cls := .type "list", data := .seq its.toArray }, toks := t' } :=
 I.laid (fun _ _ q => Heap.get?_push_of_some _ q) (Nat.le_refl _) ⟨hz, its, 0, hv, Heap.get?_push_size _ rfl⟩
theorem Inv.fresh (I : Inv X pins σ H s) : H s.heap.objs.size = none := I.hok.fresh (Nat.le_refl _)
theorem Inv.Uq (I : Inv X pins σ H s) (hH : H l = some (.lst xs)) : xs.length <= sizeLine /\ ∃ (its : List Value) (n : Nat), Vals xs its /\ xs.length = its.length /\ s.heap.get? l = some { cls := .type "list", data := .seq its.toArray n } := by
 obtain ⟨z, its, n, r, e⟩ := I.hok l _ hH
 exact ⟨z, its, n, r, r.length, e⟩
theorem yj {n : Nat} (h : n <= sizeLine) : Builtin.List.listTooLong n = false := by
 unfold Builtin.List.listTooLong
 exact decide_eq_false (by omega)
end
section
variable {X : Cx}
noncomputable def Ci : V -> List V -> Hp -> VK -> Prop := fun x vs H Q => ∃ l xs y, x = .ref l /\ vs = [y] /\ H l = some (.lst xs) /\ xs.length < sizeLine /\ Q .non (upd H l (.lst (xs ++ [y])))
theorem oE : MtM X "list.append" Ci := by
 intro pins s σ H x vs v us Q I rx rv h
 obtain ⟨l, xs, y, rfl, rfl, hH, hz, q⟩ := h
 cases rx
 obtain ⟨u, rfl, ru⟩ := rv.one
 obtain ⟨z, its, n, r, hl, e⟩ := I.Uq hH
 refine call_meets F.slot_list_append ⟨_, e, rfl⟩ F.entry_list_append (F.args_list_append_2 _ _) (PySem.list_append l its.toArray n u (by rw [List.size_toArray]; omega)) ⟨e, ?_⟩
 refine ⟨.non, _, I.Wb (its' := its ++ [u]) hH e (by simp) (r.append (.cons ru .nil)) ?_, rfl, q⟩
 rw [List.length_append, List.length_singleton]
 omega
theorem len_rep {α : Type} (xs : List α) (k : Nat) : (List.replicate k xs).flatten.length = k * xs.length := by
 induction k with
 | zero => simp
 | succ k ih => rw [List.replicate_succ, List.flatten_cons, List.length_append, ih, Nat.succ_mul, Nat.add_comm]
end
end L2
namespace Su
open PySem PySem.W PySem.Calls PyProof.Rows
theorem kh {P : Params} {h : Heap} : ∀ (ns : List Int) (vs : List Value), WellAll P h vs (ns.map WData.int) -> IntsAre vs ns := by
 intro ns
 induction ns with
 | nil =>
   intro vs w
   rw [List.map_nil] at w
   cases w
   exact .nil
 | cons n ns ih =>
   intro vs w
   rw [List.map_cons] at w
   cases w with
   | cons a b =>
     cases a
     exact .cons _ _ (ih _ b)
theorem xx {l : OpenLaw} {n : Nat} (hn : l.most = some n) {P : Params} {h : Heap} {args : List WData} {vals : List Value}
 (hpre : l.row.toRowW.claim.pre args = true) (hwl : WellAll P h vals args) :
 ∃ a vs ns, vals = [Value.ref a] /\ args = [WData.list (ns.map WData.int)] /\ h.get? a = some { cls := .type "list", data := .seq vs.toArray } /\ IntsAre vs ns /\ ns.length <= n := by
 have hsh : WShape.hasAll [] args [.list .int] = true := (pre_splitW hpre).1
 have hc : l.pre.holds [] { args := args } = true := (pre_splitW hpre).2
 obtain ⟨d, r, rfl, h1, h2⟩ := hasAllW_cons hsh
 obtain rfl := hasAllW_nil h2
 obtain ⟨xs, rfl, h3⟩ := hasW_list h1
 obtain ⟨ns, rfl⟩ := items_int h3
 have hlen : ns.length <= n := by
  unfold OpenLaw.pre at hc
  have h4 : (WTm.not (.lt (.lit (.int (n : Int))) (.len (.arg 0)))).holds [] { args := [.list (ns.map .int)] } = true := by
   have h4 := (holds_andW hc).1
   rw [hn] at h4
   exact h4
  have h5 := condW_of h4 (w_not (w_lt w_lit (w_len_list (w_arg rfl))))
  rw [List.length_map] at h5
  refine Nat.le_of_not_lt fun q => ?_
  have q' : (n : Int) < ((ns.length : Nat) : Int) := by omega
  first
   | (rw [decide_eq_true q'] at h5; exact absurd h5 (by decide))
   | (simp at h5; omega)
 cases hwl with
 | cons w1 w2 =>
   cases w2
   cases w1 with
   | list ho hall => exact ⟨_, _, ns, rfl, rfl, ho, kh ns _ hall, hlen⟩
theorem wX (l : OpenLaw) (args : List WData) : l.row.toRowW.claim.post args (.bool true) args = true :=
 postW_of (r := l.row.toRowW) (X := (true == true))
  (show WShape.has [] (.bool true) .bool = true by first | rfl | decide | simp [WShape.has, WShape.arms, WShape.armsAll])
  (show (WTm.eq .res (.lit (.bool true))).value [] { args := args, res := some (.bool true), after := args } = some (.bool (true == true)) from w_eq_bool (w_res rfl) w_lit) rfl
theorem qm {l : OpenLaw} {n : Nat} {q : Program} {loose : List Str} {XP : (Str -> Option Value) -> Heap -> Prop} {YP : World -> Heap -> Prop} {d : DefRec}
 (hn : l.most = some n) (hdf : d.params.defaults = [])
 (call : ∀ (w : World) (s₀ s₁ : Shared) (mg mb : Str -> Option Value) (fa : Addr) (o : Obj) (pm cd doc : Value) (a : Addr) (vs : List Value) (ns : List Int),
  Ground q loose [] XP w s₀ mg mb s₁.heap -> YP w s₁.heap ->
  s₁.heap.get? fa = some o -> o.data = .func (docDef d.name d.params d.body d.scope pm cd doc) -> s₁.heap.CodeRec cd d.name -> mg d.name = some (.ref fa) ->
  s₁.heap.get? a = some { cls := .type "list", data := .seq vs.toArray } -> IntsAre vs ns -> ns.length <= n -> s₁.gens = #[] ->
  codeAny (model l.prog w) callerA (.call (.ref fa) ⟨[.ref a], []⟩) (fun r s' => r = .ok (.ret (.bool true)) /\ OldK s₁.heap s'.heap /\ s'.os = s₁.os /\ AllBare s'.gens) s₁) :
 WalkO q loose XP YP l.row.toRowW d [] (fun f vs => PySem.call f vs) := by
 intro w s₀ s₁ mg mb G Y fa o pm cd doc dV kV ho hd hcd hD hmg hg args vals as hpre hlay hrd hwl hlo
 obtain rfl : dV = .none := Dflts.none hD hdf
 obtain rfl : kV = .none := Dflts.noKw hD
 obtain ⟨a, vs, ns, rfl, rfl, hobj, hints, hlen⟩ := xx hn hpre hwl
 refine enter_call (codeAny_mono (call w s₀ s₁ mg mb fa o pm cd doc a vs ns G Y ho (fd_plain hd) hcd hmg hobj hints hlen hg) fun r s' hq => ?_)
 obtain ⟨rfl, h2, h3, h4⟩ := hq
 exact ⟨.inl ⟨.bool true, .bool true, [], rfl, fun _ => rfl, .bool true, wX l _, fun _ => ⟨List.Pairwise.nil, fun _ hm => (nomatch hm)⟩⟩, h2, h3, h4⟩
end Su
namespace L2
open PySem PySem.Spec PyProof.Rows
theorem nW : ∀ {vs : List Value} {ns : List Int}, IntsAre vs ns -> Vals (ns.map V.int) vs
 | _, _, .nil => .nil
 | _, _, .cons n t h => .cons ⟨t, rfl⟩ (nW h)
noncomputable def Only (H : Hp) : Prop := ∀ b, H b = none \/ ∃ o xs, H b = some (.gR o (.lst xs))
theorem zc {P : Program} {w : World} {K : PySem.W.Frag} {mg mb : Str -> Option Value} {CX : Ac} {k : Nat} {fa a : Addr} {fd : FuncData} {x : Str} {sp : Sp} {s₁ : Shared} {vs : List Value} {ns : List Int}
 (KX : K.In s₁.heap) (hns : s₁.heap.Ns mainGlobals mg) (hb : s₁.heap.Ns builtinsNs mb) (hbb : ∀ x : Str, x ≠ "__name__" -> mb x = bootBuiltins x) (hlim : s₁.heap.NoLimit) (hg : s₁.gens = #[])
 (ha : s₁.heap.get? a = some { cls := .type "list", data := .seq vs.toArray }) (hi : IntsAre vs ns) (hl : ns.length <= sizeLine) (hr : gO k callerA)
 (F : ∀ base : Heap, K.In base -> base.Ns mainGlobals mg -> cT P w K mg base CX k fa fd [x] sp) (hbind : ∀ (s : Shared) (u : Value), BindsTo s fd ⟨[u], []⟩ [(x, u)])
 (hsp : ∀ H : Hp, Only H -> dW K H a (ns.map V.int) -> sp [.ref a] H (fun v _ => v = .bl true) fun _ _ _ => False)
 (Qy : ∀ H e s', CX [] H s₁ (fun _ _ _ => False) e s' -> False) :
 codeAny (model P w) callerA (.call (.ref fa) ⟨[.ref a], []⟩) (fun r s' => r = .ok (.ret (.bool true)) /\ OldK s₁.heap s'.heap /\ s'.os = s₁.os /\ AllBare s'.gens) s₁ := by
 have rv := nW hi
 have lenV := hi.length
 -- from an abstract heap in which nothing but the script may be tracked
 have core : ∀ H : Hp, Only H -> dW K H a (ns.map V.int) -> jK P w H s₁.heap -> (∀ b, H b ≠ none -> b = a) -> (H a ≠ none -> K.lookup a = none) ->
  codeAny (model P w) callerA (.call (.ref fa) ⟨[.ref a], []⟩) (fun r s' => r = .ok (.ret (.bool true)) /\ OldK s₁.heap s'.heap /\ s'.os = s₁.os /\ AllBare s'.gens) s₁ := by
  intro H hO hS hok hA hK
  have wk : ∀ {b : Addr} {o : Obj}, s₁.heap.get? b = some o -> H b = none -> (o7 s₁.heap H).get? b = some o := fun e n => ym e n
  have Qx : ∀ {b : Addr} {o : Obj} {es : Array DictEntry} {ep : Nat}, s₁.heap.get? b = some o -> o.data = .dict es ep -> H b = none := fun {b o es ep} e d => by
   cases q : H b with
   | none => rfl
   | some u =>
     have e' : b = a := hA b (by rw [q]; simp)
     subst e'
     rw [ha] at e; cases e
     have d' : Data.seq vs.toArray _ = Data.dict es ep := d
     cases d'
  have Sv : ∀ {b : Addr} {m : Str -> Option Value}, s₁.heap.Ns b m -> (o7 s₁.heap H).Ns b m := fun {b m} ⟨o, es, ep, e, d, r⟩ => ⟨o, es, ep, wk e (Qx e d), d, r⟩
  have Yg : K.In (o7 s₁.heap H) := fun b o e => wk (KX b o e) (by
   cases q : H b with
   | none => rfl
   | some u =>
     have e' : b = a := hA b (by rw [q]; simp)
     subst e'
     rw [hK (by rw [q]; simp)] at e; cases e)
  have hM : Mod K mg (o7 s₁.heap H) := ⟨Yg, Sv hns, ⟨mb, Sv hb, hbb⟩, let ⟨mc, h1, h2⟩ := hlim; ⟨mc, Sv h1, h2⟩⟩
  have e0 : BV P w K mg (o7 s₁.heap H) callerA [] s₁ H := ⟨rfl, hM, fun b o e => Cj e, Nat.le_of_eq (xM _ _), trivial, fun b hb => absurd (show b ∈ ([] : List Addr) from hb) (by simp), hok, .of_eq hg⟩
  refine codeAny_mono ((F _ Yg (Sv hns)).run callerA [] s₁ H ⟨[.ref a], []⟩ [.ref a] [.ref a] _ _ hr e0 (hbind s₁ (.ref a)) (.cons rfl .nil) (hsp H hO hS)) fun r s' h => ?_
  cases r with
  | error e => exact (Qy H e s' h).elim
  | ok fl =>
    cases fl with
    | next => exact False.elim h
    | brk => exact False.elim h
    | cont => exact False.elim h
    | ret u =>
      obtain ⟨v, H', os, bare, un, hok', r', q⟩ := h
      have q' : v = .bl true := q
      subst q'
      obtain rfl : u = Value.bool true := r'
      refine ⟨rfl, OldK.of_keep fun b o e => ?_, os, bare⟩
      cases q : H b with
      | none => exact un.keep b o e q (by intro z; exact absurd (show b ∈ ([] : List Addr) from z) (by simp)) (by simp)
      | some u =>
        rcases hO b with z | ⟨ob, xs, z⟩
        . rw [q] at z; cases z
        . have z2 := un.pZ b ob _ z
          obtain ⟨e1, _⟩ := hok b _ z
          obtain ⟨e2, _⟩ := hok' b _ z2
          rw [e] at e1; cases e1
          exact e2
 cases hk : K.lookup a with
 | some o =>
   -- the script is one of the module's own objects
   have e := KX a o hk
   rw [ha] at e
   cases e
   refine core (fun _ => none) (fun _ => .inl rfl) (.inr ⟨_, vs.toArray, _, hk, rfl, rfl, rfl, by rw [List.size_toArray, lenV]; exact hl, by simpa using rv⟩) (fun b u z => by have z' : (none : Option HO) = some u := z; cases z') (fun b z => absurd rfl z) fun z => absurd rfl z
 | none =>
   refine core (fun b => if b = a then some (.gR { cls := .type "list", data := .seq vs.toArray } (.lst (ns.map V.int))) else none) (fun b => ?_) (.inl (.inr ⟨{ cls := .type "list", data := .seq vs.toArray }, if_pos rfl⟩)) (fun b u z => ?_) (fun b z => ?_) fun _ => hk
   . by_cases hb : b = a
     . exact .inr ⟨_, _, if_pos hb⟩
     . exact .inl (if_neg hb)
   . by_cases hb : b = a
     . have z' := (if_pos hb).symm.trans z
       cases z'
       subst hb
       exact ⟨ha, by rw [List.length_map]; exact hl, vs, _, rv, ha⟩
     . have z' := (if_neg hb).symm.trans z
       cases z'
   . by_cases hb : b = a
     . exact hb
     . exact absurd (if_neg hb) z
end L2
namespace L2
open PySem PySem.Spec PyProof.Rows
theorem Bq {l : PySem.W.OpenLaw} {n k : Nat} {q : Program} {loose : List Str} {XP : (Str -> Option Value) -> Heap -> Prop} {YP : World -> Heap -> Prop} {d : DefRec} {K : Params -> PySem.W.Frag} {CX : World -> Ac} {sp : World -> Sp} {x : Str}
 (hn : l.most = some n) (hn2 : n <= sizeLine) (hdf : d.params.defaults = []) (hr : gO k callerA)
 (hY : ∀ (w : World) (h : Heap), YP w h -> (K w.params).In h)
 (F : ∀ (w : World) (mg : Str -> Option Value) (fa : Addr) (h : Heap), (K w.params).In h -> h.Ns mainGlobals mg -> mg d.name = some (.ref fa) ->
  ∃ fd : FuncData, (∀ (s : Shared) (u : Value), BindsTo s fd ⟨[u], []⟩ [(x, u)]) /\
    ∀ base : Heap, (K w.params).In base -> base.Ns mainGlobals mg -> cT l.prog w (K w.params) mg base (CX w) k fa fd [x] (sp w))
 (hsp : ∀ (w : World) (H : Hp) (a : Addr) (ns : List Int), ns.length <= n -> Only H -> dW (K w.params) H a (ns.map V.int) -> sp w [.ref a] H (fun v _ => v = .bl true) fun _ _ _ => False)
 (Qy : ∀ (w : World) (H : Hp) (s : Shared) (e : Value) (s' : Shared), CX w [] H s (fun _ _ _ => False) e s' -> False) :
 PySem.W.WalkO q loose XP YP l.row.toRowW d [] (fun f vs => PySem.call f vs) := by
 refine Su.qm hn hdf fun w s₀ s₁ mg mb fa o pm cd doc a vs ns G Y ho hd hcd hmg hobj hints hlen hg => ?_
 have KX := hY w _ Y
 obtain ⟨fd, hb, hF⟩ := F w mg fa _ KX G.T.g hmg
 exact zc KX G.T.g G.T.b G.T.builtins G.T.nolimit hg hobj hints (Nat.le_trans hlen hn2) hr hF hb (fun H hO hS => hsp w H a ns hlen hO hS) fun H e s' => Qy w H s₁ e s'
theorem zA {l : PySem.W.OpenLaw} {n k : Nat} {q : Program} {loose : List Str} {XP : (Str -> Option Value) -> Heap -> Prop} {YP : World -> Heap -> Prop} {d : DefRec} {K : Params -> PySem.W.Frag} {CX : Ac} {sp : PySem.W.Frag -> Sp} {x : Str}
 (hn : l.most = some n) (hn2 : n <= sizeLine) (hdf : d.params.defaults = []) (hr : gO k callerA)
 (hY : ∀ (w : World) (h : Heap), YP w h -> (K w.params).In h)
 (F : ∀ (w : World) (mg : Str -> Option Value) (fa : Addr) (h : Heap), (K w.params).In h -> h.Ns mainGlobals mg -> mg d.name = some (.ref fa) ->
  ∃ fd : FuncData, (∀ (s : Shared) (u : Value), BindsTo s fd ⟨[u], []⟩ [(x, u)]) /\
    ∀ base : Heap, (K w.params).In base -> base.Ns mainGlobals mg -> cT l.prog w (K w.params) mg base CX k fa fd [x] (sp (K w.params)))
 (hsp : ∀ (K : PySem.W.Frag) (H : Hp) (a : Addr) (ns : List Int), ns.length <= n -> Only H -> dW K H a (ns.map V.int) -> sp K [.ref a] H (fun v _ => v = .bl true) fun _ _ _ => False)
 (Qy : ∀ (H : Hp) (s : Shared) (e : Value) (s' : Shared), CX [] H s (fun _ _ _ => False) e s' -> False) :
 PySem.W.WalkO q loose XP YP l.row.toRowW d [] (fun f vs => PySem.call f vs) :=
 Bq (K := K) (CX := fun _ => CX) (sp := fun w => sp (K w.params)) hn hn2 hdf hr hY F (fun w H a ns h1 h2 h3 => hsp (K w.params) H a ns h1 h2 h3) fun _ H s e s' => Qy H s e s'
end L2
/- THE LAST THEOREM (shape; LID, My.* are Yh):
   My.Adr: a structure of the addresses that your layer names (classes, functions); My.Txt K t: a structure (Prop) of the equations over K;
   My.Wg : {K} {implicit addresses ..} (e1 : nsIn K mainGlobals "law" = some (some (.ref f))) (e2 : K.lookup f = some ⟨oc, od, .func (fnOf "law" "law" params body scope dV kV doc pm an cdv ct), sl⟩) (e3 : codeIn K cdv "law" = true) .. : ∃ t, My.Txt K t
set_option maxRecDepth 100000 in
set_option maxHeartbeats 0 in
(the tactic k_is has no namespace: write k_is) -/
namespace L2
open PySem PySem.Spec PyProof.Rows
noncomputable def fO (s : Stmt) : Arguments := match s with
 | .FunctionDef _ a _ _ _ _ _ _ _ _ => a
 | _ => { posonlyargs := [], args := [], vararg := none, kwonlyargs := [], kw_defaults := [], kwarg := none, defaults := [] }
noncomputable def dH (s : Stmt) : List Stmt := match s with
 | .FunctionDef _ _ b _ _ _ _ _ _ _ => b
 | _ => []
noncomputable def aD (s : Stmt) : Scope := match s with
 | .FunctionDef _ _ _ _ _ _ sc _ _ _ => sc
 | _ => { kind := .function, names := [], isGenerator := false, isCoroutine := false }
noncomputable abbrev j6 : Ac := fun _ _ _ _ _ _ => False
noncomputable abbrev E0 : XK := fun _ _ _ => False
theorem Pa {X : Cx} : Passes j6 X E0 := fun _ _ _ _ _ _ _ h => h.elim
structure lA (K : PySem.W.Frag) (x qual : Str) (st : Stmt) (f : Addr) (fd : FuncData) : Prop where
 ex : ∃ (oc : Value) (od : Option Addr) (kV doc pm : Value) (an : Option Addr) (cdv ct : Value) (osl : Array (Option Value)),
  fd = PySem.W.fnOf x qual (fO st) (dH st) (aD st) .none kV doc pm an cdv ct /\ K.lookup f = some ⟨oc, od, .func fd, osl⟩ /\ PySem.W.codeIn K cdv qual = true
 kp : PySem.W.keepIn K (.ref f) = true
section
variable {P : Program} {w : World} {K : PySem.W.Frag} {mg : Str -> Option Value} {base : Heap}
theorem lA.ok {x qual : Str} {st : Stmt} {f : Addr} {fd : FuncData} {N ps : List Str} {k : Nat} {sp : Sp} (F : lA K x qual st f fd) (S : bj N ps (aD st)) (len : ∀ vs H Q E, sp vs H Q E -> vs.length = ps.length)
 (hbody : ∀ (cdv : Value) (A : Around) (outer : List Env) (s : Shared) (H : Hp) (vs : List V) (Q : VK) (E : XK), gO k (A.deeper (envOfC qual (aD st) s.heap.objs.size f cdv)) -> sp vs H Q E ->
  ∃ t, vL (tZ j6 P w K mg base N qual (aD st) f cdv A outer s H E).N7 (dH st) t /\ t { nx := fun _ H' => Q .non H', rt := Q } (start N vs) H) : cT P w K mg base j6 (k + 1) f fd ps sp := by
 obtain ⟨oc, od, kV, doc, pm, an, cdv, ct, osl, rfl, lk, hcd⟩ := F.ex
 refine P0 lk hcd S len fun A outer s H vs Q E hr hsp => ?_
 obtain ⟨t, h, q⟩ := hbody cdv A outer s H vs Q E hr hsp
 exact ⟨t, h.N7, q⟩
theorem lA.binds {x qual : Str} {st : Stmt} {f : Addr} {fd : FuncData} {ps : List Str} (F : lA K x qual st f fd)
 (h : ∀ (kV doc pm : Value) (an : Option Addr) (cdv ct : Value) (us : List Value), us.length = ps.length -> bindArgs (PySem.W.fnOf x qual (fO st) (dH st) (aD st) .none kV doc pm an cdv ct) ⟨us, []⟩ = pure (ps.zip us)) : Binds K fd ps [] := by
 obtain ⟨oc, od, kV, doc, pm, an, cdv, ct, osl, rfl, lk, hcd⟩ := F.ex
 exact .all (h kV doc pm an cdv ct)
theorem Gv {x qual : Str} {st : Stmt} {f : Addr} {oc : Value} {od an : Option Addr} {osl : Array (Option Value)} {kV doc pm cdv ct : Value} (l : K.lookup f = some ⟨oc, od, .func (PySem.W.fnOf x qual (fO st) (dH st) (aD st) .none kV doc pm an cdv ct), osl⟩)
 (c : PySem.W.codeIn K cdv qual = true) (k : PySem.W.keepIn K (.ref f) = true) : lA K x qual st f (PySem.W.fnOf x qual (fO st) (dH st) (aD st) .none kV doc pm an cdv ct) := ⟨⟨oc, od, kV, doc, pm, an, cdv, ct, osl, rfl, l, c⟩, k⟩
end
noncomputable def aK (H H' : Hp) : Prop := ∀ b o, H b = some o -> H' b = some o
theorem aK.refl (H : Hp) : aK H H := fun _ _ h => h
theorem aK.trans {H H1 H2 : Hp} (a : aK H H1) (b : aK H1 H2) : aK H H2 := fun c o h => b c o (a c o h)
theorem aK.seq {K : PySem.W.Frag} {H H' : Hp} {a : Addr} {xs : List V} (e : aK H H') (h : dW K H a xs) : dW K H' a xs := by
 rcases h with (h | ⟨o, h⟩) | h
 . exact .inl (.inl (e _ _ h))
 . exact .inl (.inr ⟨o, e _ _ h⟩)
 . exact .inr h
end L2
end
section
namespace HH
open PySem
inductive Dc where
 | k (kvs : List (Int × Int)) | t (kvs : List (List Int × Int))
 deriving DecidableEq
inductive D where
 | non | bl (b : Bool) | int (i : Int) | str (s : Str) | tup (ds : List D) | lst (ds : List D) | cD (m : Dc)
 deriving Inhabited
mutual
noncomputable def aW : D -> D -> Bool
 | .non, .non => true
 | .bl a, .bl b => a == b
 | .bl a, .int i => (if a then (1 : Int) else 0) == i
 | .int i, .bl a => i == (if a then (1 : Int) else 0)
 | .int i, .int j => i == j
 | .str a, .str b => a == b
 | .tup xs, .tup ys => dI xs ys
 | .lst xs, .lst ys => dI xs ys
 | .cD a, .cD b => decide (a = b)
 | _, _ => false
noncomputable def dI : List D -> List D -> Bool
 | [], [] => true
 | x :: xs, y :: ys => aW x y && dI xs ys
 | _, _ => false
end
noncomputable def cH : Nat -> D -> Bool
 | _, .non => true | _, .bl _ => true | _, .int _ => true | _, .str _ => true
 | 0, .tup _ => false | 0, .lst _ => false | _, .cD _ => false
 | n + 1, .tup ds => ds.all (cH n)
 | n + 1, .lst ds => ds.all (cH n)
inductive Sl where
 | aX | val (b : Bool) (d : D) | own (b : Bool) (ds : List D) | lent (ds : List D) | eF (m : Dc)
 deriving Inhabited
inductive R where
 | val (d : D) | own (ds : List D)
 deriving Inhabited
noncomputable def R.d : R -> D
 | .val d => d
 | .own ds => .lst ds
inductive Res (α : Type) where
 | ok (a : α) (ρ : List Sl) | exc (k : Nat) (ρ : List Sl) | stuck
 deriving Inhabited
noncomputable def Res.bind {α β : Type} (f : α -> List Sl -> Res β) : Res α -> Res β
 | .ok a ρ => f a ρ
 | .exc _ _ => .stuck
 | .stuck => .stuck
noncomputable def lift {α : Type} (o : Option α) (ρ : List Sl) : Res α := match o with
 | some a => .ok a ρ
 | none => .stuck
inductive Op where | add | sub | mul | fdiv | mod | pow | shl | shr | band | Wh
 deriving DecidableEq
inductive Cm where | eq | ne | lt | le | gt | ge | Yi | Qz | inn | Ax | Yj | QB | Hx
 deriving DecidableEq
inductive Ty where | int | bool | str | tuple | list | none
 deriving DecidableEq
inductive Ru where | len | list | tuple | min2 | max2 | QC | QD | sum | all | any | sorted | abs | int | Wi | Wj | Gm | rvs | Wk | keys | QF | mX
 deriving DecidableEq
inductive P where
 | var (i : Nat)
 | con (d : D)
 | glob (x : Str) (d : D)
 | bin (o : Op) (a b : P)
 | neg (a : P)
 | not (a : P)
 | and (a b : P)
 | or (a b : P)
 | cmp (o : Cm) (a b : P)
 | chain (o o' : Cm) (a b c : P)
 | Yk (c a b : P)
 | tup (as : List P)
 | lst (as : List P)
 | idx (a i : P)
 | slice (a lo hi : P)
 | call (f : Nat) (as : List P)
 | blt (b : Ru) (as : List P)
 | inst (ts : List Ty) (a : P)
 | pop (x : Nat)
 | comp (src : P) (n : Nat) (is : List Nat) (one : Bool) (test : Option P) (elt : P)
 | v9 (a b : P)
 | Yl (a : P)
 | zip (a b : P)
 | rev (a : P)
 | QG (i : Nat) (b : P) (n : Nat) (is : List Nat) (one : Bool) (test : Option P) (elt : P)
 | dgo (x : Nat) (k d : P)
 | vw (x : Nat)
 | QH (x : Nat) (ks : List P)
 | Ay (x : Nat) (ks : List P) (d : P)
 deriving Inhabited
noncomputable abbrev lim : Nat := 16777216
noncomputable def mq : D -> D -> Option R
 | .int i, .int j => some (.val (.int (i + j)))
 | .lst xs, .lst ys => if xs.length + ys.length <= lim then some (.own (xs ++ ys)) else none
 | .tup xs, .tup ys => if xs.length + ys.length <= lim then some (.val (.tup (xs ++ ys))) else none
 | .str x, .str y => if x.length + y.length <= lim then some (.val (.str (x ++ y))) else none
 | _, _ => none
noncomputable def lF : D -> D -> Option R
 | .int i, .int j => if ((-18446744073709551616 < i /\ i < 18446744073709551616) \/ (-18446744073709551616 < j /\ j < 18446744073709551616)) then some (.val (.int (i * j))) else none
 | .lst xs, .int k => if 0 <= k /\ 0 < xs.length /\ xs.length * k.toNat <= lim then some (.own (List.replicate k.toNat xs).flatten) else none
 | .tup xs, .int k => if 0 <= k /\ 0 < xs.length /\ xs.length * k.toNat <= lim then some (.val (.tup (List.replicate k.toNat xs).flatten)) else none
 | _, _ => none
noncomputable def rW : D -> D -> Option R
 | .int i, .int j => some (.val (.int (i - j)))
 | _, _ => none
noncomputable def mz : D -> D -> Option R
 | .int i, .int j => if 0 < j /\ j < 1606938044258990275541962092341162602522202993782792835301376 then some (.val (.int (i / j))) else none
 | _, _ => none
noncomputable def rQ : D -> D -> Option R
 | .int i, .int j => if 0 < j then some (.val (.int (i % j))) else none
 | _, _ => none
noncomputable def rG : D -> D -> Option R
 | .int i, .int j => if 0 <= j /\ j <= 1000 /\ i.natAbs < 18446744073709551616 then some (.val (.int (i ^ j.toNat))) else none
 | _, _ => none
noncomputable def yp : D -> D -> Option R
 | .int i, .int j => if 0 <= j /\ j <= 1000 /\ i.natAbs < 18446744073709551616 then some (.val (.int (i * 2 ^ j.toNat))) else none
 | _, _ => none
noncomputable def yV : D -> D -> Option R
 | .int i, .int j => if 0 <= j then some (.val (.int (i / 2 ^ j.toNat))) else none
 | _, _ => none
noncomputable def uE : D -> D -> Option R
 | .int i, .int j => some (.val (.int (Builtin.bitAnd i j)))
 | _, _ => none
noncomputable def flat : D -> Bool
 | .tup _ => false | .lst _ => false | .cD _ => false | _ => true
noncomputable def items : D -> Option (List D)
 | .lst ds => some ds
 | .tup ds => some ds
 | _ => none
noncomputable def zP : D -> Option (List D)
 | .tup ds => some ds
 | _ => none
noncomputable def qj (x y : D) : Option Bool := if cH 8 x && cH 8 y then some (aW x y) else none
noncomputable def pK (x y : D) : Option Bool := if cH 8 x && cH 8 y then some (!aW x y) else none
noncomputable def Bf (f : Int -> Int -> Bool) : D -> D -> Option Bool
 | .int i, .int j => some (f i j)
 | _, _ => none
noncomputable def iD : D -> Bool
 | .non => true
 | _ => false
noncomputable def XX (neg : Bool) (x : D) : D -> Option Bool
 | .non => some (if neg then !iD x else iD x)
 | _ => none
noncomputable def nu (neg : Bool) (x y : D) : Option Bool := (items y).bind fun ys => if (flat x && ys.all flat) = true then some (if neg then !(ys.any fun y => aW y x) else ys.any fun y => aW y x) else none
noncomputable def XM (neg : Bool) : D -> D -> Option Bool
 | .bl b, .bl true => some (if neg then !b else b)
 | _, _ => none
noncomputable def aP : List Int -> List Int -> Bool
 | [], _ :: _ => true
 | i :: is, j :: js => decide (i < j) || (decide (i = j) && aP is js)
 | _, [] => false
noncomputable def dX : D -> Int
 | .int i => i
 | _ => 0
noncomputable def bz : D -> List Int
 | .int i => [i]
 | .tup ds => ds.map dX
 | _ => []
noncomputable def cL : D -> Bool
 | .int _ => true
 | _ => false
noncomputable def Dc.get : Dc -> D -> Option (Option Int)
 | .k kvs, .int i => some ((kvs.find? fun kv => decide (kv.1 = i)).map (·.2))
 | _, _ => none
noncomputable def putD {κ : Type} [DecidableEq κ] (kvs : List (κ × Int)) (k : κ) (v : Int) : List (κ × Int) :=
 if (kvs.any fun kv => decide (kv.1 = k)) = true then kvs.map (fun kv => if kv.1 = k then (kv.1, v) else kv) else kvs ++ [(k, v)]
noncomputable def Dc.put : Dc -> D -> Int -> Option Dc
 | .k kvs, .int i, v => if kvs.length < lim then some (.k (putD kvs i v)) else none
 | _, _, _ => none
noncomputable def Dc.tM : Dc -> List D -> Option (Option Int)
 | .t kvs, ds => if ds.all cL = true then some ((kvs.find? fun kv => decide (kv.1 = ds.map dX)).map (·.2)) else none
 | _, _ => none
noncomputable def Dc.G3 : Dc -> List D -> Int -> Option Dc
 | .t kvs, ds, v => if ds.all cL = true /\ kvs.length < lim then some (.t (putD kvs (ds.map dX) v)) else none
 | _, _, _ => none
noncomputable def vX : D -> List D -> Option R
 | .cD m, ks => (m.tM ks).bind fun o => o.map fun v => .val (.int v)
 | _, _ => none
noncomputable def vh : D -> D -> Option R
 | .cD m, k => (m.get k).bind fun o => o.map fun v => .val (.int v)
 | _, _ => none
noncomputable def rC : Op -> D -> D -> Option R
 | .add => mq
 | .mul => lF
 | .sub => rW
 | .fdiv => mz
 | .mod => rQ
 | .pow => rG
 | .shl => yp
 | .shr => yV
 | .band => uE
 | .Wh => vh
noncomputable def MN : D -> D -> Option Bool
 | .int i, .int j => some (decide (i < j))
 | .tup xs, .tup ys => if (xs.all cL && ys.all cL) = true then some (aP (xs.map dX) (ys.map dX)) else none
 | _, _ => none
noncomputable def VG : D -> D -> Option Bool
 | .int i, .int j => some (decide (i <= j))
 | .tup xs, .tup ys => if (xs.all cL && ys.all cL) = true then some (!aP (ys.map dX) (xs.map dX)) else none
 | _, _ => none
noncomputable def cm : Cm -> D -> D -> Option Bool
 | .eq => qj
 | .ne => pK
 | .lt => MN
 | .le => Bf fun i j => decide (i <= j)
 | .Hx => VG
 | .gt => Bf fun i j => decide (j < i)
 | .ge => Bf fun i j => decide (j <= i)
 | .Yi => XX false
 | .Qz => XX true
 | .inn => nu false
 | .Ax => nu true
 | .Yj => XM false
 | .QB => XM true
noncomputable def tL (o : Cm) (x y : D) : Option R := (cm o x y).map fun k => .val (.bl k)
noncomputable def iW (n : Nat) (i : Int) : Option Nat := if 0 <= i then (if i < n then some i.toNat else none) else if -(n : Int) <= i then some (i + n).toNat else none
noncomputable def at' {α : Type} (xs : List α) (i : Int) : Option α := (iW xs.length i).bind fun j => xs[j]?
noncomputable def cz (n d : Nat) : Option Int -> Nat
 | none => d
 | some i => if 0 <= i then min i.toNat n else (i + n).toNat
noncomputable def cut {α : Type} (xs : List α) (lo hi : Option Int) : List α := (xs.drop (cz xs.length 0 lo)).take (cz xs.length xs.length hi - cz xs.length 0 lo)
noncomputable def optI : D -> Option (Option Int)
 | .non => some none
 | .int i => some (some i)
 | _ => none
noncomputable def m7 : D -> Option Int
 | .int i => some i
 | _ => none
noncomputable def rY : D -> Option Bool
 | .bl b => some b
 | _ => none
noncomputable def sZ (x y : D) : Option R := (items x).bind fun ds => (m7 y).bind fun i => (at' ds i).map .val
noncomputable def CZ (x : D) : Option R := (m7 x).map fun i => .val (.int (-i))
noncomputable def zE : P -> Bool
 | .con .non => true
 | _ => false
noncomputable def part (p : P) (d : D) : Option (Option Int) := if zE p then some none else (m7 d).map some
noncomputable def Mq : D -> Option (Option Int) -> Option (Option Int) -> Option R
 | .lst xs, some lo, some hi => some (.own (cut xs lo hi))
 | .tup xs, some lo, some hi => some (.val (.tup (cut xs lo hi)))
 | _, _, _ => none
noncomputable def bH : Ty -> D -> Bool
 | .int, .int _ => true | .int, .bl _ => true | .bool, .bl _ => true | .str, .str _ => true | .tuple, .tup _ => true | .list, .lst _ => true | .none, .non => true
 | _, _ => false
noncomputable def kE : D -> Bool
 | .tup (x :: xs) => (x :: xs).all cL
 | _ => false
noncomputable def sortable (ds : List D) : Bool := decide (ds.length <= 16777216) && (ds.all cL || ds.all kE)
noncomputable def gZ (ds : List D) : List D := ds.mergeSort fun a b => !aP (bz b) (bz a)
noncomputable def jL : D -> Option (List D)
 | .lst ds => some ds
 | _ => none
noncomputable def blt : Ru -> List D -> Option R
 | .len, [x] => (items x).map fun ds => .val (.int ds.length)
 | .list, [x] => (items x).map fun ds => .own ds
 | .tuple, [x] => (items x).map fun ds => .val (.tup ds)
 | .min2, [.int i, .int j] => some (.val (.int (if j < i then j else i)))
 | .max2, [.int i, .int j] => some (.val (.int (if i < j then j else i)))
 | .QC, [x] => ((items x).bind fun ds => ds.mapM m7).bind fun ns => ns.min?.map fun i => .val (.int i)
 | .QD, [x] => ((items x).bind fun ds => ds.mapM m7).bind fun ns => ns.max?.map fun i => .val (.int i)
 | .sum, [x] => ((items x).bind fun ds => ds.mapM m7).map fun ns => .val (.int ns.sum)
 | .Wi, [x] => ((items x).bind fun ds => ds.mapM m7).map fun ns => .val (match ns.min? with | some i => .int i | none => .non)
 | .Wj, [x] => ((items x).bind fun ds => ds.mapM m7).map fun ns => .val (match ns.max? with | some i => .int i | none => .non)
 | .all, [x] => ((jL x).bind fun ds => ds.mapM rY).map fun bs => .val (.bl (bs.all id))
 | .any, [x] => ((jL x).bind fun ds => ds.mapM rY).map fun bs => .val (.bl (bs.any id))
 | .sorted, [x] => (jL x).bind fun ds => if sortable ds then some (.own (gZ ds)) else none
 | .abs, [.int i] => some (.val (.int (if i < 0 then -i else i)))
 | .int, [.int i] => some (.val (.int i))
 | .int, [.bl b] => some (.val (.int (if b then 1 else 0)))
 | .Gm, [.lst ds] => if ds.length <= 16777216 then some (.own ds) else none
 | .rvs, [.tup ds] => some (.val (.tup ds.reverse))
 | .Wk, [.lst ds] => some (.own ds.reverse)
 | .keys, [.cD (.k kvs)] => some (.val (.tup (kvs.map fun p => .int p.1)))
 | .mX, [.cD (.t kvs)] => if sortable (kvs.map fun p => .tup (p.1.map D.int)) then some (.own (gZ (kvs.map fun p => .tup (p.1.map D.int)))) else none
 | .QF, [.cD (.k kvs)] => if sortable (kvs.map fun p => .int p.1) then some (.own (gZ (kvs.map fun p => .int p.1))) else none
 | _, _ => none
noncomputable def pk (ρ : List Sl) (i : Nat) : Option D := match ρ[i]? with
 | some (.val _ d) => some d
 | some (.own _ ds) => some (.lst ds)
 | some (.lent ds) => some (.lst ds)
 | _ => none
noncomputable def FT (ρ : List Sl) (i : Nat) : Option (List D) := match pk ρ i with
 | some (.lst ds) => some ds
 | _ => none
noncomputable abbrev Ev := List Sl -> Res R
noncomputable def isVar : P -> Option Nat
 | .var i => some i
 | _ => none
noncomputable def eV (i : Option Nat) (e : Ev) (ρ : List Sl) : Res D := match i with
 | some i => lift (pk ρ i) ρ
 | none => (e ρ).bind fun r ρ => .ok r.d ρ
noncomputable def jU (i : Option Nat) (e : Ev) (j : Option Nat) (f : Ev) (ρ : List Sl) : Res (D × D) := match i with
 | some i => (lift (pk ρ i) ρ).bind fun _ ρ => (eV j f ρ).bind fun y ρ => (lift (pk ρ i) ρ).bind fun x ρ => .ok (x, y) ρ
 | none => (eV none e ρ).bind fun x ρ => (eV j f ρ).bind fun y ρ => .ok (x, y) ρ
noncomputable def jC (e : Ev) (ρ : List Sl) : Res Bool := (e ρ).bind fun r ρ => lift (rY r.d) ρ
inductive Arg where
 | dat (d : D) | tmp (ds : List D) | dm (i : Nat)
noncomputable def sy : R -> Arg
 | .val d => .dat d
 | .own ds => .tmp ds
noncomputable def bw (ρ : List Sl) : List Arg -> List Nat -> Option (List Sl)
 | [], _ => some []
 | .dat d :: r, used => (bw ρ r used).map fun s => .val false d :: s
 | .tmp ds :: r, used => (bw ρ r used).map fun s => .own false ds :: s
 | .dm i :: r, used => match ρ[i]? with
   | some (.val _ d) => (bw ρ r used).map fun s => .val false d :: s
   | some (.own _ ds) => if used.contains i then none else (bw ρ r (i :: used)).map fun s => .own true ds :: s
   | some (.lent ds) => if used.contains i then none else (bw ρ r (i :: used)).map fun s => .lent ds :: s
   | _ => none
noncomputable def aO (i : Nat) : List Arg -> List Sl -> Option Sl
 | .dm k :: as, s :: ss => if k = i then some s else aO i as ss
 | .dat _ :: as, _ :: ss => aO i as ss
 | .tmp _ :: as, _ :: ss => aO i as ss
 | _, _ => none
noncomputable def dC : Sl -> Option Sl -> Sl
 | .own b _, some (.own _ ds) => .own b ds
 | .own b _, some (.val _ d) => .val b d
 | s, _ => s
noncomputable def bR (as : List Arg) (ss : List Sl) : Nat -> List Sl -> List Sl
 | _, [] => []
 | i, s :: ρ => dC s (aO i as ss) :: bR as ss (i + 1) ρ
noncomputable abbrev Call := Nat -> List Sl -> Res R
noncomputable def jV (c : Call) (f : Nat) (as : List Arg) (ρ : List Sl) : Res R := match bw ρ as [] with
 | none => .stuck
 | some args => match c f args with
   | .ok r args' => .ok r (bR as args' 0 ρ)
   | .exc _ _ => .stuck
   | .stuck => .stuck
noncomputable def put (ρ : List Sl) (i : Nat) (s : Sl) : Option (List Sl) := match ρ[i]? with
 | some .aX => some (ρ.set i s)
 | some (.val false _) => some (ρ.set i s)
 | some (.own false _) => some (ρ.set i s)
 | _ => none
noncomputable def putAll (ρ : List Sl) : List Nat -> List D -> Option (List Sl)
 | [], [] => some ρ
 | i :: is, d :: ds => (put ρ i (.val false d)).bind fun ρ => putAll ρ is ds
 | _, _ => none
noncomputable def bU (ρ : List Sl) (is : List Nat) (one : Bool) (d : D) : Option (List Sl) := match one, is, d with
 | true, [i], d => put ρ i (.val false d)
 | false, is, .tup ds => putAll ρ is ds
 | _, _, _ => none
noncomputable def srcOf (i : Option Nat) (e : Ev) (ρ : List Sl) : Res (List D) := match i with
 | some i => match ρ[i]? with
   | some (.val _ d) => lift (items d) ρ
   | some (.own _ ds) => .ok ds (ρ.set i (.lent ds))
   | some (.lent ds) => .ok ds ρ
   | _ => .stuck
 | none => (e ρ).bind fun r ρ => lift (items r.d) ρ
noncomputable def aR (ρ₀ : List Sl) (i : Option Nat) (ρ : List Sl) : List Sl := match i with
 | some i => match ρ₀[i]? with
   | some (.own b ds) => ρ.set i (.own b ds)
   | _ => ρ
 | none => ρ
noncomputable def U5 (i : Nat) (f : Ev) (ρ : List Sl) : Res (List D × List Sl) := (lift (pk ρ i) ρ).bind fun _ ρ => (f ρ).bind fun r ρb => (lift (items r.d) ρb).bind fun es ρb => match ρb[i]? with
 | some (.val _ d) => (lift (items d) ρb).bind fun ds ρb => .ok ((ds.zip es).map fun p => D.tup [p.1, p.2], ρb) ρb
 | some (.own _ ds) => .ok ((ds.zip es).map fun p => D.tup [p.1, p.2], ρb) (ρb.set i (.lent ds))
 | some (.lent ds) => .ok ((ds.zip es).map fun p => D.tup [p.1, p.2], ρb) ρb
 | _ => .stuck
noncomputable def turns (is : List Nat) (one : Bool) (test : List Sl -> Res Bool) (elt : Ev) : List D -> List D -> List Sl -> Res (List D)
 | [], acc, ρ => .ok acc ρ
 | d :: r, acc, ρ => match bU ρ is one d with
   | none => .stuck
   | some ρ => (test ρ).bind fun b ρ => if b then (elt ρ).bind fun x ρ => turns is one test elt r (acc ++ [x.d]) ρ else turns is one test elt r acc ρ
mutual
noncomputable def ev (c : Call) : P -> List Sl -> Res R
 | .var i, ρ => match ρ[i]? with
   | some (.val _ d) => .ok (.val d) ρ
   | some (.own b ds) => .ok (.val (.lst ds)) (ρ.set i (.val b (.lst ds)))
   | some (.eF (.k kvs)) => .ok (.val (.cD (.k kvs))) (ρ.set i (.val false (.cD (.k kvs))))
   | _ => .stuck
 | .con d, ρ => .ok (.val d) ρ
 | .glob _ d, ρ => .ok (.val d) ρ
 | .bin o a b, ρ => (jU (isVar a) (ev c a) (isVar b) (ev c b) ρ).bind fun xy ρ => lift (rC o xy.1 xy.2) ρ
 | .neg a, ρ => (eV (isVar a) (ev c a) ρ).bind fun x ρ => lift (CZ x) ρ
 | .not a, ρ => (jC (ev c a) ρ).bind fun b ρ => .ok (.val (.bl (!b))) ρ
 | .and a b, ρ => (jC (ev c a) ρ).bind fun x ρ => if x then (jC (ev c b) ρ).bind fun y ρ => .ok (.val (.bl y)) ρ else .ok (.val (.bl false)) ρ
 | .or a b, ρ => (jC (ev c a) ρ).bind fun x ρ => if x then .ok (.val (.bl true)) ρ else (jC (ev c b) ρ).bind fun y ρ => .ok (.val (.bl y)) ρ
 | .cmp o a b, ρ => (jU (isVar a) (ev c a) (isVar b) (ev c b) ρ).bind fun xy ρ => lift (tL o xy.1 xy.2) ρ
 | .chain o o' a b d, ρ => (jU (isVar a) (ev c a) (isVar b) (ev c b) ρ).bind fun xy ρ => (lift (if flat xy.2 = true then cm o xy.1 xy.2 else none) ρ).bind fun k ρ =>
  if k then (eV (isVar d) (ev c d) ρ).bind fun z ρ => lift (tL o' xy.2 z) ρ else .ok (.val (.bl false)) ρ
 | .Yk t a b, ρ => (jC (ev c t) ρ).bind fun k ρ => if k then (ev c a ρ).bind fun r ρ => .ok (.val r.d) ρ else (ev c b ρ).bind fun r ρ => .ok (.val r.d) ρ
 | .tup as, ρ => (evs c as ρ).bind fun ds ρ => .ok (.val (.tup ds)) ρ
 | .lst as, ρ => (evs c as ρ).bind fun ds ρ => .ok (.own ds) ρ
 | .idx a i, ρ => (jU (isVar a) (ev c a) (isVar i) (ev c i) ρ).bind fun xy ρ => lift (sZ xy.1 xy.2) ρ
 | .slice a l h, ρ => match isVar a with
   | some i => (lift (pk ρ i) ρ).bind fun _ ρ => (eV (isVar l) (ev c l) ρ).bind fun y ρ => (eV (isVar h) (ev c h) ρ).bind fun z ρ => (lift (pk ρ i) ρ).bind fun x ρ => lift (Mq x (part l y) (part h z)) ρ
   | none => (eV none (ev c a) ρ).bind fun x ρ => (eV (isVar l) (ev c l) ρ).bind fun y ρ => (eV (isVar h) (ev c h) ρ).bind fun z ρ => lift (Mq x (part l y) (part h z)) ρ
 | .call f as, ρ => (tU c as ρ).bind fun xs ρ => jV c f xs ρ
 | .blt b [a], ρ => (eV (isVar a) (ev c a) ρ).bind fun x ρ => lift (blt b [x]) ρ
 | .blt b as, ρ => (evs c as ρ).bind fun ds ρ => lift (blt b ds) ρ
 | .inst ts a, ρ => (eV (isVar a) (ev c a) ρ).bind fun x ρ => .ok (.val (.bl (ts.any fun t => bH t x))) ρ
 | .pop x, ρ => match ρ[x]? with
   | some (.own b ds) => lift (ds.getLast?.map .val) (ρ.set x (.own b ds.dropLast))
   | _ => .stuck
 | .comp src n is one test elt, ρ => (srcOf (isVar src) (ev c src) ρ).bind fun ds ρ₁ =>
  if ds.length <= lim then (turns is one (m8 c test) (ev c elt) ds [] (ρ₁ ++ List.replicate n .aX)).bind fun xs ρ₂ => .ok (.own xs) (aR ρ (isVar src) (ρ₂.take ρ₁.length)) else .stuck
 | .v9 a b, ρ => (jU (isVar a) (ev c a) (isVar b) (ev c b) ρ).bind fun xy ρ => lift ((m7 xy.1).bind fun i => (m7 xy.2).bind fun j =>
  if -1000000 <= i /\ i <= 1000000000 /\ j <= 1000000000 /\ -1000000000 <= j then some (.val (.lst ((List.range (j - i).toNat).map fun (k : Nat) => D.int (i + (k : Int))))) else none) ρ
 | .Yl a, ρ => (ev c a ρ).bind fun r ρ => lift ((items r.d).map fun ds => .val (.lst (ds.mapIdx fun i d => D.tup [.int (i : Int), d]))) ρ
 | .zip a b, ρ => (ev c a ρ).bind fun x ρ => (ev c b ρ).bind fun y ρ => lift ((items x.d).bind fun ds => (items y.d).map fun es => .val (.lst ((ds.zip es).map fun p => D.tup [p.1, p.2]))) ρ
 | .rev a, ρ => (ev c a ρ).bind fun r ρ => lift ((zP r.d).map fun ds => .val (.lst ds.reverse)) ρ
 | .QG i b n is one test elt, ρ => (U5 i (ev c b) ρ).bind fun du ρ₁ =>
  if du.1.length <= lim then (turns is one (m8 c test) (ev c elt) du.1 [] (ρ₁ ++ List.replicate n .aX)).bind fun xs ρ₂ => .ok (.own xs) (aR du.2 (some i) (ρ₂.take ρ₁.length)) else .stuck
 | .dgo x k d, ρ => match ρ[x]? with
   | some (.eF _) => (eV (isVar k) (ev c k) ρ).bind fun kd ρ => (eV (isVar d) (ev c d) ρ).bind fun dd ρ => match ρ[x]? with
     | some (.eF m) => lift ((m.get kd).bind fun o => (m7 dd).map fun v => .val (.int (o.getD v))) ρ
     | _ => .stuck
   | _ => .stuck
 | .vw x, ρ => match ρ[x]? with
   | some (.eF m) => .ok (.val (.cD m)) (ρ.set x (.val false (.cD m)))
   | _ => .stuck
 | .QH x ks, ρ => (lift (pk ρ x) ρ).bind fun _ ρ => (evs c ks ρ).bind fun nC ρ => (lift (pk ρ x) ρ).bind fun dd ρ => lift (vX dd nC) ρ
 | .Ay x ks d, ρ => match ρ[x]? with
   | some (.eF _) => (evs c ks ρ).bind fun nC ρ => (eV (isVar d) (ev c d) ρ).bind fun dd ρ => match ρ[x]? with
     | some (.eF m) => lift ((m.tM nC).bind fun o => (m7 dd).map fun v => .val (.int (o.getD v))) ρ
     | _ => .stuck
   | _ => .stuck
noncomputable def evs (c : Call) : List P -> List Sl -> Res (List D)
 | [], ρ => .ok [] ρ
 | a :: r, ρ => (ev c a ρ).bind fun x ρ => (evs c r ρ).bind fun xs ρ => .ok (x.d :: xs) ρ
noncomputable def tU (c : Call) : List P -> List Sl -> Res (List Arg)
 | [], ρ => .ok [] ρ
 | a :: r, ρ => match isVar a with
   | some i => (lift (pk ρ i) ρ).bind fun _ ρ => (tU c r ρ).bind fun xs ρ => .ok (.dm i :: xs) ρ
   | none => (ev c a ρ).bind fun x ρ => (tU c r ρ).bind fun xs ρ => .ok (sy x :: xs) ρ
noncomputable def m8 (c : Call) : Option P -> List Sl -> Res Bool
 | none, ρ => .ok true ρ
 | some t, ρ => jC (ev c t) ρ
end
inductive S where
 | pass | brk | cont | bad
 | expr (e : P)
 | asg (i : Nat) (e : P)
 | par (i j : Nat) (a b : P)
 | Wl (i : List Nat) (e : P)
 | xP (x : Nat) (i e : P)
 | app (x : Nat) (e : P)
 | ext (x : Nat) (e : P)
 | ret (e : P) | Wm
 | ifs (c : P) (a b : List S)
 | jH (src : P) (i : List Nat) (one : Bool) (body : List S)
 | whl (c : P) (body : List S)
 | Wn (x : Nat) (i : P)
 | swp (x : Nat) (i : P) (y : Nat) (j : P) (a b : P)
 | aug (x : Nat) (sub : Bool) (e : P)
 | Wo (x : Nat) (i : P) (sub : Bool) (e : P)
 | Wq (x : Nat) (e : P)
 | J9 (k : Nat)
 | Wr (body : List S) (k : Nat) (d : D)
 | Ws (body : List S) (x : Nat) (hs : List (List S))
 | Ek (x : Nat) (t : Bool)
 | dput (x : Nat) (k e : P)
 | wu (x : Nat) (ks : List P) (e : P)
 | El (x : Nat) (a b : P) (body : List S)
 | Ym (x : Nat)
 deriving Inhabited
inductive Fl where
 | next | brk | cont | ret (r : R)
 deriving Inhabited
noncomputable def wY : R -> Sl
 | .val d => .val false d
 | .own ds => .own false ds
noncomputable def km (is : List Nat) (one : Bool) (body : List Sl -> Res Fl) : List D -> List Sl -> Res Fl
 | [], ρ => .ok .next ρ
 | d :: r, ρ => match bU ρ is one d with
   | none => .stuck
   | some ρ => (body ρ).bind fun fl ρ => match fl with
     | .next => km is one body r ρ
     | .cont => km is one body r ρ
     | .brk => .ok .next ρ
     | .ret r => .ok (.ret r) ρ
noncomputable def iB (x : Nat) (body : List Sl -> Res Fl) : List (List D) -> List Sl -> Res Fl
 | [], ρ => .ok .next ρ
 | ds :: r, ρ => match put ρ x (.own false ds) with
   | none => .stuck
   | some ρ => (body ρ).bind fun fl ρ => match fl with
     | .next => iB x body r ρ
     | .cont => iB x body r ρ
     | .brk => .ok .next ρ
     | .ret r => .ok (.ret r) ρ
noncomputable def Ab (test : List Sl -> Res Bool) (body : List Sl -> Res Fl) : Nat -> List Sl -> Res Fl
 | 0, _ => .stuck
 | n + 1, ρ => (test ρ).bind fun b ρ => if b then (body ρ).bind fun fl ρ => match fl with
     | .next => Ab test body n ρ
     | .cont => Ab test body n ρ
     | .brk => .ok .next ρ
     | .ret r => .ok (.ret r) ρ
  else .ok .next ρ
noncomputable def Hf (is : List Nat) (one : Bool) (body : List Sl -> Res Fl) (bx : List Sl -> Option (Nat × List Sl)) : List D -> List Sl -> Option (Nat × List Sl)
 | [], _ => none
 | d :: r, ρ => match bU ρ is one d with
   | none => none
   | some ρ => match bx ρ with
     | some x => some x
     | none => match body ρ with
       | .ok .next ρ1 => Hf is one body bx r ρ1
       | .ok .cont ρ1 => Hf is one body bx r ρ1
       | _ => none
noncomputable def Jv : P -> P
 | .idx a _ => a
 | e => e
noncomputable def unl : Sl -> Bool
 | .aX => true
 | .val b _ => !b
 | .own b _ => !b
 | .lent _ => false
 | .eF _ => true
noncomputable def Ew (c : Call) (e : P) (ρ : List Sl) : Option (Nat × List Sl) := match Jv e with
 | .call f as => match tU c as ρ with
   | .ok xs ρ1 => match bw ρ1 xs [] with
     | some args => match c f args with
       | .exc k args' => some (k, bR xs args' 0 ρ1)
       | _ => none
     | none => none
   | _ => none
 | _ => none
mutual
noncomputable def ex (c : Call) (n : Nat) : S -> List Sl -> Res Fl
 | .pass, ρ => .ok .next ρ
 | .brk, ρ => .ok .brk ρ
 | .cont, ρ => .ok .cont ρ
 | .bad, _ => .stuck
 | .expr e, ρ => (ev c e ρ).bind fun _ ρ => .ok .next ρ
 | .asg i e, ρ => (ev c e ρ).bind fun r ρ => (lift (put ρ i (wY r)) ρ).bind fun ρ' _ => .ok .next ρ'
 | .par i j a b, ρ => (ev c a ρ).bind fun x ρ => (ev c b ρ).bind fun y ρ => (lift ((put ρ i (.val false x.d)).bind fun ρ => put ρ j (.val false y.d)) ρ).bind fun ρ' _ => .ok .next ρ'
 | .Wl is e, ρ => (ev c e ρ).bind fun r ρ => match r.d with
   | .tup ds => (lift (putAll ρ is ds) ρ).bind fun ρ' _ => .ok .next ρ'
   | _ => .stuck
 | .xP x i e, ρ => (ev c e ρ).bind fun r ρ => (lift (pk ρ x) ρ).bind fun _ ρ => (eV (isVar i) (ev c i) ρ).bind fun k ρ => match ρ[x]?, k with
   | some (.own b ds), .int k => match iW ds.length k with
     | some j => .ok .next (ρ.set x (.own b (ds.set j r.d)))
     | none => .stuck
   | _, _ => .stuck
 | .app x e, ρ => (lift (FT ρ x) ρ).bind fun _ ρ => (ev c e ρ).bind fun r ρ => match ρ[x]? with
   | some (.own b ds) => if ds.length < lim then .ok .next (ρ.set x (.own b (ds ++ [r.d]))) else .stuck
   | _ => .stuck
 | .ext x e, ρ => (lift (FT ρ x) ρ).bind fun _ ρ => (ev c e ρ).bind fun r ρ => match ρ[x]?, r.d with
   | some (.own b ds), .lst es => if ds.length + es.length <= lim then .ok .next (ρ.set x (.own b (ds ++ es))) else .stuck
   | _, _ => .stuck
 | .ret e, ρ => match isVar e with
   | some i => match ρ[i]? with
     | some (.own false ds) => .ok (.ret (.own ds)) (ρ.set i .aX)
     | _ => (ev c e ρ).bind fun r ρ => .ok (.ret r) ρ
   | none => (ev c e ρ).bind fun r ρ => .ok (.ret r) ρ
 | .Wm, ρ => .ok (.ret (.val .non)) ρ
 | .ifs t a b, ρ => (jC (ev c t) ρ).bind fun k ρ => if k then fc c n a ρ else fc c n b ρ
 | .jH src is one body, ρ => (srcOf (isVar src) (ev c src) ρ).bind fun ds ρ₁ => (km is one (fc c n body) ds ρ₁).bind fun fl ρ₂ => .ok fl (aR ρ (isVar src) ρ₂)
 | .whl t body, ρ => Ab (jC (ev c t)) (fc c n body) n ρ
 | .Wn x i, ρ => (lift (FT ρ x) ρ).bind fun _ ρ => (eV (isVar i) (ev c i) ρ).bind fun k ρ => match ρ[x]?, k with
   | some (.own b ds), .int k => match iW ds.length k with
     | some j => if ds.length <= lim then .ok .next (ρ.set x (.own b (ds.eraseIdx j))) else .stuck
     | none => .stuck
   | _, _ => .stuck
 | .swp x i y j a b, ρ => (ev c a ρ).bind fun u ρ => (ev c b ρ).bind fun v ρ => (lift (pk ρ x) ρ).bind fun _ ρ => (eV (isVar i) (ev c i) ρ).bind fun k ρ => match ρ[x]?, k with
   | some (.own b ds), .int k => match iW ds.length k with
     | some m => (lift (pk (ρ.set x (.own b (ds.set m u.d))) y) (ρ.set x (.own b (ds.set m u.d)))).bind fun _ ρ => (eV (isVar j) (ev c j) ρ).bind fun k ρ => match ρ[y]?, k with
       | some (.own b ds), .int k => match iW ds.length k with
         | some m => .ok .next (ρ.set y (.own b (ds.set m v.d)))
         | none => .stuck
       | _, _ => .stuck
     | none => .stuck
   | _, _ => .stuck
 | .aug x sub e, ρ => (lift (pk ρ x) ρ).bind fun a ρ => (eV (isVar e) (ev c e) ρ).bind fun b ρ => match a, b with
   | .int i, .int j => (lift (put ρ x (.val false (.int (if sub then i - j else i + j)))) ρ).bind fun ρ' _ => .ok .next ρ'
   | _, _ => .stuck
 | .Wo x i sub e, ρ => (lift (pk ρ x) ρ).bind fun _ ρ => (eV (isVar i) (ev c i) ρ).bind fun k ρ => (lift (pk ρ x) ρ).bind fun l ρ => (lift (sZ l k) ρ).bind fun a ρ => (eV (isVar e) (ev c e) ρ).bind fun b ρ => match a, b, ρ[x]?, k with
   | .val (.int u), .int v, some (.own bb ds), .int k => match iW ds.length k with
     | some j => .ok .next (ρ.set x (.own bb (ds.set j (.int (if sub then u - v else u + v)))))
     | none => .stuck
   | _, _, _, _ => .stuck
 | .Wq x e, ρ => (lift (FT ρ x) ρ).bind fun _ ρ => (ev c e ρ).bind fun r ρ => match ρ[x]?, r with
   | some (.own b ds), .own es => if ds.length + es.length <= lim then .ok .next (ρ.set x (.own b (ds ++ es))) else .stuck
   | _, _ => .stuck
 | .Ek x t, ρ => match ρ[x]? with
   | some .aX => .ok .next (ρ.set x (.eF (if t then .t [] else .k [])))
   | _ => .stuck
 | .dput x k e, ρ => (ev c e ρ).bind fun r ρ => match ρ[x]? with
   | some (.eF _) => (eV (isVar k) (ev c k) ρ).bind fun kd ρ => match ρ[x]?, r with
     | some (.eF m), .val (.int v) => match m.put kd v with
       | some m' => .ok .next (ρ.set x (.eF m'))
       | none => .stuck
     | _, _ => .stuck
   | _ => .stuck
 | .J9 _, _ => .stuck
 | .Wr body k d, ρ => match fc c n body ρ with
   | .ok fl ρ' => .ok fl ρ'
   | _ => match um c n body ρ with
     | some (k', ρ') => if k' = k then .ok (.ret (.val d)) ρ' else .stuck
     | none => .stuck
 | .Ws body x hs, ρ => match fc c n body ρ with
   | .ok fl ρ' => .ok fl ρ'
   | _ => match um c n body ρ with
     | some (k, _) => if ρ.all unl = true then match XF c n hs k (List.replicate ρ.length .aX) with
      | .ok .next ρ2 => match ρ2[x]? with
        | some .aX => .ok .next ρ2
        | _ => .stuck
      | _ => .stuck
      else .stuck
     | none => .stuck
 | .wu x ks e, ρ => (ev c e ρ).bind fun r ρ => match ρ[x]? with
   | some (.eF _) => (evs c ks ρ).bind fun nC ρ => match ρ[x]?, r with
     | some (.eF m), .val (.int v) => match m.G3 nC v with
       | some m' => .ok .next (ρ.set x (.eF m'))
       | none => .stuck
     | _, _ => .stuck
   | _ => .stuck
 | .El x a b body, ρ => (ev c a ρ).bind fun r ρ => (ev c b ρ).bind fun u ρ => match r, u with
   | .own ds, .own es => iB x (fc c n body) [ds, es] ρ
   | _, _ => .stuck
 | .Ym x, ρ => (lift (FT ρ x) ρ).bind fun _ ρ => match ρ[x]? with
   | some (.own b ds) => .ok .next (ρ.set x (.own b ds.reverse))
   | _ => .stuck
noncomputable def XF (c : Call) (n : Nat) : List (List S) -> Nat -> List Sl -> Res Fl
 | [], _, _ => .stuck
 | a :: _, 0, ρ => fc c n a ρ
 | _ :: r, k + 1, ρ => XF c n r k ρ
noncomputable def fc (c : Call) (n : Nat) : List S -> List Sl -> Res Fl
 | [], ρ => .ok .next ρ
 | s :: r, ρ => (ex c n s ρ).bind fun fl ρ => match fl with
   | .next => fc c n r ρ
   | fl => .ok fl ρ
noncomputable def exX (c : Call) (n : Nat) : S -> List Sl -> Option (Nat × List Sl)
 | .J9 k, ρ => some (k, ρ)
 | .ifs t a b, ρ => match jC (ev c t) ρ with
   | .ok x ρ1 => if x then um c n a ρ1 else um c n b ρ1
   | _ => none
 | .jH src is one body, ρ => match srcOf (isVar src) (ev c src) ρ with
   | .ok ds ρ1 => (Hf is one (fc c n body) (um c n body) ds ρ1).map fun x => (x.1, aR ρ (isVar src) x.2)
   | _ => none
 | .asg _ e, ρ => Ew c e ρ
 | .expr e, ρ => Ew c e ρ
 | _, _ => none
noncomputable def um (c : Call) (n : Nat) : List S -> List Sl -> Option (Nat × List Sl)
 | [], _ => none
 | s :: r, ρ => match exX c n s ρ with
   | some x => some x
   | none => match ex c n s ρ with
     | .ok .next ρ1 => um c n r ρ1
     | _ => none
end
structure Fd where
 np : Nat
 nn : Nat
 body : List S
 deriving Inhabited
noncomputable abbrev Tab := Nat -> Option Fd
noncomputable def enter (c : Call) (n : Nat) (d : Fd) (args : List Sl) : Res R :=
 if args.length = d.np /\ d.np <= d.nn then match fc c n d.body (args ++ List.replicate (d.nn - d.np) .aX) with
  | .ok .next ρ => .ok (.val .non) (ρ.take d.np)
  | .ok (.ret r) ρ => .ok r (ρ.take d.np)
  | _ => match um c n d.body (args ++ List.replicate (d.nn - d.np) .aX) with
    | some (k, ρ) => .exc k (ρ.take d.np)
    | none => .stuck
 else .stuck
noncomputable def run (Γ : Tab) (w : Nat) : Nat -> Call
 | 0, _, _ => .stuck
 | n + 1, f, args => match Γ f with
   | some d => enter (run Γ w n) w d args
   | none => .stuck
end HH
end
section
namespace HH
open PySem L2
noncomputable def Dc.ho : Dc -> HO
 | .k kvs => .dK (kvs.map fun p => (Sum.inl p.1, V.int p.2))
 | .t kvs => .dT (kvs.map fun p => (p.1.map Sum.inl, V.int p.2))
section
variable (K : PySem.W.Frag)
mutual
noncomputable def Rep (F : Hp) : V -> D -> Prop
 | v, .non => v = .non
 | v, .bl b => v = .bl b
 | v, .int i => v = .int i
 | v, .str x => v = .str x
 | v, .tup ds => ∃ a xs, v = .ref a /\ iG K F a xs /\ az F xs ds
 | v, .lst ds => ∃ a xs, v = .ref a /\ dW K F a xs /\ az F xs ds
 | v, .cD m => ∃ a o, v = .ref a /\ F a = some (.gR o m.ho)
noncomputable def az (F : Hp) : List V -> List D -> Prop
 | vs, [] => vs = []
 | vs, d :: ds => ∃ v r, vs = v :: r /\ Rep F v d /\ az F r ds
end
end
section
variable {K : PySem.W.Frag} {F F' H H' : Hp}
theorem aK.iT {a : Addr} {xs : List V} (e : aK H H') (h : iG K H a xs) : iG K H' a xs := by
 rcases h with (h | ⟨o, h⟩) | h
 . exact .inl (.inl (e _ _ h))
 . exact .inl (.inr ⟨o, e _ _ h⟩)
 . exact .inr h
mutual
theorem Rep.mono (e : aK F F') : ∀ {d : D} {v : V}, Rep K F v d -> Rep K F' v d
 | .non, _, h => by rw [Rep] at h ⊢; exact h
 | .bl _, _, h => by rw [Rep] at h ⊢; exact h
 | .int _, _, h => by rw [Rep] at h ⊢; exact h
 | .str _, _, h => by rw [Rep] at h ⊢; exact h
 | .tup ds, _, h => by
   rw [Rep] at h ⊢
   obtain ⟨a, xs, rfl, hs, r⟩ := h
   exact ⟨a, xs, rfl, aK.iT e hs, az.mono e r⟩
 | .lst ds, _, h => by
   rw [Rep] at h ⊢
   obtain ⟨a, xs, rfl, hs, r⟩ := h
   exact ⟨a, xs, rfl, e.seq hs, az.mono e r⟩
 | .cD m, _, h => by
   rw [Rep] at h ⊢
   obtain ⟨a, o, rfl, hs⟩ := h
   exact ⟨a, o, rfl, e _ _ hs⟩
theorem az.mono (e : aK F F') : ∀ {ds : List D} {vs : List V}, az K F vs ds -> az K F' vs ds
 | [], _, h => by rw [az] at h ⊢; exact h
 | d :: ds, _, h => by
   rw [az] at h ⊢
   obtain ⟨v, r, rfl, h1, h2⟩ := h
   exact ⟨v, r, rfl, Rep.mono e h1, az.mono e h2⟩
end
theorem az.nil : az K F [] [] := by rw [az]
theorem az.cons {v : V} {d : D} {vs : List V} {ds : List D} (h : Rep K F v d) (t : az K F vs ds) : az K F (v :: vs) (d :: ds) := by
 rw [az]; exact ⟨v, vs, rfl, h, t⟩
theorem az.bY {vs : List V} {d : D} {ds : List D} (h : az K F vs (d :: ds)) : ∃ v r, vs = v :: r /\ Rep K F v d /\ az K F r ds := by rw [az] at h; exact h
theorem az.eX {vs : List V} (h : az K F vs []) : vs = [] := by rw [az] at h; exact h
theorem az.length : ∀ {ds : List D} {vs : List V}, az K F vs ds -> vs.length = ds.length
 | [], _, h => by rw [h.eX]; rfl
 | d :: ds, _, h => by
   obtain ⟨v, r, rfl, _, t⟩ := h.bY
   simp [az.length t]
theorem az.get : ∀ {ds : List D} {vs : List V} {i : Nat} {d : D}, az K F vs ds -> ds[i]? = some d -> ∃ v, vs[i]? = some v /\ Rep K F v d
 | [], _, _, _, h, e => by simp at e
 | d :: ds, _, 0, _, h, e => by
   obtain ⟨v, r, rfl, h1, t⟩ := h.bY
   simp at e; subst e
   exact ⟨v, rfl, h1⟩
 | d :: ds, _, i + 1, _, h, e => by
   obtain ⟨v, r, rfl, _, t⟩ := h.bY
   simp at e
   obtain ⟨w, e1, e2⟩ := t.get e
   exact ⟨w, by simpa using e1, e2⟩
theorem az.append : ∀ {ds es : List D} {vs us : List V}, az K F vs ds -> az K F us es -> az K F (vs ++ us) (ds ++ es)
 | [], _, _, _, h, h' => by rw [h.eX]; exact h'
 | d :: ds, _, _, _, h, h' => by
   obtain ⟨v, r, rfl, h1, t⟩ := h.bY
   exact .cons h1 (t.append h')
theorem az.set {v : V} {d : D} (hr : Rep K F v d) : ∀ {ds : List D} {vs : List V} (i : Nat), az K F vs ds -> az K F (vs.set i v) (ds.set i d)
 | [], _, _, h => by rw [h.eX]; exact .nil
 | _ :: _, _, 0, h => by
   obtain ⟨w, r, rfl, h1, t⟩ := h.bY
   exact .cons hr t
 | _ :: _, _, i + 1, h => by
   obtain ⟨w, r, rfl, h1, t⟩ := h.bY
   exact .cons h1 (az.set hr i t)
theorem az.take : ∀ {ds : List D} {vs : List V} (n : Nat), az K F vs ds -> az K F (vs.take n) (ds.take n)
 | [], _, n, h => by rw [h.eX]; simpa using az.nil
 | _ :: _, _, 0, h => .nil
 | _ :: _, _, n + 1, h => by
   obtain ⟨w, r, rfl, h1, t⟩ := h.bY
   exact .cons h1 (t.take n)
theorem az.drop : ∀ {ds : List D} {vs : List V} (n : Nat), az K F vs ds -> az K F (vs.drop n) (ds.drop n)
 | [], _, n, h => by rw [h.eX]; simpa using az.nil
 | _ :: _, _, 0, h => h
 | _ :: _, _, n + 1, h => by
   obtain ⟨w, r, rfl, h1, t⟩ := h.bY
   exact t.drop n
theorem az.rep {ds : List D} {vs : List V} (h : az K F vs ds) : ∀ n, az K F (List.replicate n vs).flatten (List.replicate n ds).flatten
 | 0 => by simpa using az.nil
 | n + 1 => by simpa [List.replicate_succ] using h.append (az.rep h n)
inductive Oc where
 | l (ds : List D) | d (m : Dc)
noncomputable def lst? : Sl -> Option Oc
 | .own _ ds => some (.l ds)
 | .lent ds => some (.l ds)
 | .eF m => some (.d m)
 | _ => none
noncomputable def nR (K : PySem.W.Frag) (F : Hp) (o : HO) : Oc -> Prop
 | .l ds => ∃ xs, o = .lst xs /\ az K F xs ds
 | .d m => o = m.ho
theorem nR.mono {o : HO} {x : Oc} (e : aK F F') (h : nR K F o x) : nR K F' o x := by
 cases x with
 | l ds => obtain ⟨xs, e1, h⟩ := h; exact ⟨xs, e1, h.mono e⟩
 | d m => exact h
noncomputable def aZ (ρ : List Sl) (σ : St) (i : Nat) (a : Addr) : Prop := (∃ s ds, ρ[i]? = some s /\ lst? s = some ds) /\ σ[i]? = some (some (V.ref a))
noncomputable def Own (ρ : List Sl) (σ : St) (a : Addr) : Prop := ∃ i, aZ ρ σ i a
structure GS (K : PySem.W.Frag) (F : Hp) (ρ : List Sl) (σ : St) (H : Hp) : Prop where
 sub : aK F H
 len : ρ.length = σ.length
 val : ∀ (i : Nat) (b : Bool) (d : D), ρ[i]? = some (Sl.val b d) -> ∃ v : V, σ[i]? = some (some v) /\ Rep K F v d
 own : ∀ (i : Nat) (s : Sl) (ds : Oc), ρ[i]? = some s -> lst? s = some ds -> ∃ (a : Addr) (xs : HO), σ[i]? = some (some (V.ref a)) /\ H a = some xs /\ F a = none /\ nR K F xs ds
 dis : ∀ (i j : Nat) (a : Addr), aZ ρ σ i a -> aZ ρ σ j a -> i = j
theorem GS.m9 {ρ : List Sl} {σ : St} (g : GS K F ρ σ H) (i : Nat) (s : Sl) (ds : List D) (e : ρ[i]? = some s) (e' : lst? s = some (.l ds)) : ∃ (a : Addr) (xs : List V), σ[i]? = some (some (V.ref a)) /\ H a = some (.lst xs) /\ F a = none /\ az K F xs ds := by
 obtain ⟨a, o, h1, h2, h3, xs, rfl, h4⟩ := g.own i s (.l ds) e e'
 exact ⟨a, xs, h1, h2, h3, h4⟩
noncomputable def Bg : Sl -> Bool
 | .val b _ => b
 | .own b _ => b
 | .lent _ => true
 | .aX => false
 | .eF _ => false
noncomputable def jR : Sl -> Sl -> Prop
 | .val true d, s => s = .val true d
 | .own true _, s => (∃ ds, s = .own true ds) \/ ∃ d, s = .val true d
 | .lent ds, s => s = .lent ds
 | _, _ => True
theorem jR.refl (s : Sl) : jR s s := by
 unfold jR; split <;> first | rfl | exact .inl ⟨_, rfl⟩ | trivial
theorem jR.Bg {s s' : Sl} (h : jR s s') (l : Bg s = true) : HH.Bg s' = true := by
 cases s with
 | aX => cases l
 | eF _ => cases l
 | val b d => cases b with
   | true => cases h; rfl
   | false => cases l
 | own b d => cases b with
   | true => rcases h with ⟨_, rfl⟩ | ⟨_, rfl⟩ <;> rfl
   | false => cases l
 | lent d => cases h; rfl
theorem jR.trans {s s' s'' : Sl} (l : HH.Bg s = true) (h : jR s s') (h' : jR s' s'') : jR s s'' := by
 cases s with
 | aX => cases l
 | eF _ => cases l
 | val b d => cases b with
   | true => cases h; exact h'
   | false => cases l
 | own b d => cases b with
   | true => rcases h with ⟨_, rfl⟩ | ⟨d, rfl⟩
             . exact h'
             . exact .inr ⟨d, h'⟩
   | false => cases l
 | lent d => cases h; exact h'
noncomputable def nt : Option HO -> Option HO
 | some (.tup _) => none
 | o => o
theorem jy {o : Option HO} (h : o = none) : nt o = none := by rw [h]; rfl
theorem zQ {H : Hp} {b : Addr} {xs : List V} (h : H b = some (.lst xs)) (z : nt (H b) = none) : False := by rw [h] at z; cases z
theorem yq {o : HO} {x : Oc} (h : nR K F o x) (z : nt (some o) = none) : False := by
 cases x with
 | l ds => obtain ⟨xs, rfl, _⟩ := h; cases z
 | d m => cases m <;> (cases (show o = _ from h); cases z)
structure bB (K : PySem.W.Frag) (F : Hp) (ρ : List Sl) (σ : St) (H : Hp) (F' : Hp) (ρ' : List Sl) (σ' : St) (H' : Hp) : Prop where
 gs : GS K F' ρ' σ' H'
 cW : aK F F'
 xQ : ∀ b, F b = none -> F' b ≠ none -> Own ρ σ b \/ nt (H b) = none
 keep : ∀ b o, H b = some o -> ¬ Own ρ σ b -> H' b = some o
 uJ : ∀ b, Own ρ' σ' b -> Own ρ σ b \/ H b = none
 len : ρ'.length = ρ.length
 lk : ∀ (i : Nat) (s : Sl), ρ[i]? = some s -> Bg s = true -> σ'[i]? = σ[i]? /\ ∃ s', ρ'[i]? = some s' /\ jR s s'
theorem bB.refl {ρ : List Sl} {σ : St} (g : GS K F ρ σ H) : bB K F ρ σ H F ρ σ H :=
 ⟨g, aK.refl _, fun b h h' => absurd h h', fun _ _ h _ => h, fun _ h => .inl h, rfl, fun i s h _ => ⟨rfl, s, h, .refl s⟩⟩
theorem bB.trans {F1 F2 H1 H2 : Hp} {ρ ρ1 ρ2 : List Sl} {σ σ1 σ2 : St} (a : bB K F ρ σ H F1 ρ1 σ1 H1) (b : bB K F1 ρ1 σ1 H1 F2 ρ2 σ2 H2) : bB K F ρ σ H F2 ρ2 σ2 H2 := by
 have back : ∀ c, Own ρ1 σ1 c \/ H1 c = none -> Own ρ σ c \/ H c = none := fun c h => by
  rcases h with h | h
  . exact a.uJ c h
  . by_cases ho : Own ρ σ c
    . exact .inl ho
    . right
      cases e : H c with
      | none => rfl
      | some o => rw [a.keep c o e ho] at h; cases h
 refine ⟨b.gs, a.cW.trans b.cW, fun c h h' => ?_, fun c o h n => ?_, fun c h => back c (b.uJ c h), b.len.trans a.len, fun i s h l => ?_⟩
 . by_cases e : F1 c = none
   . by_cases ho : Own ρ σ c
     . exact .inl ho
     . rcases b.xQ c e h' with z | z
       . exact (back c (.inl z)).imp id jy
       . right
         cases q : H c with
         | none => rfl
         | some o => rw [a.keep c o q ho] at z; exact z
   . exact a.xQ c h e
 . refine b.keep c o (a.keep c o h n) fun h' => ?_
   rcases a.uJ c h' with h' | h'
   . exact n h'
   . rw [h] at h'; cases h'
 . obtain ⟨e1, s1, h1, k1⟩ := a.lk i s h l
   obtain ⟨e2, s2, h2, k2⟩ := b.lk i s1 h1 (k1.Bg l)
   exact ⟨e2.trans e1, s2, h2, .trans l k1 k2⟩
noncomputable def cU (K : PySem.W.Frag) (F H : Hp) (v : V) (d : D) : Prop := Rep K F v d \/ ∃ a xs ds, v = .ref a /\ H a = some (.lst xs) /\ az K F xs ds /\ d = .lst ds
noncomputable def bO (K : PySem.W.Frag) (F' : Hp) (ρ' : List Sl) (σ' : St) (H' : Hp) (ρ : List Sl) (σ : St) (H : Hp) (v : V) : R -> Prop
 | .val d => Rep K F' v d
 | .own ds => ∃ a xs, v = .ref a /\ H' a = some (.lst xs) /\ F' a = none /\ az K F' xs ds /\ ¬ Own ρ' σ' a /\ (Own ρ σ a \/ H a = none)
theorem aK.bV {F : Hp} {a : Addr} {o : HO} (h : F a = none) : aK F (upd F a o) := fun b u e => by
 have : b ≠ a := by rintro rfl; rw [h] at e; cases e
 rw [aC this]; exact e
theorem bB.gR {ρ ρ' : List Sl} {σ σ' : St} {v : V} {r : R} (s : bB K F ρ σ H F' ρ' σ' H') (h : bO K F' ρ' σ' H' ρ σ H v r) :
 ∃ F'', bB K F ρ σ H F'' ρ' σ' H' /\ aK F' F'' /\ Rep K F'' v r.d := by
 cases r with
 | val d => exact ⟨F', s, .refl _, h⟩
 | own ds =>
   obtain ⟨a, xs, rfl, h1, h2, h3, h4, h5⟩ := h
   have sm : aK F' (upd F' a (.lst xs)) := aK.bV h2
   refine ⟨upd F' a (.lst xs), ⟨⟨fun b o e => ?_, s.gs.len, fun i b d e => ?_, fun i sl ds' e e' => ?_, s.gs.dis⟩, s.cW.trans sm, fun b n n' => ?_, s.keep, s.uJ, s.len, s.lk⟩, sm, ?_⟩
   . by_cases hb : b = a
     . subst hb; rw [aQ] at e; cases e; exact h1
     . rw [aC hb] at e; exact s.gs.sub b o e
   . obtain ⟨v, e1, e2⟩ := s.gs.val i b d e
     exact ⟨v, e1, e2.mono sm⟩
   . obtain ⟨b, ys, e1, e2, e3, e4⟩ := s.gs.own i sl ds' e e'
     have hb : b ≠ a := by rintro rfl; exact h4 ⟨i, ⟨sl, ds', e, e'⟩, e1⟩
     exact ⟨b, ys, e1, e2, by rw [aC hb]; exact e3, e4.mono sm⟩
   . by_cases hb : b = a
     . subst hb; exact h5.imp id jy
     . rw [aC hb] at n'; exact s.xQ b n n'
   . show Rep K _ _ (.lst ds)
     rw [Rep]; exact ⟨a, xs, rfl, dW.of aQ, h3.mono sm⟩
theorem GS.pk {ρ : List Sl} {σ : St} {i : Nat} {d : D} (g : GS K F ρ σ H) (e : HH.pk ρ i = some d) : ∃ v : V, σ[i]? = some (some v) /\ cU K F H v d := by
 unfold HH.pk at e
 split at e
 . rename_i b d' h
   cases e
   obtain ⟨v, h1, h2⟩ := g.val i b d h
   exact ⟨v, h1, .inl h2⟩
 . rename_i b ds h
   cases e
   obtain ⟨a, xs, h1, h2, h3, h4⟩ := g.m9 i _ ds h rfl
   exact ⟨.ref a, h1, .inr ⟨a, xs, ds, rfl, h2, h4, rfl⟩⟩
 . rename_i ds h
   cases e
   obtain ⟨a, xs, h1, h2, h3, h4⟩ := g.m9 i _ ds h rfl
   exact ⟨.ref a, h1, .inr ⟨a, xs, ds, rfl, h2, h4, rfl⟩⟩
 . cases e
structure Ext (F H F' H' : Hp) : Prop where
 hs : aK H H'
 fs : aK F F'
 sub : aK F' H'
 gr : ∀ b, F b = none -> F' b ≠ none -> nt (H b) = none
theorem Ext.refl (h : aK F H) : Ext F H F H := ⟨.refl _, .refl _, h, fun _ a b => absurd a b⟩
theorem Ext.stp {ρ : List Sl} {σ : St} (g : GS K F ρ σ H) (e : Ext F H F' H') : bB K F ρ σ H F' ρ σ H' := by
 refine ⟨⟨e.sub, g.len, fun i b d h => ?_, fun i s ds h h' => ?_, g.dis⟩, e.fs, fun b n n' => .inr (e.gr b n n'), fun b o h _ => e.hs b o h, fun _ h => .inl h, rfl, fun i s h _ => ⟨rfl, s, h, .refl s⟩⟩
 . obtain ⟨v, h1, h2⟩ := g.val i b d h
   exact ⟨v, h1, h2.mono e.fs⟩
 . obtain ⟨a, xs, h1, h2, h3, h4⟩ := g.own i s ds h h'
   refine ⟨a, xs, h1, e.hs _ _ h2, ?_, h4.mono e.fs⟩
   cases q : F' a with
   | none => rfl
   | some o => have := e.gr a h3 (by rw [q]; simp); rw [h2] at this; exact (yq h4 this).elim
noncomputable def cj (K : PySem.W.Frag) (F' H' H : Hp) (v : V) : R -> Prop
 | .val d => Rep K F' v d
 | .own ds => ∃ a xs, v = .ref a /\ H' a = some (.lst xs) /\ F' a = none /\ az K F' xs ds /\ H a = none
theorem cj.qM {ρ : List Sl} {σ : St} {v : V} {r : R} (g : GS K F ρ σ H) (h : cj K F' H' H v r) : bO K F' ρ σ H' ρ σ H v r := by
 cases r with
 | val d => exact h
 | own ds =>
   obtain ⟨a, xs, rfl, h1, h2, h3, h4⟩ := h
   refine ⟨a, xs, rfl, h1, h2, h3, ?_, .inr h4⟩
   rintro ⟨i, ⟨s, ds', e, e'⟩, e2⟩
   obtain ⟨b, ys, q1, q2, _⟩ := g.own i s ds' e e'
   rw [e2] at q1; cases q1
   rw [h4] at q2; cases q2
theorem bO.later {F1 H1 F2 H2 : Hp} {ρ ρ1 ρ2 : List Sl} {σ σ1 σ2 : St} {v : V} {r : R} (a : bB K F ρ σ H F1 ρ1 σ1 H1) (h : bO K F2 ρ2 σ2 H2 ρ1 σ1 H1 v r) : bO K F2 ρ2 σ2 H2 ρ σ H v r := by
 cases r with
 | val d => exact h
 | own ds =>
   obtain ⟨b, xs, rfl, h1, h2, h3, h4, h5⟩ := h
   refine ⟨b, xs, rfl, h1, h2, h3, h4, ?_⟩
   rcases h5 with h5 | h5
   . exact a.uJ b h5
   . by_cases ho : Own ρ σ b
     . exact .inl ho
     . right
       cases e : H b with
       | none => rfl
       | some o => rw [a.keep b o e ho] at h5; cases h5
end
end HH
end
section
namespace HH
open PySem L2 PySem.Spec PyProof.Rows
theorem ak {α β : Type} {x : Res α} {f : α -> List Sl -> Res β} {b : β} {ρ' : List Sl} (h : x.bind f = .ok b ρ') : ∃ a ρ, x = .ok a ρ /\ f a ρ = .ok b ρ' := by
 cases x with
 | ok a ρ => exact ⟨a, ρ, rfl, h⟩
 | exc _ _ => cases h
 | stuck => cases h
theorem aF {α : Type} {o : Option α} {ρ ρ' : List Sl} {a : α} (h : lift o ρ = .ok a ρ') : o = some a /\ ρ = ρ' := by
 cases o with
 | none => cases h
 | some b => cases h; exact ⟨rfl, rfl⟩
theorem map_some {α β : Type} {o : Option α} {f : α -> β} {b : β} (h : o.map f = some b) : ∃ a, o = some a /\ f a = b := by
 cases o with
 | none => cases h
 | some a => cases h; exact ⟨a, rfl, rfl⟩
theorem dw {α β : Type} {o : Option α} {f : α -> Option β} {b : β} (h : o.bind f = some b) : ∃ a, o = some a /\ f a = some b := by
 cases o with
 | none => cases h
 | some a => exact ⟨a, rfl, h⟩
theorem bh {α : Type} {c : Prop} [Decidable c] {a b : α} (h : (if c then some a else none) = some b) : c /\ a = b := by
 split at h
 . rename_i hc; cases h; exact ⟨hc, rfl⟩
 . cases h
section
variable {X : Cx} {c : Call} {e a b : Expr} {p pa pb : P} {pos : Pos}
theorem eZ {t t' : TE} (h : PE X e t) (i : ∀ σ H Q, t' σ H Q -> t σ H Q) : PE X e t' := fun pins s σ H Q I q => h pins s σ H Q I (i σ H Q q)
theorem yL {t t' : TT} (h : PT X e t) (i : ∀ σ H Q, t' σ H Q -> t σ H Q) : PT X e t' := fun pins s σ H Q I q => h pins s σ H Q I (i σ H Q q)
theorem Ex {t t' : TT} (h : PW X e t) (i : ∀ σ H Q, t' σ H Q -> t σ H Q) : PW X e t' := fun wh pins s σ H Q I q => h wh pins s σ H Q I (i σ H Q q)
theorem qR {es : List Expr} {t t' : TA} (h : PA X es t) (i : ∀ σ H Q, t' σ H Q -> t σ H Q) : PA X es t' := fun pos pins s σ H Q I q => h pos pins s σ H Q I (i σ H Q q)
inductive Ep (K : PySem.W.Frag) (f : Ev) (σ : L2.St) (H : Hp) (Q : VK) : Prop where
 | mk (F : Hp) (ρ : List Sl) (r : R) (ρ' : List Sl) (g : GS K F ρ σ H) (e : f ρ = .ok r ρ') (k : ∀ v F' H', bB K F ρ σ H F' ρ' σ H' -> bO K F' ρ' σ H' ρ σ H v r -> Q v H')
inductive Fe (K : PySem.W.Frag) (f : List Sl -> Res Bool) (σ : L2.St) (H : Hp) (Q : Bool -> Hp -> Prop) : Prop where
 | mk (F : Hp) (ρ : List Sl) (b : Bool) (ρ' : List Sl) (g : GS K F ρ σ H) (e : f ρ = .ok b ρ') (k : ∀ F' H', bB K F ρ σ H F' ρ' σ H' -> Q b H')
inductive VL (K : PySem.W.Frag) (f : List Sl -> Res (List D)) (σ : L2.St) (H : Hp) (Q : List V -> Hp -> Prop) : Prop where
 | mk (F : Hp) (ρ : List Sl) (ds : List D) (ρ' : List Sl) (g : GS K F ρ σ H) (e : f ρ = .ok ds ρ') (k : ∀ vs F' H', bB K F ρ σ H F' ρ' σ H' -> az K F' vs ds -> Q vs H')
structure SX (X : Cx) (c : Call) (e : Expr) (p : P) : Prop where
 ev : PE X e (Ep X.K (HH.ev c p))
 var : ∀ i, isVar p = some i -> PE X e (Nx i)
noncomputable def SA (X : Cx) (c : Call) (es : List Expr) (ps : List P) : Prop := PA X es (VL X.K (evs c ps)) /\ ps.length = es.length
theorem SX.eV (h : SX X c e p) : ∃ t, PE X e t /\ ∀ {σ : L2.St} {H F : Hp} {ρ ρ' : List Sl} {d : D} {Q : VK}, GS X.K F ρ σ H -> eV (isVar p) (HH.ev c p) ρ = .ok d ρ' ->
 (∀ v F' H', bB X.K F ρ σ H F' ρ' σ H' -> cU X.K F' H' v d -> Q v H') -> t σ H Q := by
 cases hv : isVar p with
 | none =>
   refine ⟨_, h.ev, fun {σ H F ρ ρ' d Q} g e k => ?_⟩
   obtain ⟨r, ρ1, e1, e2⟩ := ak e
   cases e2
   refine ⟨F, ρ, r, _, g, e1, fun v F' H' s rr => ?_⟩
   obtain ⟨F'', s', _, rp⟩ := s.gR rr
   exact k v F'' H' s' (.inl rp)
 | some i =>
   refine ⟨_, h.var i hv, fun {σ H F ρ ρ' d Q} g e k => ?_⟩
   obtain ⟨e1, e2⟩ := aF e
   subst e2
   obtain ⟨v, h1, h2⟩ := g.pk e1
   exact ⟨v, h1, k v F H (.refl g) h2⟩
theorem SX.jU (ha : SX X c a pa) (hb : SX X c b pb) : ∃ ta tb, PE X a ta /\ PE X b tb /\ ∀ {σ : L2.St} {H F : Hp} {ρ ρ' : List Sl} {xy : D × D} {R : V -> V -> Hp -> Prop}, GS X.K F ρ σ H ->
 jU (isVar pa) (HH.ev c pa) (isVar pb) (HH.ev c pb) ρ = .ok xy ρ' -> (∀ v u F' H', bB X.K F ρ σ H F' ρ' σ H' -> cU X.K F' H' v xy.1 -> cU X.K F' H' u xy.2 -> R v u H') -> ta σ H fun x H1 => tb σ H1 fun y H2 => R x y H2 := by
 obtain ⟨tb, hb1, hb2⟩ := hb.eV
 cases hv : isVar pa with
 | none =>
   refine ⟨_, tb, ha.ev, hb1, fun {σ H F ρ ρ' xy R} g e k => ?_⟩
   obtain ⟨x, ρ1, e1, e⟩ := ak e
   obtain ⟨y, ρ2, e2, e⟩ := ak e
   cases e
   obtain ⟨r, ρ1', e1, e0⟩ := ak e1
   cases e0
   refine ⟨F, ρ, r, _, g, e1, fun v F' H' s rr => ?_⟩
   obtain ⟨F1, s1, _, rp⟩ := s.gR rr
   refine hb2 s1.gs e2 fun u F2 H2 s2 pu => ?_
   exact k v u F2 H2 (s1.trans s2) (.inl (rp.mono s2.cW)) pu
 | some i =>
   refine ⟨_, tb, ha.var i hv, hb1, fun {σ H F ρ ρ' xy R} g e k => ?_⟩
   obtain ⟨x0, ρ0, e0, e⟩ := ak e
   obtain ⟨QJ, xR⟩ := aF e0
   subst xR
   obtain ⟨y, ρ1, e1, e⟩ := ak e
   obtain ⟨x, ρ2, e2, e⟩ := ak e
   cases e
   have zz := aF e2; clear e2; obtain ⟨e2, e3⟩ := zz
   subst e3
   obtain ⟨v, h1, _⟩ := g.pk QJ
   refine ⟨v, h1, hb2 g e1 fun u F1 H1 s1 pu => ?_⟩
   obtain ⟨v', h1', pv⟩ := s1.gs.pk e2
   rw [h1] at h1'
   cases h1'
   exact k v u F1 H1 s1 pv pu
inductive rD (K : PySem.W.Frag) (f : D -> D -> Option R) (x y : V) (H : Hp) (Q : VK) : Prop where
 | mk (F : Hp) (d e : D) (r : R) (sm : aK F H) (px : cU K F H x d) (py : cU K F H y e) (he : f d e = some r) (k : ∀ v F' H', Ext F H F' H' -> cj K F' H' H v r -> Q v H')
inductive XD (K : PySem.W.Frag) (f : D -> Option R) (x : V) (H : Hp) (Q : VK) : Prop where
 | mk (F : Hp) (d : D) (r : R) (sm : aK F H) (px : cU K F H x d) (he : f d = some r) (k : ∀ v F' H', Ext F H F' H' -> cj K F' H' H v r -> Q v H')
theorem t8 {E : Expr} {f : D -> D -> Option R} {q : P} (hp : ∀ {ta tb}, PE X a ta -> PE X b tb -> PE X E (Lq (rD X.K f) ta tb)) (ha : SX X c a pa) (hb : SX X c b pb)
 (hq : ∀ ρ, HH.ev c q ρ = (HH.jU (isVar pa) (HH.ev c pa) (isVar pb) (HH.ev c pb) ρ).bind fun xy ρ => lift (f xy.1 xy.2) ρ) (hv : isVar q = none) : SX X c E q := by
 obtain ⟨ta, tb, h1, h2, h3⟩ := ha.jU hb
 refine ⟨eZ (hp h1 h2) ?_, fun i h => by rw [hv] at h; cases h⟩
 rintro σ H Q ⟨F, ρ, r, ρ', g, e, k⟩
 rw [hq] at e
 obtain ⟨xy, ρ1, e1, e2⟩ := ak e
 have zz := aF e2; clear e2; obtain ⟨e2, e3⟩ := zz
 subst e3
 refine h3 g e1 fun v u F' H' s pv pu => ⟨F', xy.1, xy.2, r, s.gs.sub, pv, pu, e2, fun w F2 H2 x rn => ?_⟩
 exact k w F2 H2 (s.trans (x.stp s.gs)) (.later s (rn.qM s.gs))
theorem Ie {E : Expr} {f : D -> Option R} {q : P} (hp : ∀ {ta}, PE X a ta -> PE X E (Xc (XD X.K f) ta)) (ha : SX X c a pa)
 (hq : ∀ ρ, HH.ev c q ρ = (HH.eV (isVar pa) (HH.ev c pa) ρ).bind fun x ρ => lift (f x) ρ) (hv : isVar q = none) : SX X c E q := by
 obtain ⟨ta, h1, h3⟩ := ha.eV
 refine ⟨eZ (hp h1) ?_, fun i h => by rw [hv] at h; cases h⟩
 rintro σ H Q ⟨F, ρ, r, ρ', g, e, k⟩
 rw [hq] at e
 obtain ⟨x, ρ1, e1, e2⟩ := ak e
 have zz := aF e2; clear e2; obtain ⟨e2, e3⟩ := zz
 subst e3
 refine h3 g e1 fun v F' H' s pv => ⟨F', x, r, s.gs.sub, pv, e2, fun w F2 H2 x rn => ?_⟩
 exact k w F2 H2 (s.trans (x.stp s.gs)) (.later s (rn.qM s.gs))
theorem GS.freeze {K : PySem.W.Frag} {F H : Hp} {ρ : List Sl} {σ : L2.St} {i : Nat} {b : Bool} {ds : List D} (g : GS K F ρ σ H) (e : ρ[i]? = some (.own b ds)) :
 ∃ v F', σ[i]? = some (some v) /\ bB K F ρ σ H F' (ρ.set i (.val b (.lst ds))) σ H /\ Rep K F' v (.lst ds) := by
 obtain ⟨a, xs, h1, h2, h3, h4⟩ := g.m9 i _ ds e rfl
 have hi : i < ρ.length := (List.getElem?_eq_some_iff.mp e).1
 have sm : aK F (upd F a (.lst xs)) := aK.bV h3
 have rp : Rep K (upd F a (.lst xs)) (.ref a) (.lst ds) := by rw [Rep]; exact ⟨a, xs, rfl, dW.of aQ, h4.mono sm⟩
 have oa : Own ρ σ a := ⟨i, ⟨_, _, e, rfl⟩, h1⟩
 have old : ∀ j x, aZ (ρ.set i (.val b (.lst ds))) σ j x -> aZ ρ σ j x /\ j ≠ i := fun j x ⟨⟨s, ds', q1, q2⟩, q3⟩ => by
  by_cases hj : j = i
  . subst hj; rw [List.getElem?_set_self hi] at q1; cases q1; cases q2
  . rw [List.getElem?_set_ne (Ne.symm hj)] at q1; exact ⟨⟨⟨s, ds', q1, q2⟩, q3⟩, hj⟩
 refine ⟨.ref a, upd F a (.lst xs), h1, ⟨⟨fun x o q => ?_, by simpa using g.len, fun j b' d q => ?_, fun j s ds' q q' => ?_, fun j k x q q' => g.dis j k x (old j x q).1 (old k x q').1⟩, sm, fun x n n' => ?_, fun _ _ q _ => q, fun x ⟨j, q⟩ => .inl ⟨j, (old j x q).1⟩, by simp, fun j s q l => ⟨rfl, ?_⟩⟩, rp⟩
 . by_cases hx : x = a
   . subst hx; rw [aQ] at q; cases q; exact h2
   . rw [aC hx] at q; exact g.sub x o q
 . by_cases hj : j = i
   . subst hj; rw [List.getElem?_set_self hi] at q; cases q; exact ⟨_, h1, rp⟩
   . rw [List.getElem?_set_ne (Ne.symm hj)] at q
     obtain ⟨v, q1, q2⟩ := g.val j b' d q
     exact ⟨v, q1, q2.mono sm⟩
 . by_cases hj : j = i
   . subst hj; rw [List.getElem?_set_self hi] at q; cases q; cases q'
   . rw [List.getElem?_set_ne (Ne.symm hj)] at q
     obtain ⟨x, ys, q1, q2, q3, q4⟩ := g.own j s ds' q q'
     have hx : x ≠ a := by rintro rfl; exact hj (g.dis j i x ⟨⟨s, ds', q, q'⟩, q1⟩ ⟨⟨_, _, e, rfl⟩, h1⟩)
     exact ⟨x, ys, q1, q2, by rw [aC hx]; exact q3, q4.mono sm⟩
 . by_cases hx : x = a
   . subst hx; exact .inl oa
   . rw [aC hx] at n'; exact absurd n n'
 . by_cases hj : j = i
   . subst hj
     rw [e] at q; cases q
     refine ⟨_, List.getElem?_set_self hi, ?_⟩
     cases b with
     | true => exact .inr ⟨_, rfl⟩
     | false => cases l
   . exact ⟨s, by rw [List.getElem?_set_ne (Ne.symm hj)]; exact q, .refl s⟩
theorem GS.vC {K : PySem.W.Frag} {F H : Hp} {ρ : List Sl} {σ : L2.St} {i : Nat} {m : Dc} (g : GS K F ρ σ H) (e : ρ[i]? = some (.eF m)) :
 ∃ a, σ[i]? = some (some (.ref a)) /\ H a = some m.ho /\ ∀ ob, bB K F ρ σ H (upd F a (.gR ob m.ho)) (ρ.set i (.val false (.cD m))) σ (upd H a (.gR ob m.ho)) /\ Rep K (upd F a (.gR ob m.ho)) (.ref a) (.cD m) := by
 obtain ⟨a, o0, h1, h2, h3, h4⟩ := g.own i _ _ e rfl
 cases (show o0 = m.ho from h4)
 have hi : i < ρ.length := (List.getElem?_eq_some_iff.mp e).1
 refine ⟨a, h1, h2, fun ob => ?_⟩
 have sm : aK F (upd F a (.gR ob m.ho)) := aK.bV h3
 have rp : Rep K (upd F a (.gR ob m.ho)) (.ref a) (.cD m) := by rw [Rep]; exact ⟨a, ob, rfl, aQ⟩
 have oa : Own ρ σ a := ⟨i, ⟨_, _, e, rfl⟩, h1⟩
 have old : ∀ j x, aZ (ρ.set i (.val false (.cD m))) σ j x -> aZ ρ σ j x /\ j ≠ i := fun j x ⟨⟨s, ds', q1, q2⟩, q3⟩ => by
  by_cases hj : j = i
  . subst hj; rw [List.getElem?_set_self hi] at q1; cases q1; cases q2
  . rw [List.getElem?_set_ne (Ne.symm hj)] at q1; exact ⟨⟨⟨s, ds', q1, q2⟩, q3⟩, hj⟩
 refine ⟨⟨⟨fun x o q => ?_, by simpa using g.len, fun j b' d q => ?_, fun j s ds' q q' => ?_, fun j k x q q' => g.dis j k x (old j x q).1 (old k x q').1⟩, sm, fun x n n' => ?_, fun x o q n => ?_, fun x ⟨j, q⟩ => .inl ⟨j, (old j x q).1⟩, by simp, fun j s q l => ⟨rfl, ?_⟩⟩, rp⟩
 . by_cases hx : x = a
   . subst hx; rw [aQ] at q ⊢; exact q
   . rw [aC hx] at q ⊢; exact g.sub x o q
 . by_cases hj : j = i
   . subst hj; rw [List.getElem?_set_self hi] at q; cases q; exact ⟨_, h1, rp⟩
   . rw [List.getElem?_set_ne (Ne.symm hj)] at q
     obtain ⟨v, q1, q2⟩ := g.val j b' d q
     exact ⟨v, q1, q2.mono sm⟩
 . by_cases hj : j = i
   . subst hj; rw [List.getElem?_set_self hi] at q; cases q; cases q'
   . rw [List.getElem?_set_ne (Ne.symm hj)] at q
     obtain ⟨x, ys, q1, q2, q3, q4⟩ := g.own j s ds' q q'
     have hx : x ≠ a := by rintro rfl; exact hj (g.dis j i x ⟨⟨s, ds', q, q'⟩, q1⟩ ⟨⟨_, _, e, rfl⟩, h1⟩)
     exact ⟨x, ys, q1, by rw [aC hx]; exact q2, by rw [aC hx]; exact q3, q4.mono sm⟩
 . by_cases hx : x = a
   . subst hx; exact .inl oa
   . rw [aC hx] at n'; exact absurd n n'
 . have hx : x ≠ a := by rintro rfl; exact n oa
   rw [aC hx]; exact q
 . by_cases hj : j = i
   . subst hj
     rw [e] at q; cases q; cases l
   . exact ⟨s, by rw [List.getElem?_set_ne (Ne.symm hj)]; exact q, .refl s⟩
theorem Inv.Qg {X : Cx} {pins : List (Addr × Obj)} {σ : L2.St} {H : Hp} {s : Shared} {a : Addr} {kvs : List (Key × V)} (I : L2.Inv X pins σ H s) (h : H a = some (.dK kvs)) : ∃ o, L2.Inv X pins σ (upd H a (.gR o (.dK kvs))) s := by
 obtain ⟨hz, hS, vs, r, dd⟩ := (show bL X.prog X.w H s.heap a (.dK kvs) from I.hok a _ h)
 obtain ⟨o, ho, _⟩ := dd.typeIs
 exact ⟨o, I.write (h' := s.heap) (t' := s.toks) (by rw [h]; exact trivial) (.inl rfl) (fun b u _ e => e) ⟨o, ho⟩ ⟨ho, hz, hS, vs, r, dd⟩⟩
theorem HY {i : Nat} {x : Str} (hN : X.N[i]? = some x) (hv : xX X.env.scope x) (hd : (x == ("__debug__" : Str)) = false := by decide) (hcd : (x == ("__classdict__" : Str)) = false := by decide) : SX X c (.Name x pos) (.var i) := by
 have h := gF (X := X) (pos := pos) hN hv hd hcd
 refine ⟨?_, fun j hj => by cases hj; exact h⟩
 rintro pins s σ H Q I ⟨F, ρ, r, ρ', g, e, k⟩
 rw [HH.ev] at e
 split at e
 . rename_i b d q
   cases e
   obtain ⟨v, h1, h2⟩ := g.val i b d q
   exact h pins s σ H Q I ⟨v, h1, k v F H (.refl g) h2⟩
 . rename_i b ds q
   cases e
   obtain ⟨v, F', h1, h2, h3⟩ := g.freeze q
   exact h pins s σ H Q I ⟨v, h1, k v F' H h2 h3⟩
 . rename_i kvs q
   cases e
   obtain ⟨a, h1, h2, h3⟩ := g.vC q
   refine cJ (h pins s σ H (fun v H' => v = .ref a /\ H' = H) I ⟨.ref a, h1, rfl, rfl⟩) fun u s1 ⟨v, H1, I1, r1, e1, e2⟩ => ?_
   subst e1 e2
   obtain ⟨o, I2⟩ := Inv.Qg I1 h2
   exact ⟨.ref a, _, I2, r1, k _ _ _ (h3 o).1 (h3 o).2⟩
 . cases e
theorem yG {d : D} {v : V} (h : PE X e (tC v)) (hr : ∀ F, Rep X.K F v d) : SX X c e (.con d) :=
 ⟨eZ h fun σ H Q ⟨F, ρ, r, ρ', g, e, k⟩ => by rw [HH.ev] at e; cases e; exact k v F H (.refl g) (hr F), fun i h => by cases h⟩
theorem ao {i j} : SX X c (.Constant (.int i) j pos) (.con (.int i)) := yG G4 fun F => by rw [Rep]
theorem jE {i j} : SX X c (.Constant (.bool i) j pos) (.con (.bl i)) := yG Pn fun F => by rw [Rep]
theorem cU.int {K : PySem.W.Frag} {F H : Hp} {v : V} {i : Int} (h : cU K F H v (.int i)) : v = .int i := by
 rcases h with h | ⟨_, _, _, _, _, _, h⟩
 . rw [Rep] at h; exact h
 . cases h
theorem cU.bl {K : PySem.W.Frag} {F H : Hp} {v : V} {i : Bool} (h : cU K F H v (.bl i)) : v = .bl i := by
 rcases h with h | ⟨_, _, _, _, _, _, h⟩
 . rw [Rep] at h; exact h
 . cases h
theorem cU.str {K : PySem.W.Frag} {F H : Hp} {v : V} {i : Str} (h : cU K F H v (.str i)) : v = .str i := by
 rcases h with h | ⟨_, _, _, _, _, _, h⟩
 . rw [Rep] at h; exact h
 . cases h
theorem cU.non {K : PySem.W.Frag} {F H : Hp} {v : V} (h : cU K F H v .non) : v = .non := by
 rcases h with h | ⟨_, _, _, _, _, _, h⟩
 . rw [Rep] at h; exact h
 . cases h
theorem cU.tup {K : PySem.W.Frag} {F H : Hp} {v : V} {ds : List D} (s : aK F H) (h : cU K F H v (.tup ds)) : ∃ a xs, v = .ref a /\ iG K H a xs /\ az K F xs ds /\ Rep K F v (.tup ds) := by
 rcases h with h | ⟨_, _, _, _, _, _, h⟩
 . have h' := h
   rw [Rep] at h
   obtain ⟨a, xs, rfl, h1, h2⟩ := h
   exact ⟨a, xs, rfl, aK.iT s h1, h2, h'⟩
 . cases h
theorem cU.lst {K : PySem.W.Frag} {F H : Hp} {v : V} {ds : List D} (s : aK F H) (h : cU K F H v (.lst ds)) : ∃ a xs, v = .ref a /\ dW K H a xs /\ az K F xs ds := by
 rcases h with h | ⟨a, xs, es, h1, h2, h3, h⟩
 . rw [Rep] at h
   obtain ⟨a, xs, rfl, h1, h2⟩ := h
   exact ⟨a, xs, rfl, s.seq h1, h2⟩
 . cases h
   exact ⟨a, xs, h1, dW.of h2, h3⟩
theorem cU.cD {K : PySem.W.Frag} {F H : Hp} {v : V} {m : Dc} (s : aK F H) (h : cU K F H v (.cD m)) : ∃ a o, v = .ref a /\ H a = some (.gR o m.ho) := by
 rcases h with h | ⟨_, _, _, _, _, _, h⟩
 . rw [Rep] at h
   obtain ⟨a, o, rfl, h⟩ := h
   exact ⟨a, o, rfl, s _ _ h⟩
 . cases h
theorem zp {X : Cx} {pins : List (Addr × Obj)} {σ : L2.St} {H : Hp} {s : Shared} {a : Addr} {ob : Obj} {m : Dc} (I : L2.Inv X pins σ H s) (h : H a = some (.gR ob m.ho)) : ∃ o, s.heap.get? a = some o /\ o.cls = .type "dict" := by
 have z := (show bL X.prog X.w H s.heap a (.gR ob m.ho) from I.hok a _ h).2
 cases m with
 | k kvs =>
   obtain ⟨_, _, vs, _, d2⟩ := (show bL X.prog X.w H s.heap a (.dK _) from z)
   exact d2.typeIs
 | t kvs =>
   obtain ⟨_, _, xs, _, o, es, ep, h1, h2, _⟩ := (show bL X.prog X.w H s.heap a (.dT _) from z)
   exact ⟨o, h1, h2.1⟩
theorem cU.items {K : PySem.W.Frag} {F H : Hp} {v : V} {d : D} {ds : List D} (s : aK F H) (h : cU K F H v d) (e : items d = some ds) : ∃ a xs, v = .ref a /\ (dW K H a xs \/ iG K H a xs) /\ az K F xs ds := by
 cases d with
 | tup es => cases e; obtain ⟨a, xs, h1, h2, h3, _⟩ := h.tup s; exact ⟨a, xs, h1, .inr h2, h3⟩
 | lst es => cases e; obtain ⟨a, xs, h1, h2, h3⟩ := h.lst s; exact ⟨a, xs, h1, .inl h2, h3⟩
 | _ => cases e
theorem cj.dG {K : PySem.W.Frag} {F H : Hp} {Q : VK} {v : V} {d : D} (s : aK F H) (r : Rep K F v d) (k : ∀ v F' H', Ext F H F' H' -> cj K F' H' H v (.val d) -> Q v H') : Q v H := k v F H (.refl s) r
theorem cA {K : PySem.W.Frag} {F : Hp} (i : Int) : Rep K F (.int i) (.int i) := by rw [Rep]
theorem nJ {K : PySem.W.Frag} {F : Hp} (i : Bool) : Rep K F (.bl i) (.bl i) := by rw [Rep]
theorem Jo {K : PySem.W.Frag} {F : Hp} (i : Str) : Rep K F (.str i) (.str i) := by rw [Rep]
theorem Iu {K : PySem.W.Frag} {F : Hp} : Rep K F .non .non := by rw [Rep]
theorem tW {K : PySem.W.Frag} {F H : Hp} {Q : VK} {xs : List V} {ds : List D} {p : Addr} (s : aK F H) (r : az K F xs ds) (hp : H p = none) (k : ∀ v F' H', Ext F H F' H' -> cj K F' H' H v (.own ds) -> Q v H') : Q (.ref p) (upd H p (.lst xs)) := by
 have fp : F p = none := by
  cases q : F p with
  | none => rfl
  | some o => rw [s p o q] at hp; cases hp
 exact k _ F _ ⟨aK.bV hp, .refl _, s.trans (aK.bV hp), fun _ a b => absurd a b⟩ ⟨p, xs, rfl, aQ, fp, r, hp⟩
theorem zy {K : PySem.W.Frag} {F H : Hp} {Q : VK} {xs : List V} {ds : List D} {p : Addr} (s : aK F H) (r : az K F xs ds) (hp : H p = none) (k : ∀ v F' H', Ext F H F' H' -> cj K F' H' H v (.val (.tup ds)) -> Q v H') : Q (.ref p) (upd H p (.tup xs)) := by
 have fp : F p = none := by
  cases q : F p with
  | none => rfl
  | some o => rw [s p o q] at hp; cases hp
 have sm : aK F (upd F p (.tup xs)) := aK.bV fp
 refine k _ (upd F p (.tup xs)) _ ⟨aK.bV hp, sm, fun b o e => ?_, fun b n n' => ?_⟩ ?_
 . by_cases hb : b = p
   . subst hb; rw [aQ] at e ⊢; exact e
   . rw [aC hb] at e ⊢; exact s b o e
 . by_cases hb : b = p
   . subst hb; exact jy hp
   . rw [aC hb] at n'; exact absurd n n'
 . show Rep K _ _ (.tup ds)
   rw [Rep]; exact ⟨p, xs, rfl, iG.of aQ, r.mono sm⟩
end
end HH
end
section
namespace HH
open PySem L2 PySem.Spec PyProof.Rows
theorem nq (k : Int) (t : Tok) (l : Addr) (its : Array Value) (n : Nat) (dd : Option Addr) (sl : Array (Option Value)) :
 Meets (Builtin.«int.__rmul__» ⟨[.int k t, .ref l], []⟩) (fun _ R s => s.heap.get? l = some ⟨.type "list", dd, .seq its n, sl⟩ /\ R (.ok (.ret Value.notImplemented)) s) :=
 .of_wp fun prog w A R s h => by
  obtain ⟨hp, g, d, tk, os⟩ := s
  obtain ⟨hl, h⟩ := h
  wp_walk
  exact ⟨_, rfl, h⟩
theorem xG (l : Addr) (its : Array Value) (n : Nat) (dd : Option Addr) (sl : Array (Option Value)) (k : Int) (t : Tok) (h0 : ¬(!Builtin.List.listFitsIndex k) = true) (h1 : ¬its.size * k.toNat > (2 ^ 63 - 1) / 8) (h2 : ¬Builtin.List.listTooLong (its.size * k.toNat) = true) :
 Meets (Builtin.«list.__mul__» ⟨[.ref l, .int k t], []⟩) (fun _ R s => s.heap.get? l = some ⟨.type "list", dd, .seq its n, sl⟩ /\
  R (.ok (.ret (Value.ref s.heap.objs.size))) { s with heap := s.heap.push { cls := .type "list", data := .seq (List.foldl (· ++ ·) #[] (List.replicate (if its.isEmpty = true then 0 else k.toNat) its)) } }) :=
 .of_wp fun prog w A R s h => by
  obtain ⟨hp, g, d, tk, os⟩ := s
  obtain ⟨hl, h⟩ := h
  have hz := AutoListH.joined_fits h2
  wp_walk using wpAny_loadPart' hl
  refine wpAny_ite_false (decide_eq_false (Nat.not_lt.mpr hz)) ?_
  wp_walk
  exact ⟨_, rfl, h⟩
section
variable {X : Cx} {c : Call} {e a b d : Expr} {p pa pb pd : P} {pos : Pos}
theorem Dd : fP X (binaryOp .Add) (fun x y H Q => ∃ l b xs zs, x = .ref l /\ y = .ref b /\ dW X.K H l xs /\ dW X.K H b zs /\ xs.length + zs.length <= sizeLine /\ ∀ p, H p = none -> Q (.ref p) (upd H p (.lst (xs ++ zs)))) := by
 intro pins s σ H x y v u Q I rx ry h
 obtain ⟨l, b, xs, zs, rfl, rfl, hl, hb, hz, q⟩ := h
 cases rx
 cases ry
 obtain ⟨its, r, pl, _⟩ := I.list hl
 obtain ⟨its2, r2, pl2, _⟩ := I.list hb
 obtain ⟨⟨cls, dd, data, sl⟩, ho, hc, n, hd⟩ := id pl.isList
 obtain ⟨⟨cls2, dd2, data2, sl2⟩, ho2, hc2, n2, hd2⟩ := id pl2.isList
 simp only at hc hd hc2 hd2
 subst hc hd hc2 hd2
 have e : its.toArray ++ its2.toArray = (its ++ its2).toArray := by simp
 refine concat_meets ⟨_, ho, rfl⟩ ⟨_, ho2, rfl⟩ noFill_list_add seq_list_add PySem.F.slot_list_add PySem.F.entry_list_add (PySem.F.args_list_add_2 _ _) (list_addW l b its.toArray its2.toArray n n2 dd dd2 sl sl2 (by simp only [List.size_toArray]; rw [<- r.length, <- r2.length]; exact hz)) ⟨ho, ho2, ?_⟩
 rw [e]
 exact ⟨.ref _, _, I.Ju (t' := s.toks) (r.append r2) (by rw [List.length_append]; exact hz), rfl, q _ I.fresh⟩
theorem yc : fP X (binaryOp .Add) (fun x y H Q => ∃ a b ys, x = .ref a /\ y = .ref b /\ iG X.K H a [] /\ iG X.K H b ys /\ Q (.ref b) H) := by
 intro pins s σ H x y v u Q I rx ry h
 obtain ⟨a, b, ys, rfl, rfl, ha, hb, q⟩ := h
 cases rx
 cases ry
 obtain ⟨its, r1, p1, _⟩ := I.tuple ha
 obtain ⟨its2, r2, p2, _⟩ := I.tuple hb
 obtain ⟨⟨cls, dd, data, sl⟩, ho, hc, n, hd⟩ := id p1
 obtain ⟨⟨cls2, dd2, data2, sl2⟩, ho2, hc2, n2, hd2⟩ := id p2
 simp only at hc hd hc2 hd2
 subst hc hd hc2 hd2
 have e0 : its = [] := r1.kY.mpr rfl
 subst e0
 exact concat_meets ⟨_, ho, rfl⟩ ⟨_, ho2, rfl⟩ noFill_tuple_add seq_tuple_add PySem.F.slot_tuple_add PySem.F.entry_tuple_add (PySem.F.args_tuple_add_2 _ _)
  (tuple_addW0 a b _ its2.toArray n n2 dd dd2 sl sl2 (by simp)) ⟨ho, ho2, ⟨.ref b, H, I, rfl, q⟩⟩
theorem bu : fP X (binaryOp .Add) (rD X.K (rC .add)) := by
 rintro pins s σ H x y v u Q I rx ry ⟨F, d, e, r, sm, px, py, he, k⟩
 replace he : mq d e = some r := he
 unfold mq at he
 split at he
 . cases he
   rw [px.int] at rx; rw [py.int] at ry
   exact Hr pins s σ H _ _ v u Q I rx ry ⟨_, _, rfl, rfl, cj.dG sm (cA _) k⟩
 . rename_i xs ys
   obtain ⟨hl, he⟩ := bh he
   subst he
   obtain ⟨a, vs, rfl, ha, ra⟩ := px.lst sm
   obtain ⟨b, us, rfl, hb, rb⟩ := py.lst sm
   exact Dd pins s σ H _ _ v u Q I rx ry ⟨a, b, vs, us, rfl, rfl, ha, hb, by rw [ra.length, rb.length]; exact hl, fun p hp => tW sm (ra.append rb) hp k⟩
 . rename_i xs ys
   obtain ⟨hl, he⟩ := bh he
   subst he
   obtain ⟨a, vs, rfl, ha, ra, ta⟩ := px.tup sm
   obtain ⟨b, us, rfl, hb, rb, tb⟩ := py.tup sm
   by_cases h0 : vs = []
   . subst h0
     have e0 : xs = [] := by have := ra.length; exact List.eq_nil_of_length_eq_zero this.symm
     subst e0
     exact yc pins s σ H _ _ v u Q I rx ry ⟨a, b, us, rfl, rfl, ha, hb, cj.dG sm tb k⟩
   . refine DX pins s σ H _ _ v u Q I rx ry ⟨a, b, vs, us, rfl, rfl, ha, hb, h0, by rw [ra.length, rb.length]; exact hl, fun e => ?_, fun _ p hp => zy sm (ra.append rb) hp k⟩
     subst e
     have e0 : ys = [] := by have := rb.length; exact List.eq_nil_of_length_eq_zero this.symm
     subst e0
     rw [List.append_nil] at k
     exact cj.dG sm ta k
 . rename_i x1 y1
   obtain ⟨hl, he⟩ := bh he
   subst he
   rw [px.str] at rx; rw [py.str] at ry
   exact uC pins s σ H _ _ v u Q I rx ry ⟨_, _, rfl, rfl, hl, cj.dG sm (Jo _) k⟩
 . cases he
theorem jh : fP X (binaryOp .Sub) (rD X.K (rC .sub)) := by
 rintro pins s σ H x y v u Q I rx ry ⟨F, d, e, r, sm, px, py, he, k⟩
 replace he : rW d e = some r := he
 unfold rW at he
 split at he
 . cases he
   rw [px.int] at rx; rw [py.int] at ry
   exact JH pins s σ H _ _ v u Q I rx ry ⟨_, _, rfl, rfl, cj.dG sm (cA _) k⟩
 . cases he
theorem Cv : fP X (binaryOp .Mult) (fun x y H Q => ∃ l k xs, x = .ref l /\ y = .int k /\ dW X.K H l xs /\ -(2 ^ 63) <= k /\ k < 2 ^ 63 /\ xs.length * k.toNat <= sizeLine /\ ∀ p, H p = none -> Q (.ref p) (upd H p (.lst (List.replicate k.toNat xs).flatten))) := by
 intro pins s σ H x y v u Q I rx ry h
 obtain ⟨l, k, xs, rfl, rfl, hl, h1, h2, hz, q⟩ := h
 cases rx
 obtain ⟨t, rfl⟩ := ry
 obtain ⟨its, r, pl, _⟩ := I.list hl
 obtain ⟨⟨cls, dd, data, sl⟩, ho, hc, n, hd⟩ := id pl.isList
 simp only at hc hd
 subst hc hd
 have hlen : its.toArray.size * k.toNat <= sizeLine := by rw [List.size_toArray, <- r.length]; exact hz
 have Wu : ¬ its.toArray.size * k.toNat > (2 ^ 63 - 1) / 8 := by
  have : (sizeLine : Nat) <= (2 ^ 63 - 1) / 8 := by decide
  omega
 have hnew : List.foldl (· ++ ·) #[] (List.replicate (if its.toArray.isEmpty = true then 0 else k.toNat) its.toArray) = (List.replicate k.toNat its).flatten.toArray := by
  have f0 : ∀ m : Nat, List.foldl (· ++ ·) #[] (List.replicate m its.toArray) = (List.replicate m its).flatten.toArray := fun m => by
   have := foldl_rep its m []
   rw [List.nil_append] at this
   exact this
  rw [f0]
  cases its with
  | nil => simp
  | cons a r' => rw [if_neg (by simp)]
 refine wpAny_binaryOp_repeat_ref (T := "list") (U := "int") (by decide) ⟨_, ho, rfl⟩ (fun s' => typeIs_int s' k t) noFill_list_mul F.fills_int_mul F.slot_int_rmul repeat_list F.slot_int_index.lookup ?_
 refine call_meets F.slot_int_rmul (typeIs_int s k t) F.entry_int_rmul (F.args_int_rmul_2 _ _) (nq k t l its.toArray n dd sl) ⟨ho, rfl, ⟨_, ho, rfl⟩, ?_⟩
 refine call_meets F.slot_list_mul ⟨_, ho, rfl⟩ F.entry_list_mul (F.args_list_mul_2 _ _) (xG l its.toArray n dd sl k t (by rw [fitsIndex_both h1 h2]; exact Bool.false_ne_true) Wu (by rw [yj hlen]; exact Bool.false_ne_true)) ⟨ho, ?_⟩
 rw [hnew]
 exact ⟨.ref _, _, I.Ju (t' := s.toks) (r.rep k.toNat) (by rw [len_rep, Nat.mul_comm]; exact hz), rfl, q _ I.fresh⟩
theorem jO : fillsNumberSlot (.type "tuple") "mul" = pure false :=
 PySem.fillsNumberSlot_seq (id := "tuple.__mul__") (r := some (.builtin "tuple.__rmul__")) PySem.F.slot_tuple_mul.lookup (by decide +kernel) PySem.F.slot_tuple_rmul.lookup (by decide +kernel)
theorem oX : seqRepeat? (.type "tuple") = pure (some (.builtin "tuple.__mul__")) := by
 unfold seqRepeat?
 rw [PySem.seqSlot_of (T := "tuple") (name := "__mul__") (id := "tuple.__mul__") PySem.F.slot_tuple_mul.lookup (by decide +kernel), PySem.seqSlot_of (T := "tuple") (name := "__rmul__") (id := "tuple.__rmul__") PySem.F.slot_tuple_rmul.lookup (by decide +kernel)]
 rfl
theorem lX (k : Int) (t : Tok) (l : Addr) (its : Array Value) (n : Nat) (dd : Option Addr) (sl : Array (Option Value)) :
 Meets (Builtin.«int.__rmul__» ⟨[.int k t, .ref l], []⟩) (fun _ R s => s.heap.get? l = some ⟨.type "tuple", dd, .seq its n, sl⟩ /\ R (.ok (.ret Value.notImplemented)) s) :=
 .of_wp fun prog w A R s h => by
  obtain ⟨hp, g, d, tk, os⟩ := s
  obtain ⟨hl, h⟩ := h
  wp_walk
  exact ⟨_, rfl, h⟩
theorem uF (l : Addr) (its : Array Value) (n : Nat) (dd : Option Addr) (sl : Array (Option Value)) (k : Int) (t : Tok) (h0 : 0 <= k) (h1 : k < 2 ^ 63) (hz : its.size * k.toNat <= sizeLine) (hne : 0 < its.size) :
 Meets (Builtin.«tuple.__mul__» ⟨[.ref l, .int k t], []⟩) (fun _ R s => s.heap.get? l = some ⟨.type "tuple", dd, .seq its n, sl⟩ /\
  (k = 1 -> R (.ok (.ret (Value.ref l))) s) /\ (k ≠ 1 -> R (.ok (.ret (Value.ref s.heap.objs.size))) { s with heap := s.heap.push { cls := .type "tuple", data := .seq (List.foldl (· ++ ·) #[] (List.replicate k.toNat its)) } })) :=
 .of_wp fun prog w A R s h => by
  obtain ⟨hp, g, d, tk, os⟩ := s
  obtain ⟨hl, q1, q2⟩ := h
  have Yn : its.isEmpty = false := by cases e : its.isEmpty with | false => rfl | true => rw [Array.isEmpty_iff_size_eq_zero] at e; omega
  show wpAny _ _ (asIndex (.int k t) >>= _) _ _ _
  wp_walk using wpAny_loadPart' hl
  have hI : IsTup hp l its := ⟨_, hl, rfl, n, rfl⟩
  rw [if_neg (by simp; omega)]
  refine wpAny_bind (PyProof.Rows.tupleItemsOf_ hI ?_)
  try dsimp only
  by_cases e1 : k = 1
  . rw [if_pos (by simp [e1])]
    wp_walk using wpAny_loadPart' hl
    exact ⟨_, rfl, q1 e1⟩
  . have q := q2 e1
    rw [if_neg (by simp [Yn, e1])]
    by_cases e0 : k = 0
    . subst e0
      rw [if_pos (by simp)]
      unfold Builtin.Tuple.tupleExact
      refine wpAny_bind (wpAny_newObj_type ?_)
      exact wpAny_pure ⟨_, rfl, q⟩
    . have hb : (its.size : Int) * k <= sizeLine := by
       have : ((its.size * k.toNat : Nat) : Int) <= (sizeLine : Nat) := by exact_mod_cast hz
       rw [Int.natCast_mul, show ((k.toNat : Nat) : Int) = k by omega] at this
       exact this
      have hs2 : (sizeLine : Int) <= (2 ^ 63 - 1) / 8 := by decide
      rw [if_neg (by simp [Yn]; omega), if_neg (by omega), if_neg (by simp [Builtin.Tuple.tupleTooMany]; omega)]
      unfold Builtin.Tuple.tupleExact
      refine wpAny_bind (wpAny_newObj_type ?_ ?_)
      . exact wpAny_pure ⟨_, rfl, q⟩
      . have := foldl_rep its.toList k.toNat []
        rw [List.nil_append, show its.toList.toArray = its by simp] at this
        show (List.foldl (· ++ ·) #[] (List.replicate k.toNat its)).size <= sizeLine
        rw [show (#[] : Array Value) = ([] : List Value).toArray from rfl, this, List.size_toArray, len_rep, Array.length_toList, Nat.mul_comm]
        exact hz
theorem DR : fP X (binaryOp .Mult) (fun x y H Q => ∃ l k xs, x = .ref l /\ y = .int k /\ iG X.K H l xs /\ 0 < xs.length /\ 0 <= k /\ k < 2 ^ 63 /\ xs.length * k.toNat <= sizeLine /\ (k = 1 -> Q (.ref l) H) /\ (k ≠ 1 -> ∀ p, H p = none -> Q (.ref p) (upd H p (.tup (List.replicate k.toNat xs).flatten)))) := by
 intro pins s σ H x y v u Q I rx ry h
 obtain ⟨l, k, xs, rfl, rfl, hl, hne, h1, h2, hz, qa, qb⟩ := h
 cases rx
 obtain ⟨t, rfl⟩ := ry
 obtain ⟨its, r, pl, _⟩ := I.tuple hl
 obtain ⟨⟨cls, dd, data, sl⟩, ho, hc, n, hd⟩ := id pl
 simp only at hc hd
 subst hc hd
 have hlen : its.toArray.size * k.toNat <= sizeLine := by rw [List.size_toArray, <- r.length]; exact hz
 have hnew : List.foldl (· ++ ·) #[] (List.replicate k.toNat its.toArray) = (List.replicate k.toNat its).flatten.toArray := by
  have := foldl_rep its k.toNat []
  rw [List.nil_append] at this
  exact this
 refine wpAny_binaryOp_repeat_ref (T := "tuple") (U := "int") (by decide) ⟨_, ho, rfl⟩ (fun s' => typeIs_int s' k t) jO F.fills_int_mul F.slot_int_rmul oX F.slot_int_index.lookup ?_
 refine call_meets F.slot_int_rmul (typeIs_int s k t) F.entry_int_rmul (F.args_int_rmul_2 _ _) (lX k t l its.toArray n dd sl) ⟨ho, rfl, ⟨_, ho, rfl⟩, ?_⟩
 refine call_meets PySem.F.slot_tuple_mul ⟨_, ho, rfl⟩ PySem.F.entry_tuple_mul (PySem.F.args_tuple_mul_2 _ _) (uF l its.toArray n dd sl k t h1 h2 hlen (by rw [List.size_toArray, <- r.length]; exact hne)) ⟨ho, fun e => ⟨.ref l, H, I, rfl, qa e⟩, fun e => ?_⟩
 rw [hnew]
 refine ⟨.ref s.heap.objs.size, _, I.laid (t' := s.toks) (o := .tup (List.replicate k.toNat xs).flatten) (fun b ob q => Heap.get?_push_of_some _ q) (Nat.le_refl _) ?_, rfl, qb e _ (I.hok.fresh (Nat.le_refl _))⟩
 exact ⟨by rw [len_rep, Nat.mul_comm]; exact hz, _, r.rep k.toNat, IsTup.new _ _⟩
theorem eN : fP X (binaryOp .Mult) (rD X.K (rC .mul)) := by
 rintro pins s σ H x y v u Q I rx ry ⟨F, d, e, r, sm, px, py, he, k⟩
 replace he : lF d e = some r := he
 unfold lF at he
 split at he
 . obtain ⟨hc, he⟩ := bh he
   subst he
   rw [px.int] at rx; rw [py.int] at ry
   exact Jt pins s σ H _ _ v u Q I rx ry ⟨_, _, rfl, rfl, hc, cj.dG sm (cA _) k⟩
 . rename_i xs i
   obtain ⟨⟨h1, h2, h3⟩, he⟩ := bh he
   subst he
   obtain ⟨a, vs, rfl, ha, ra⟩ := px.lst sm
   rw [py.int] at ry
   have hk : i < 2 ^ 63 := by
    have h4 := Nat.le_mul_of_pos_left i.toNat h2
    have h5 : i.toNat <= 16777216 := Nat.le_trans h4 h3
    omega
   exact Cv pins s σ H _ _ v u Q I rx ry ⟨a, i, vs, rfl, rfl, ha, by omega, hk, by rw [ra.length]; exact h3, fun p hp => tW sm (ra.rep i.toNat) hp k⟩
 . rename_i xs i
   obtain ⟨⟨h1, h2, h3⟩, he⟩ := bh he
   subst he
   obtain ⟨a, vs, rfl, ha, ra, rr⟩ := px.tup sm
   rw [py.int] at ry
   have hk : i < 2 ^ 63 := by
    have h4 := Nat.le_mul_of_pos_left i.toNat h2
    have h5 : i.toNat <= 16777216 := Nat.le_trans h4 h3
    omega
   refine DR pins s σ H _ _ v u Q I rx ry ⟨a, i, vs, rfl, rfl, ha, by rw [ra.length]; exact h2, h1, hk, by rw [ra.length]; exact h3, fun e => ?_, fun e p hp => zy sm (ra.rep i.toNat) hp k⟩
   subst e
   refine cj.dG sm ?_ k
   have e1 : (List.replicate (1 : Int).toNat xs).flatten = xs := by simp
   rw [e1]
   exact rr
 . cases he
theorem rN : fP X (binaryOp .FloorDiv) (rD X.K (rC .fdiv)) := by
 rintro pins s σ H x y v u Q I rx ry ⟨F, d, e, r, sm, px, py, he, k⟩
 replace he : mz d e = some r := he
 unfold mz at he
 split at he
 . rename_i i j
   obtain ⟨⟨h1, h2⟩, he⟩ := bh he
   subst he
   rw [px.int] at rx; rw [py.int] at ry
   obtain ⟨t, rfl⟩ := rx
   obtain ⟨t', rfl⟩ := ry
   have hl : j.natAbs.log2 < 9000 := by
    have : j.natAbs < 2 ^ 200 := by
     have : (2 : Nat) ^ 200 = 1606938044258990275541962092341162602522202993782792835301376 := by decide
     omega
    have h3 := (Nat.log2_lt (by omega)).mpr this
    omega
   exact floordiv_int (by omega) (by rw [Int.fdiv_eq_ediv_of_nonneg i (by omega)]; exact ⟨.int _, H, I.tok _, ⟨_, rfl⟩, cj.dG sm (cA _) k⟩) (.inl (PyProof.noPylong_of_log2 hl))
 . cases he
theorem dF : fP X (binaryOp .Mod) (rD X.K (rC .mod)) := by
 rintro pins s σ H x y v u Q I rx ry ⟨F, d, e, r, sm, px, py, he, k⟩
 replace he : rQ d e = some r := he
 unfold rQ at he
 split at he
 . obtain ⟨h1, he⟩ := bh he
   subst he
   rw [px.int] at rx; rw [py.int] at ry
   exact IV pins s σ H _ _ v u Q I rx ry ⟨_, _, rfl, rfl, h1, cj.dG sm (cA _) k⟩
 . cases he
theorem lE : fP X (binaryOp .Pow) (rD X.K (rC .pow)) := by
 rintro pins s σ H x y v u Q I rx ry ⟨F, d, e, r, sm, px, py, he, k⟩
 replace he : rG d e = some r := he
 unfold rG at he
 split at he
 . obtain ⟨⟨h1, h2, h3⟩, he⟩ := bh he
   subst he
   rw [px.int] at rx; rw [py.int] at ry
   exact Ih pins s σ H _ _ v u Q I rx ry ⟨_, _, rfl, rfl, ⟨h1, by omega, h3⟩, cj.dG sm (cA _) k⟩
 . cases he
theorem aA {o : Op} {op : Operator} (ho : fP X (binaryOp op) (rD X.K (rC o))) (ha : SX X c a pa) (hb : SX X c b pb) : SX X c (.BinOp a op b pos) (.bin o pa pb) :=
 t8 (fun h1 h2 => M5 ho h1 h2) ha hb (fun ρ => by rw [HH.ev]) rfl
theorem tE (ha : SX X c a pa) : SX X c (.UnaryOp .USub a pos) (.neg pa) := by
 refine Ie (f := CZ) (fun h1 => Od ?_ h1) ha (fun ρ => by rw [HH.ev]) rfl
 rintro pins s σ H x v Q I rx ⟨F, d, r, sm, px, he, k⟩
 unfold CZ at he
 obtain ⟨i, e1, e2⟩ := map_some he
 subst e2
 cases d <;> cases e1
 rw [px.int] at rx
 exact Hw pins s σ H _ v Q I rx ⟨_, rfl, cj.dG sm (cA _) k⟩
theorem vP {op : CmpOp} {f : Int -> Int -> Bool} (ho : fP X (compareOp op) (Bt fun i j => .bl (f i j))) : fP X (compareOp op) (rD X.K fun x y => (Bf f x y).map fun k => .val (.bl k)) := by
 rintro pins s σ H x y v u Q I rx ry ⟨F, d, e, r, sm, px, py, he, k⟩
 obtain ⟨t, e1, e2⟩ := map_some (show (Bf f d e).map _ = some r from he)
 subst e2
 unfold Bf at e1
 split at e1
 . cases e1
   rw [px.int] at rx; rw [py.int] at ry
   exact ho pins s σ H _ _ v u Q I rx ry ⟨_, _, rfl, rfl, cj.dG sm (nJ _) k⟩
 . cases e1
theorem Aj {op : CmpOp} {f : Int -> Int -> Bool} (ho : fP X (compareOp op) (Bt fun i j => .bl (f i j))) {o : Cm} (hc : cm o = Bf f) : fP X (compareOp op) (rD X.K (tL o)) := by
 have e : tL o = fun x y => (Bf f x y).map fun k => .val (.bl k) := by funext x y; unfold tL; rw [hc]
 rw [e]; exact vP ho
theorem J1 : fP X (compareOp .Lt) (rD X.K fun x y => (Bf (fun i j => decide (i < j)) x y).map fun k => .val (.bl k)) := vP Qq
theorem yt : fP X (compareOp .LtE) (rD X.K (tL .le)) := Aj Ob rfl
theorem gk : fP X (compareOp .Gt) (rD X.K (tL .gt)) := Aj Ov rfl
theorem yS {o : Cm} {op : CmpOp} (ho : fP X (compareOp op) (rD X.K (tL o))) (ha : SX X c a pa) (hb : SX X c b pb) (hm : behindInMarks op b = false) : SX X c (.Compare a [op] [b] pos) (.cmp o pa pb) :=
 t8 (fun h1 h2 => CW ho h1 h2 hm) ha hb (fun ρ => by rw [HH.ev]) rfl
end
end HH
end
section
namespace HH
open PySem L2 PySem.Spec PyProof.Rows
section
variable {X : Cx} {c : Call} {e a b d : Expr} {p pa pb pd : P} {pos : Pos} {rest : List Expr}
theorem rO {x : D} {k : Bool} (h : rY x = some k) : x = .bl k := by cases x <;> cases h; rfl
theorem dY {x : D} {k : Int} (h : m7 x = some k) : x = .int k := by cases x <;> cases h; rfl
theorem bO.bool {K : PySem.W.Frag} {F' H' H : Hp} {ρ' ρ : List Sl} {σ' σ : L2.St} {v : V} {r : R} {k : Bool} (h : bO K F' ρ' σ' H' ρ σ H v r) (e : r.d = .bl k) : v = .bl k := by
 cases r with
 | val d => cases (show d = .bl k from e); have h : Rep K F' v (.bl k) := h; rw [Rep] at h; exact h
 | own ds => cases e
noncomputable def ST (X : Cx) (c : Call) (e : Expr) (p : P) : Prop := PT X e (Fe X.K (jC (HH.ev c p)))
noncomputable def SW (X : Cx) (c : Call) (e : Expr) (p : P) : Prop := PW X e (Fe X.K (jC (HH.ev c p)))
theorem SW.st (h : SW X c e p) : ST X c e p := PW.pt h
theorem yl {t : TE} {Q : Bool -> Hp -> Prop} {σ : L2.St} {H : Hp} (hi : ∀ Q, Ep X.K (HH.ev c p) σ H Q -> t σ H Q) (h : Fe X.K (jC (HH.ev c p)) σ H Q) : t σ H fun x H1 => ∃ k, x = .bl k /\ Q k H1 := by
 obtain ⟨F, ρ, k, ρ', g, e, q⟩ := h
 obtain ⟨r, ρ1, e1, e2⟩ := ak e
 have zz := aF e2; clear e2; obtain ⟨e2, e3⟩ := zz
 subst e3
 exact hi _ ⟨F, ρ, r, ρ1, g, e1, fun v F' H' s rr => ⟨k, rr.bool (rO e2), q F' H' s⟩⟩
theorem gH (h : SX X c e p) (he : ∀ whole, isTrue e X.env whole = (do let v <- whole; standAt e.pos; holding [v] (truthy v)) := by intro _; rfl) : ST X c e p :=
 yL (Je h.ev he) fun σ H Q q => yl (fun _ z => z) q
theorem bK {o : Cm} {op : CmpOp} (ho : fP X (compareOp op) (rD X.K (tL o))) (ha : SX X c a pa) (hb : SX X c b pb) (hm : behindInMarks op b = false) : ST X c (.Compare a [op] [b] pos) (.cmp o pa pb) := by
 obtain ⟨ta, tb, h1, h2, h3⟩ := ha.jU hb
 refine yL (BX ho h1 h2 hm) fun σ H Q q => yl (t := Lq (rD X.K (tL o)) ta tb) (fun Q z => ?_) q
 obtain ⟨F, ρ, r, ρ', g, e, k⟩ := z
 rw [HH.ev] at e
 obtain ⟨xy, ρ1, e1, e2⟩ := ak e
 have zz := aF e2; clear e2; obtain ⟨e2, e3⟩ := zz
 subst e3
 refine h3 g e1 fun v u F' H' s pv pu => ⟨F', xy.1, xy.2, r, s.gs.sub, pv, pu, e2, fun w F2 H2 x rn => ?_⟩
 exact k w F2 H2 (s.trans (x.stp s.gs)) (.later s (rn.qM s.gs))
theorem iV (ha : ST X c a pa) : ST X c (.UnaryOp .Not a pos) (.not pa) := by
 refine yL (Il ha) ?_
 rintro σ H Q ⟨F, ρ, k, ρ', g, e, q⟩
 unfold jC at e
 rw [HH.ev] at e
 obtain ⟨r, ρ1, e1, e2⟩ := ak e
 obtain ⟨k', ρ2, e3, e4⟩ := ak e1
 cases e4
 have zz := aF e2; clear e2; obtain ⟨e2, e5⟩ := zz
 subst e5
 have e2 : (!k') = k := by cases e2; rfl
 exact ⟨F, ρ, k', _, g, e3, fun F' H' s => by show Q (!k') H'; rw [e2]; exact q F' H' s⟩
theorem Bw (ρ : List Sl) : jC (HH.ev c (.and pa pb)) ρ = (jC (HH.ev c pa) ρ).bind fun x ρ => if x then jC (HH.ev c pb) ρ else .ok false ρ := by
 unfold jC
 rw [HH.ev]
 unfold jC
 cases HH.ev c pa ρ with
 | exc _ _ => rfl
 | stuck => rfl
 | ok r ρ1 =>
   simp only [Res.bind]
   cases h : rY r.d with
   | none => rfl
   | some k =>
     cases k with
     | false => rfl
     | true =>
       simp only [lift, if_true]
       cases HH.ev c pb ρ1 with
       | exc _ _ => rfl
       | stuck => rfl
       | ok r2 ρ2 =>
         simp only [Res.bind]
         cases h2 : rY r2.d with
         | none => rfl
         | some k2 => rfl
theorem Js (ρ : List Sl) : jC (HH.ev c (.or pa pb)) ρ = (jC (HH.ev c pa) ρ).bind fun x ρ => if x then .ok true ρ else jC (HH.ev c pb) ρ := by
 unfold jC
 rw [HH.ev]
 unfold jC
 cases HH.ev c pa ρ with
 | exc _ _ => rfl
 | stuck => rfl
 | ok r ρ1 =>
   simp only [Res.bind]
   cases h : rY r.d with
   | none => rfl
   | some k =>
     cases k with
     | true => rfl
     | false =>
       simp only [lift, Bool.false_eq_true, if_false]
       cases HH.ev c pb ρ1 with
       | exc _ _ => rfl
       | stuck => rfl
       | ok r2 ρ2 =>
         simp only [Res.bind]
         cases h2 : rY r2.d with
         | none => rfl
         | some k2 => rfl
theorem lq (ha : ST X c a pa) : SW X c (.BoolOp .And [a] pos) pa := DW ha
theorem lJ (ha : ST X c a pa) : SW X c (.BoolOp .Or [a] pos) pa := Ip ha
theorem pH (ha : ST X c a pa) (hb : SW X c (.BoolOp .And (b :: rest) pos) pb) : SW X c (.BoolOp .And (a :: b :: rest) pos) (.and pa pb) := by
 refine Ex (GR ha hb) ?_
 rintro σ H Q ⟨F, ρ, k, ρ', g, e, q⟩
 rw [Bw] at e
 obtain ⟨x, ρ1, e1, e⟩ := ak e
 refine ⟨F, ρ, x, ρ1, g, e1, fun F1 H1 s1 => ?_⟩
 cases x with
 | true =>
   rw [if_pos rfl] at e ⊢
   exact ⟨F1, ρ1, k, ρ', s1.gs, e, fun F2 H2 s2 => q F2 H2 (s1.trans s2)⟩
 | false =>
   rw [if_neg Bool.false_ne_true] at e ⊢
   cases e
   exact q F1 H1 s1
theorem qX (ha : ST X c a pa) (hb : SW X c (.BoolOp .Or (b :: rest) pos) pb) : SW X c (.BoolOp .Or (a :: b :: rest) pos) (.or pa pb) := by
 refine Ex (Oe ha hb) ?_
 rintro σ H Q ⟨F, ρ, k, ρ', g, e, q⟩
 rw [Js] at e
 obtain ⟨x, ρ1, e1, e⟩ := ak e
 refine ⟨F, ρ, x, ρ1, g, e1, fun F1 H1 s1 => ?_⟩
 cases x with
 | true =>
   rw [if_pos rfl] at e ⊢
   cases e
   exact q F1 H1 s1
 | false =>
   rw [if_neg Bool.false_ne_true] at e ⊢
   exact ⟨F1, ρ1, k, ρ', s1.gs, e, fun F2 H2 s2 => q F2 H2 (s1.trans s2)⟩
theorem gY : ∀ {ps : List P} {ρ ρ' : List Sl} {ds : List D}, evs c ps ρ = .ok ds ρ' -> ds.length = ps.length
 | [], _, _, _, h => by rw [evs] at h; cases h; rfl
 | p :: ps, _, _, _, h => by
   rw [evs] at h
   obtain ⟨r, ρ1, _, h⟩ := ak h
   obtain ⟨xs, ρ2, h2, h⟩ := ak h
   cases h
   simp [gY h2]
theorem aN : SA X c [] [] := ⟨qR gb fun σ H Q ⟨F, ρ, ds, ρ', g, e, k⟩ => by rw [evs] at e; cases e; exact k [] F H (.refl g) .nil, rfl⟩
theorem uT {es : List Expr} {ps : List P} (ha : SX X c a pa) (hr : SA X c es ps) (hs : starEach (a :: es) X.env = (false, eval a X.env) :: starEach es X.env := by rfl) : SA X c (a :: es) (pa :: ps) := by
 refine ⟨qR (bT ha.ev hr.1 hs) ?_, by simp [hr.2]⟩
 rintro σ H Q ⟨F, ρ, ds, ρ', g, e, k⟩
 rw [evs] at e
 obtain ⟨r, ρ1, e1, e⟩ := ak e
 obtain ⟨xs, ρ2, e2, e⟩ := ak e
 cases e
 refine ⟨F, ρ, r, ρ1, g, e1, fun v F' H' s rr => ?_⟩
 obtain ⟨F1, s1, _, rp⟩ := s.gR rr
 refine ⟨F1, ρ1, xs, _, s1.gs, e2, fun vs F2 H2 s2 rs => ?_⟩
 exact k _ F2 H2 (s1.trans s2) (.cons (rp.mono s2.cW) rs)
theorem Ext.CJ {K : PySem.W.Frag} {F H : Hp} {ρ ρ' : List Sl} {σ : L2.St} {H0 F0 : Hp} {Q : VK} {xs : List V} {ds : List D} (s : bB K F0 ρ σ H0 F ρ' σ H) (r : az K F xs ds)
 (k : ∀ v F' H', bB K F0 ρ σ H0 F' ρ' σ H' -> bO K F' ρ' σ H' ρ σ H0 v (.val (.tup ds)) -> Q v H') (p : Addr) (hp : H p = none) : Q (.ref p) (upd H p (.tup xs)) :=
 zy s.gs.sub r hp fun v F' H' x rn => k v F' H' (s.trans (x.stp s.gs)) rn
theorem cM {es : List Expr} {ps : List P} {x1} (h : SA X c es ps) (hz : ps.length <= sizeLine := by decide) : SX X c (.Tuple es x1 pos) (.tup ps) := by
 refine ⟨eZ (pN h.1) ?_, fun i h => by cases h⟩
 rintro σ H Q ⟨F, ρ, r, ρ', g, e, k⟩
 rw [HH.ev] at e
 obtain ⟨ds, ρ1, e1, e⟩ := ak e
 cases e
 exact ⟨F, ρ, ds, _, g, e1, fun vs F' H' s rs => ⟨by rw [rs.length, gY e1]; exact hz, fun p hp => Ext.CJ s rs k p hp⟩⟩
theorem cB {es : List Expr} {ps : List P} (h : SA X c es ps) (hz : ps.length <= sizeLine := by decide) : SX X c (.List es pos) (.lst ps) := by
 refine ⟨eZ (zV h.1) ?_, fun i h => by cases h⟩
 rintro σ H Q ⟨F, ρ, r, ρ', g, e, k⟩
 rw [HH.ev] at e
 obtain ⟨ds, ρ1, e1, e⟩ := ak e
 cases e
 exact ⟨F, ρ, ds, _, g, e1, fun vs F' H' s rs => ⟨by rw [rs.length, gY e1]; exact hz, fun p hp => tW s.gs.sub rs hp fun v F2 H2 x rn => k v F2 H2 (s.trans (x.stp s.gs)) (.later s (rn.qM s.gs))⟩⟩
theorem JD {ds : List D} {i : Int} {d : D} (h : at' ds i = some d) : ∃ j, L2.iW ds.length i = some j /\ ds[j]? = some d := dw h
theorem Uk : R5 X (rD X.K sZ) := by
 rintro value slice pins s σ H x y v u Q I rx ry ⟨F, d, e, r, sm, px, py, he, k⟩ hs
 unfold sZ at he
 obtain ⟨ds, e1, he⟩ := dw he
 obtain ⟨i, e2, he⟩ := dw he
 obtain ⟨z, e3, he⟩ := map_some he
 subst he
 cases dY e2
 rw [py.int] at ry
 obtain ⟨p, xs, rfl, hq, rs⟩ := px.items sm e1
 obtain ⟨j, h1, h2⟩ := JD e3
 obtain ⟨w, h3, h4⟩ := rs.get h2
 have hat : Ls xs i = some w := by unfold Ls; rw [rs.length, h1]; exact h3
 rcases hq with hq | hq
 . exact CN value slice pins s σ H _ _ v u Q I rx ry ⟨p, xs, i, w, rfl, rfl, hq, hat, cj.dG sm h4 k⟩ hs
 . exact Jq value slice pins s σ H _ _ v u Q I rx ry ⟨p, xs, i, w, rfl, rfl, hq, hat, cj.dG sm h4 k⟩ hs
theorem aH (ha : SX X c a pa) (hb : SX X c b pb) (hs : vm b := by intro _ _; rfl) : SX X c (.Subscript a b pos) (.idx pa pb) :=
 t8 (f := sZ) (fun h1 h2 => MK Uk h1 h2 hs) ha hb (fun ρ => by rw [HH.ev]) rfl
noncomputable def Gg (K : PySem.W.Frag) (f : D -> Option R) : List V -> Hp -> VK -> Prop := fun xs H Q => ∃ x, xs = [x] /\ XD K f x H Q
theorem lK {E : Expr} {f : D -> Option R} {q : P} (hp : ∀ {t}, PA X [a] t -> PE X E (Rh (Gg X.K f) t)) (ha : SX X c a pa)
 (hq : ∀ ρ, HH.ev c q ρ = (HH.eV (isVar pa) (HH.ev c pa) ρ).bind fun x ρ => lift (f x) ρ) (hv : isVar q = none) (hs : starEach [a] X.env = (false, eval a X.env) :: starEach [] X.env := by rfl) : SX X c E q := by
 obtain ⟨ta, h1, h3⟩ := ha.eV
 refine ⟨eZ (hp (bT h1 gb hs)) ?_, fun i h => by rw [hv] at h; cases h⟩
 rintro σ H Q ⟨F, ρ, r, ρ', g, e, k⟩
 rw [hq] at e
 obtain ⟨x, ρ1, e1, e2⟩ := ak e
 have zz := aF e2; clear e2; obtain ⟨e2, e3⟩ := zz
 subst e3
 refine h3 g e1 fun v F' H' s pv => ⟨v, rfl, F', x, r, s.gs.sub, pv, e2, fun w F2 H2 x rn => ?_⟩
 exact k w F2 H2 (s.trans (x.stp s.gs)) (.later s (rn.qM s.gs))
theorem Pr : cV X (.builtin "len") (Gg X.K fun x => blt .len [x]) := by
 rintro pins s σ H xs us Q I r ⟨x, hx, F, d, r', sm, px, he, k⟩
 obtain ⟨ds, e1, he⟩ := map_some (show (items d).map _ = some r' from he)
 subst he
 obtain ⟨p, ys, rfl, hq, rs⟩ := px.items sm e1
 exact o4 pins s σ H xs us Q I r ⟨p, ys, hx, hq, by rw [rs.length]; exact cj.dG sm (cA _) k⟩
theorem Ji : cV X (.type "list") (Gg X.K fun x => blt .list [x]) := by
 rintro pins s σ H xs us Q I r ⟨x, hx, F, d, r', sm, px, he, k⟩
 obtain ⟨ds, e1, he⟩ := map_some (show (items d).map _ = some r' from he)
 subst he
 obtain ⟨p, ys, rfl, hq, rs⟩ := px.items sm e1
 exact pJ pins s σ H xs us Q I r ⟨p, ys, hx, hq, fun l hl => tW sm rs hl k⟩
theorem CQ : cV X (.type "tuple") (Gg X.K fun x => blt .tuple [x]) := by
 rintro pins s σ H xs us Q I r ⟨x, hx, F, d, r', sm, px, he, k⟩
 obtain ⟨ds, e1, he⟩ := map_some (show (items d).map _ = some r' from he)
 subst he
 cases d with
 | tup es =>
   cases e1
   obtain ⟨a, ys, rfl, hq, rs, rt⟩ := px.tup sm
   exact iH pins s σ H xs us Q I r ⟨a, ys, hx, .inr ⟨hq, cj.dG sm rt k⟩⟩
 | lst es =>
   cases e1
   obtain ⟨a, ys, rfl, hq, rs⟩ := px.lst sm
   exact iH pins s σ H xs us Q I r ⟨a, ys, hx, .inl ⟨hq, fun l hl => zy sm rs hl k⟩⟩
 | _ => cases e1
theorem tK {x : Str} {p' : Pos} (hx : x = "len") (hg : Gl X x) (hm : X.mg x = none) (ha : SX X c a pa) (hs : starEach [a] X.env = (false, eval a X.env) :: starEach [] X.env := by rfl) : SX X c (.Call (.Name x p') [a] [] pos) (.blt .len [pa]) := by
 subst hx; exact lK (fun h => dh Pr hg hm PySem.boot_len h (he := hs)) ha (fun ρ => by rw [HH.ev]) rfl hs
theorem je {x : Str} {p' : Pos} (hx : x = "list") (hg : Gl X x) (hm : X.mg x = none) (ha : SX X c a pa) (hs : starEach [a] X.env = (false, eval a X.env) :: starEach [] X.env := by rfl) : SX X c (.Call (.Name x p') [a] [] pos) (.blt .list [pa]) := by
 subst hx; exact lK (fun h => oG Ji hg hm (by decide +kernel) h (he := hs)) ha (fun ρ => by rw [HH.ev]) rfl hs
theorem yJ {x : Str} {p' : Pos} (hx : x = "tuple") (hg : Gl X x) (hm : X.mg x = none) (ha : SX X c a pa) (hs : starEach [a] X.env = (false, eval a X.env) :: starEach [] X.env := by rfl) : SX X c (.Call (.Name x p') [a] [] pos) (.blt .tuple [pa]) := by
 subst hx; exact lK (fun h => oG CQ hg hm (by decide +kernel) h (he := hs)) ha (fun ρ => by rw [HH.ev]) rfl hs
end
end HH
end
section
namespace HH
open PySem L2 PySem.Spec PyProof.Rows
noncomputable def lr (K : PySem.W.Frag) (np : Nat) (f : List Sl -> Res R) : Sp := fun vs H Q _ => vs.length = np /\ ∃ F args r args', GS K F args (vs.map some) H /\ f args = .ok r args' /\
 ∀ v F' σ' H', bB K F args (vs.map some) H F' args' σ' H' -> bO K F' args' σ' H' args (vs.map some) H v r -> Q v H'
section
variable {K : PySem.W.Frag}
noncomputable def tD (K : PySem.W.Frag) (F : Hp) (ρ : List Sl) (σ : L2.St) (H : Hp) (ρ₀ : List Sl) (H₀ : Hp) (v : V) : Arg -> Prop
 | .dat d => Rep K F v d
 | .tmp ds => ∃ x xs, v = .ref x /\ H x = some (.lst xs) /\ F x = none /\ az K F xs ds /\ ¬ Own ρ σ x /\ (Own ρ₀ σ x \/ H₀ x = none)
 | .dm i => σ[i]? = some (some v)
structure sE (K : PySem.W.Frag) (F : Hp) (ρ : List Sl) (σ : L2.St) (H : Hp) (ρ₀ : List Sl) (H₀ : Hp) (as : List Arg) (vs : List V) : Prop where
 len : as.length = vs.length
 one : ∀ (j : Nat) (a : Arg) (v : V), as[j]? = some a -> vs[j]? = some v -> tD K F ρ σ H ρ₀ H₀ v a
 dis : ∀ (j k : Nat) (ds es : List D) (x : Addr), as[j]? = some (.tmp ds) -> as[k]? = some (.tmp es) -> vs[j]? = some (.ref x) -> vs[k]? = some (.ref x) -> j = k
theorem tD.later {F F' H H' H₀ : Hp} {ρ ρ' ρ₀ : List Sl} {σ : L2.St} {v : V} {a : Arg} (s : bB K F ρ σ H F' ρ' σ H') (h : tD K F ρ σ H ρ₀ H₀ v a) : tD K F' ρ' σ H' ρ₀ H₀ v a := by
 cases a with
 | dat d => exact Rep.mono s.cW h
 | dm i => exact h
 | tmp ds =>
   obtain ⟨x, xs, h1, h2, h3, h4, h5, h6⟩ := h
   refine ⟨x, xs, h1, s.keep x _ h2 h5, ?_, h4.mono s.cW, fun o => ?_, h6⟩
   . cases q : F' x with
     | none => rfl
     | some o =>
       rcases s.xQ x h3 (by rw [q]; simp) with z | z
       . exact absurd z h5
       . exact (zQ h2 z).elim
   . rcases s.uJ x o with z | z
     . exact h5 z
     . rw [h2] at z; cases z
theorem sE.nil {F H H₀ : Hp} {ρ ρ₀ : List Sl} {σ : L2.St} : sE K F ρ σ H ρ₀ H₀ [] [] := ⟨rfl, fun j a v h => by simp at h, fun j k ds es x h => by simp at h⟩
theorem sE.cons {F H H₀ : Hp} {ρ ρ₀ : List Sl} {σ : L2.St} {a : Arg} {v : V} {as : List Arg} {vs : List V} (h : tD K F ρ σ H ρ₀ H₀ v a) (t : sE K F ρ σ H ρ₀ H₀ as vs)
 (hd : ∀ ds x, a = .tmp ds -> v = .ref x -> ∀ (k : Nat) es, as[k]? = some (.tmp es) -> vs[k]? ≠ some (.ref x)) : sE K F ρ σ H ρ₀ H₀ (a :: as) (v :: vs) := by
 refine ⟨by simp [t.len], fun j b u h1 h2 => ?_, fun j k ds es x h1 h2 h3 h4 => ?_⟩
 . cases j with
   | zero => simp at h1 h2; subst h1; subst h2; exact h
   | succ j => exact t.one j b u (by simpa using h1) (by simpa using h2)
 . cases j with
   | zero =>
     cases k with
     | zero => rfl
     | succ k => simp at h1 h3; exact absurd (by simpa using h4) (hd ds x h1 h3 k es (by simpa using h2))
   | succ j =>
     cases k with
     | zero => simp at h2 h4; exact absurd (by simpa using h3) (hd es x h2 h4 j ds (by simpa using h1))
     | succ k => rw [t.dis j k ds es x (by simpa using h1) (by simpa using h2) (by simpa using h3) (by simpa using h4)]
noncomputable def zY (ρ : List Sl) : Arg -> Sl -> Prop
 | .dat d, s => s = .val false d
 | .tmp ds, s => s = .own false ds
 | .dm i, s => (∃ b d, ρ[i]? = some (.val b d) /\ s = .val false d) \/ (∃ b ds, ρ[i]? = some (.own b ds) /\ s = .own true ds) \/ ∃ ds, ρ[i]? = some (.lent ds) /\ s = .lent ds
theorem mG {ρ : List Sl} : ∀ {as : List Arg} {used : List Nat} {args : List Sl}, bw ρ as used = some args -> args.length = as.length /\
 (∀ (j : Nat) (a : Arg) (s : Sl), as[j]? = some a -> args[j]? = some s -> zY ρ a s) /\
 (∀ (j : Nat) (i : Nat) (s : Sl) ds, as[j]? = some (.dm i) -> args[j]? = some s -> lst? s = some ds -> i ∉ used) /\
 (∀ (j k : Nat) (i : Nat) (s t : Sl) ds es, as[j]? = some (.dm i) -> as[k]? = some (.dm i) -> args[j]? = some s -> args[k]? = some t -> lst? s = some ds -> lst? t = some es -> j = k)
 | [], used, args, h => by
   rw [bw] at h; cases h
   exact ⟨rfl, fun j a s h => by simp at h, fun j i s ds h => by simp at h, fun j k i s t ds es h => by simp at h⟩
 | a :: as, used, args, h => by
   -- the Wv slot, the Ww
   have key : ∃ s0 r sO, args = s0 :: r /\ bw ρ as sO = some r /\ zY ρ a s0 /\ ((∃ i ds, a = .dm i /\ lst? s0 = some ds /\ sO = i :: used /\ i ∉ used) \/ ((∀ i ds, a = .dm i -> lst? s0 ≠ some ds) /\ sO = used)) := by
    cases a with
    | dat d =>
      rw [bw] at h
      obtain ⟨r, e1, e2⟩ := map_some h
      exact ⟨_, r, used, e2.symm, e1, rfl, .inr ⟨fun i ds z => (by cases z), rfl⟩⟩
    | tmp d =>
      rw [bw] at h
      obtain ⟨r, e1, e2⟩ := map_some h
      exact ⟨_, r, used, e2.symm, e1, rfl, .inr ⟨fun i ds z => (by cases z), rfl⟩⟩
    | dm i =>
      rw [bw] at h
      split at h
      . rename_i b d q
        obtain ⟨r, e1, e2⟩ := map_some h
        exact ⟨_, r, used, e2.symm, e1, .inl ⟨b, d, q, rfl⟩, .inr ⟨fun _ _ _ z => (by cases z), rfl⟩⟩
      . rename_i b ds q
        split at h
        . cases h
        . rename_i hu
          obtain ⟨r, e1, e2⟩ := map_some h
          exact ⟨_, r, _, e2.symm, e1, .inr (.inl ⟨b, ds, q, rfl⟩), .inl ⟨i, _, rfl, rfl, rfl, by simpa using hu⟩⟩
      . rename_i ds q
        split at h
        . cases h
        . rename_i hu
          obtain ⟨r, e1, e2⟩ := map_some h
          exact ⟨_, r, _, e2.symm, e1, .inr (.inr ⟨ds, q, rfl⟩), .inl ⟨i, _, rfl, rfl, rfl, by simpa using hu⟩⟩
      . cases h
   obtain ⟨s0, r, sO, rfl, hr, hs0, hu⟩ := key
   obtain ⟨l1, l2, l3, l4⟩ := mG hr
   have sub : ∀ i, i ∉ sO -> i ∉ used := fun i hi hm => by
    rcases hu with ⟨_, _, _, _, rfl, _⟩ | ⟨_, rfl⟩
    . exact hi (List.mem_cons_of_mem _ hm)
    . exact hi hm
   refine ⟨by simp [l1], fun j b s h1 h2 => ?_, fun j i s ds h1 h2 h3 => ?_, fun j k i s t ds es h1 h2 h3 h4 h5 h6 => ?_⟩
   . cases j with
     | zero => simp at h1 h2; subst h1; subst h2; exact hs0
     | succ j => exact l2 j b s (by simpa using h1) (by simpa using h2)
   . cases j with
     | zero =>
       simp at h1 h2; subst h1; subst h2
       rcases hu with ⟨i', _, e, _, _, hn⟩ | ⟨hn, _⟩
       . cases e; exact hn
       . exact absurd h3 (hn i ds rfl)
     | succ j => exact sub i (l3 j i s ds (by simpa using h1) (by simpa using h2) h3)
   . have z0 : ∀ (k : Nat) (t : Sl) es, a = .dm i -> lst? s0 = some ds -> (as[k]? = some (.dm i)) -> r[k]? = some t -> lst? t = some es -> False := fun k t es ea e0 hk ht he => by
      rcases hu with ⟨i', _, e, _, rfl, hn⟩ | ⟨hn, _⟩
      . rw [ea] at e; cases e
        exact l3 k i t es hk ht he List.mem_cons_self
      . exact hn i ds ea e0
     have z1 : ∀ (k : Nat) (t : Sl) es, a = .dm i -> lst? s0 = some es -> (as[k]? = some (.dm i)) -> r[k]? = some t -> lst? t = some ds -> False := fun k t es ea e0 hk ht he => by
      rcases hu with ⟨i', _, e, _, rfl, hn⟩ | ⟨hn, _⟩
      . rw [ea] at e; cases e
        exact l3 k i t ds hk ht he List.mem_cons_self
      . exact hn i es ea e0
     cases j with
     | zero =>
       cases k with
       | zero => rfl
       | succ k => simp at h1 h3; subst h3; exact (z0 k t es h1 h5 (by simpa using h2) (by simpa using h4) h6).elim
     | succ j =>
       cases k with
       | zero => simp at h2 h4; subst h4; exact (z1 j s es h2 h6 (by simpa using h1) (by simpa using h3) h5).elim
       | succ k => rw [l4 j k i s t ds es (by simpa using h1) (by simpa using h2) (by simpa using h3) (by simpa using h4) h5 h6]
theorem sE.get {F H H₀ : Hp} {ρ ρ₀ : List Sl} {σ : L2.St} {as : List Arg} {vs : List V} (A : sE K F ρ σ H ρ₀ H₀ as vs) {args : List Sl} {j : Nat} {s : Sl} (hl : args.length = as.length) (h : args[j]? = some s) :
 ∃ a v, as[j]? = some a /\ vs[j]? = some v /\ tD K F ρ σ H ρ₀ H₀ v a := by
 have hj : j < args.length := (List.getElem?_eq_some_iff.mp h).1
 have h1 : j < as.length := by omega
 have h2 : j < vs.length := by rw [<- A.len]; exact h1
 exact ⟨as[j], vs[j], by simp [h1], by simp [h2], A.one j _ _ (by simp [h1]) (by simp [h2])⟩
theorem args_gs {F H H₀ : Hp} {ρ ρ₀ : List Sl} {σ : L2.St} {as : List Arg} {vs : List V} {args : List Sl} (g : GS K F ρ σ H) (A : sE K F ρ σ H ρ₀ H₀ as vs) (h : bw ρ as [] = some args) : GS K F args (vs.map some) H := by
 obtain ⟨l1, l2, l3, l4⟩ := mG h
 have up : ∀ {j : Nat} {v : V}, vs[j]? = some v -> (vs.map some)[j]? = some (some v) := fun e => by rw [List.getElem?_map, e]; rfl
 have dn : ∀ {j : Nat} {v : V}, (vs.map some)[j]? = some (some v) -> vs[j]? = some v := fun {j v} e => by
  rw [List.getElem?_map] at e
  cases q : vs[j]? with
  | none => rw [q] at e; cases e
  | some w => rw [q] at e; cases e; rfl
 refine ⟨g.sub, by rw [l1, A.len, List.length_map], fun j b d e => ?_, fun j s ds e e' => ?_, fun j k x ⟨⟨s, ds, e1, e2⟩, e3⟩ ⟨⟨t, es, f1, f2⟩, f3⟩ => ?_⟩
 . obtain ⟨a, v, h1, h2, h3⟩ := A.get l1 e
   have h4 := l2 j a _ h1 e
   refine ⟨v, up h2, ?_⟩
   cases a with
   | dat d' => cases h4; exact h3
   | tmp ds => cases h4
   | dm i =>
     rcases h4 with ⟨b', d', q1, q2⟩ | ⟨_, _, _, q2⟩ | ⟨_, _, q2⟩
     . cases q2
       obtain ⟨w, q3, q4⟩ := g.val i b' d q1
       have h3 : σ[i]? = some (some v) := h3
       rw [h3] at q3; cases q3
       exact q4
     . cases q2
     . cases q2
 . obtain ⟨a, v, h1, h2, h3⟩ := A.get l1 e
   have h4 := l2 j a _ h1 e
   cases a with
   | dat d' => cases h4; cases e'
   | tmp es =>
     cases h4; cases e'
     obtain ⟨x, xs, rfl, q2, q3, q4, _⟩ := h3
     exact ⟨x, _, up h2, q2, q3, xs, rfl, q4⟩
   | dm i =>
     have h3 : σ[i]? = some (some v) := h3
     rcases h4 with ⟨b', d', q1, q2⟩ | ⟨b', es, q1, q2⟩ | ⟨es, q1, q2⟩
     . cases q2; cases e'
     . cases q2; cases e'
       obtain ⟨x, xs, q3, q4⟩ := g.own i _ _ q1 rfl
       rw [h3] at q3; cases q3
       exact ⟨x, xs, up h2, q4⟩
     . cases q2; cases e'
       obtain ⟨x, xs, q3, q4⟩ := g.own i _ _ q1 rfl
       rw [h3] at q3; cases q3
       exact ⟨x, xs, up h2, q4⟩
 . obtain ⟨a, v, h1, h2, h3⟩ := A.get l1 e1
   obtain ⟨a', v', h1', h2', h3'⟩ := A.get l1 f1
   have e3 := dn e3
   have f3 := dn f3
   rw [h2] at e3; cases e3
   rw [h2'] at f3; cases f3
   have s1 := l2 j a _ h1 e1
   have s2 := l2 k a' _ h1' f1
   have nm : ∀ {i : Nat} {s : Sl} {ds : Oc}, lst? s = some ds -> zY ρ (.dm i) s -> ∃ s' ds', ρ[i]? = some s' /\ lst? s' = some ds' := fun {i s ds} l z => by
    rcases z with ⟨_, _, _, z⟩ | ⟨b, es, q, _⟩ | ⟨es, q, _⟩
    . subst z; cases l
    . exact ⟨_, _, q, rfl⟩
    . exact ⟨_, _, q, rfl⟩
   cases a with
   | dat d => cases s1; cases e2
   | tmp Ka =>
     cases a' with
     | dat d => cases s2; cases f2
     | tmp Em => exact A.dis j k Ka Em x h1 h1' h2 h2'
     | dm i =>
       obtain ⟨y, _, q1, _, _, _, q2, _⟩ := h3
       cases q1
       obtain ⟨s', ds', q3, q4⟩ := nm f2 s2
       exact absurd ⟨i, ⟨s', ds', q3, q4⟩, h3'⟩ q2
   | dm i =>
     obtain ⟨s', ds', q3, q4⟩ := nm e2 s1
     cases a' with
     | dat d => cases s2; cases f2
     | tmp Em =>
       obtain ⟨y, _, q1, _, _, _, q2, _⟩ := h3'
       cases q1
       exact absurd ⟨i, ⟨s', ds', q3, q4⟩, h3⟩ q2
     | dm i' =>
       obtain ⟨s'', Wx, q5, q6⟩ := nm f2 s2
       have := g.dis i i' x ⟨⟨s', ds', q3, q4⟩, h3⟩ ⟨⟨s'', Wx, q5, q6⟩, h3'⟩
       subst this
       exact l4 j k i s t ds es h1 h1' e1 f1 e2 f2
theorem jQ {as : List Arg} {ss : List Sl} : ∀ (ρ : List Sl) (n i : Nat), (bR as ss n ρ)[i]? = (ρ[i]?).map fun s => dC s (aO (n + i) as ss)
 | [], n, i => by simp [bR]
 | s :: ρ, n, 0 => by simp [bR]
 | s :: ρ, n, i + 1 => by
   rw [bR]
   simp only [List.getElem?_cons_succ]
   rw [jQ ρ (n + 1) i]
   have : n + 1 + i = n + (i + 1) := by omega
   rw [this]
theorem jX {as : List Arg} {ss : List Sl} : ∀ (ρ : List Sl) (n : Nat), (bR as ss n ρ).length = ρ.length
 | [], n => rfl
 | s :: ρ, n => by rw [bR]; simp [jX ρ]
theorem fY {i : Nat} : ∀ {as : List Arg} {ss : List Sl} {t : Sl}, aO i as ss = some t -> ∃ j : Nat, as[j]? = some (.dm i) /\ ss[j]? = some t
 | [], _, _, h => by simp [aO] at h
 | a :: as, [], _, h => by cases a <;> simp [aO] at h
 | a :: as, s :: ss, t, h => by
   have tl : aO i as ss = some t -> ∃ j : Nat, (a :: as)[j]? = some (.dm i) /\ (s :: ss)[j]? = some t := fun h => by
    obtain ⟨j, h1, h2⟩ := fY h
    exact ⟨j + 1, by simpa using h1, by simpa using h2⟩
   cases a with
   | dat d => exact tl (by simpa [aO] using h)
   | tmp d => exact tl (by simpa [aO] using h)
   | dm k =>
     rw [aO] at h
     split at h
     . rename_i hk; cases h; subst hk; exact ⟨0, rfl, rfl⟩
     . exact tl h
theorem iQ {i : Nat} : ∀ {as : List Arg} {ss : List Sl}, as.length = ss.length -> aO i as ss = none -> ∀ j : Nat, as[j]? ≠ some (.dm i)
 | [], _, _, _ => fun j h => by simp at h
 | a :: as, [], hl, _ => by simp at hl
 | a :: as, s :: ss, hl, h => fun j hj => by
   have hl' : as.length = ss.length := by simpa using hl
   have tl : aO i as ss = none /\ a ≠ .dm i := by
    cases a with
    | dat d => exact ⟨by simpa [aO] using h, by simp⟩
    | tmp d => exact ⟨by simpa [aO] using h, by simp⟩
    | dm k =>
      rw [aO] at h
      split at h
      . cases h
      . rename_i hk; exact ⟨h, fun e => hk (by cases e; rfl)⟩
   cases j with
   | zero => simp at hj; exact tl.2 hj
   | succ j => exact iQ hl' tl.1 j (by simpa using hj)
theorem Ar {F₀ H₀ F H F' H' : Hp} {ρ₀ ρ args args' : List Sl} {σ σ' : L2.St} {as : List Arg} {vs : List V} (s0 : bB K F₀ ρ₀ σ H₀ F ρ σ H) (A : sE K F ρ σ H ρ₀ H₀ as vs) (hb : bw ρ as [] = some args)
 (s : bB K F args (vs.map some) H F' args' σ' H') :
 bB K F₀ ρ₀ σ H₀ F' (bR as args' 0 ρ) σ H' /\ ∀ v r, bO K F' args' σ' H' args (vs.map some) H v r -> bO K F' (bR as args' 0 ρ) σ H' ρ₀ σ H₀ v r := by
 have g := s0.gs
 obtain ⟨l1, l2, l3, l4⟩ := mG hb
 have up : ∀ {j : Nat} {v : V}, vs[j]? = some v -> (vs.map some)[j]? = some (some v) := fun e => by rw [List.getElem?_map, e]; rfl
 have dn : ∀ {j : Nat} {v : V}, (vs.map some)[j]? = some (some v) -> vs[j]? = some v := fun {j v} e => by
  rw [List.getElem?_map] at e
  cases q : vs[j]? with
  | none => rw [q] at e; cases e
  | some w => rw [q] at e; cases e; rfl
 have la : as.length = args'.length := by rw [s.len, l1]
 -- whose are the lists that the callee holds
 have own : ∀ b, Own args (vs.map some) b -> (∃ (j : Nat) (ds : List D), as[j]? = some (Arg.tmp ds) /\ vs[j]? = some (V.ref b) /\ ¬ Own ρ σ b /\ (Own ρ₀ σ b \/ H₀ b = none)) \/ Own ρ σ b := fun b ⟨j, ⟨sl, ds, e1, e2⟩, e3⟩ => by
  obtain ⟨a, v, h1, h2, h3⟩ := A.get l1 e1
  have s1 := l2 j a _ h1 e1
  have e3 := dn e3
  rw [h2] at e3; cases e3
  cases a with
  | dat d => cases s1; cases e2
  | tmp es =>
    obtain ⟨x, _, q1, _, _, _, q2, q3⟩ := h3
    cases q1
    exact .inl ⟨j, es, h1, h2, q2, q3⟩
  | dm i =>
    right
    rcases s1 with ⟨_, _, _, z⟩ | ⟨b', es, q, _⟩ | ⟨es, q, _⟩
    . subst z; cases e2
    . exact ⟨i, ⟨_, _, q, rfl⟩, h3⟩
    . exact ⟨i, ⟨_, _, q, rfl⟩, h3⟩
 have back : ∀ b, Own ρ σ b \/ H b = none -> Own ρ₀ σ b \/ H₀ b = none := fun b h => by
  rcases h with h | h
  . exact s0.uJ b h
  . by_cases ho : Own ρ₀ σ b
    . exact .inl ho
    . right
      cases e : H₀ b with
      | none => rfl
      | some o => rw [s0.keep b o e ho] at h; cases h
 have own' : ∀ b, Own args (vs.map some) b -> Own ρ₀ σ b \/ H₀ b = none := fun b h => by
  rcases own b h with ⟨_, _, _, _, _, z⟩ | z
  . exact z
  . exact back b (.inl z)
 -- a name's slot behind the call
 have slot : ∀ {i : Nat} {t : Sl}, (bR as args' 0 ρ)[i]? = some t -> ∃ s1, ρ[i]? = some s1 /\ t = dC s1 (aO i as args') := fun {i t} h => by
  rw [jQ] at h
  obtain ⟨s1, e1, e2⟩ := map_some h
  exact ⟨s1, e1, by rw [<- e2, Nat.zero_add]⟩
 have QK : ∀ {i : Nat} {s1 : Sl}, ρ[i]? = some s1 -> (bR as args' 0 ρ)[i]? = some (dC s1 (aO i as args')) := fun {i s1} h => by
  rw [jQ, h, Nat.zero_add]; rfl
 -- what the callee left of a list that was lent to it
 have lent : ∀ {i j : Nat} {s1 t : Sl} {ds : List D}, ρ[i]? = some s1 -> lst? s1 = some (.l ds) -> as[j]? = some (.dm i) -> args'[j]? = some t ->
  ∃ v s2, σ[i]? = some (some v) /\ σ'[j]? = some (some v) /\ args[j]? = some s2 /\ jR s2 t /\ ((∃ b, s1 = .own b ds /\ s2 = .own true ds) \/ (s1 = .lent ds /\ s2 = .lent ds)) := fun {i j s1 t ds} h1 h2 h3 h4 => by
  have hj : j < args.length := by rw [l1]; exact (List.getElem?_eq_some_iff.mp h3).1
  have e1 : args[j]? = some args[j] := by simp [hj]
  obtain ⟨a, v, q1, q2, q3⟩ := A.get l1 e1
  rw [h3] at q1; cases q1
  have q4 := l2 j _ _ h3 e1
  have kind : (∃ b, s1 = .own b ds /\ args[j] = .own true ds) \/ (s1 = .lent ds /\ args[j] = .lent ds) := by
   rcases q4 with ⟨_, _, z, _⟩ | ⟨b, es, z, z'⟩ | ⟨es, z, z'⟩
   . rw [h1] at z; cases z; cases h2
   . rw [h1] at z; cases z; cases h2; exact .inl ⟨b, rfl, z'⟩
   . rw [h1] at z; cases z; cases h2; exact .inr ⟨rfl, z'⟩
  have lk : Bg args[j] = true := by rcases kind with ⟨_, _, z⟩ | ⟨_, z⟩ <;> rw [z] <;> rfl
  obtain ⟨z1, s', z2, z3⟩ := s.lk j _ e1 lk
  rw [h4] at z2; cases z2
  exact ⟨v, _, q3, by rw [z1]; exact up q2, e1, z3, kind⟩
 have En : ∀ {i : Nat} {x : Addr}, aZ (bR as args' 0 ρ) σ i x -> aZ ρ σ i x := fun {i x} ⟨⟨t, ds, e1, e2⟩, e3⟩ => by
  obtain ⟨s1, q1, q2⟩ := slot e1
  refine ⟨?_, e3⟩
  cases s1 with
  | aX => subst q2; cases e2
  | val b d => subst q2; cases e2
  | own b es => exact ⟨_, _, q1, rfl⟩
  | lent es => exact ⟨_, _, q1, rfl⟩
  | eF m => exact ⟨_, _, q1, rfl⟩
 refine ⟨?_, fun v r h => ?_⟩
 rotate_left
 . cases r with
   | val d => exact h
   | own ds =>
     obtain ⟨x, xs, h1, h2, h3, h4, h5, h6⟩ := h
     refine ⟨x, xs, h1, h2, h3, h4, fun ⟨i, h⟩ => ?_, ?_⟩
     . have hO := En h
       obtain ⟨⟨s1, Ka, q1, q2⟩, q3⟩ := hO
       obtain ⟨x', xs', w1, w2, _⟩ := g.own i s1 Ka q1 q2
       rw [q3] at w1; cases w1
       rcases h6 with h6 | h6
       . rcases own x h6 with ⟨_, _, _, _, z, _⟩ | _
         . exact z ⟨i, ⟨s1, Ka, q1, q2⟩, q3⟩
         . -- a name was lent
           obtain ⟨j, ⟨sl, es, w3, w4⟩, w5⟩ := h6
           obtain ⟨a', v', y1, y2, y3⟩ := A.get l1 w3
           have sa := l2 j a' _ y1 w3
           have w5 := dn w5
           rw [y2] at w5; cases w5
           cases a' with
           | dat d => cases sa; cases w4
           | tmp es' => obtain ⟨_, _, u1, _, _, _, u2, _⟩ := y3; cases u1; exact u2 ⟨i, ⟨s1, Ka, q1, q2⟩, q3⟩
           | dm i' =>
             have ex : ∃ s' ds', ρ[i']? = some s' /\ lst? s' = some ds' := by
              rcases sa with ⟨_, _, _, z⟩ | ⟨b, es, q, _⟩ | ⟨es, q, _⟩
              . subst z; cases w4
              . exact ⟨_, _, q, rfl⟩
              . exact ⟨_, _, q, rfl⟩
             have := g.dis i i' x ⟨⟨s1, Ka, q1, q2⟩, q3⟩ ⟨ex, y3⟩
             subst this
             have hk : ∃ Em, Ka = .l Em := by
              rcases sa with ⟨_, _, _, z⟩ | ⟨b, es, q, _⟩ | ⟨es, q, _⟩
              . subst z; cases w4
              . rw [q1] at q; cases q; cases q2; exact ⟨_, rfl⟩
              . rw [q1] at q; cases q; cases q2; exact ⟨_, rfl⟩
             obtain ⟨Em, rfl⟩ := hk
             have hj : j < args'.length := by rw [<- la]; exact (List.getElem?_eq_some_iff.mp y1).1
             have e' : args'[j]? = some args'[j] := by simp [hj]
             obtain ⟨v2, s2, u1, u2, u3, u4, u5⟩ := lent q1 q2 y1 e'
             rw [q3] at u1; cases u1
             -- the slot behind the call is a list's
             obtain ⟨⟨t, dt, t1, t2⟩, _⟩ := h
             obtain ⟨s3, t3, t4⟩ := slot t1
             rw [q1] at t3; cases t3
             have lo : ∃ t5, aO i as args' = some t5 := by
              cases hl : aO i as args' with
              | none => exact absurd y1 (iQ la hl j)
              | some t5 => exact ⟨t5, rfl⟩
             obtain ⟨t5, hl⟩ := lo
             obtain ⟨j2, t6, t7⟩ := fY hl
             have hj2 : j2 < args.length := by rw [l1]; exact (List.getElem?_eq_some_iff.mp t6).1
             obtain ⟨_, s6, _, v2', v3', v4', v5'⟩ := lent q1 q2 t6 t7
             have l4' : j2 = j := by
              have a1 : lst? s6 = some (.l Em) := by rcases v5' with ⟨_, _, z⟩ | ⟨_, z⟩ <;> rw [z] <;> rfl
              have a2 : lst? s2 = some (.l Em) := by rcases u5 with ⟨_, _, z⟩ | ⟨_, z⟩ <;> rw [z] <;> rfl
              exact l4 j2 j i s6 s2 _ _ t6 y1 v3' u3 a1 a2
             subst l4'
             rw [e'] at t7; cases t7
             rw [hl] at t4
             refine h5 ⟨j2, ?_, u2⟩
             rcases u5 with ⟨b, z1, z2⟩ | ⟨z1, z2⟩
             . subst z1; subst z2
               rcases u4 with ⟨d2, z⟩ | ⟨d2, z⟩
               . exact ⟨_, .l d2, e', by rw [z]; rfl⟩
               . rw [z] at t4; subst t4; cases t2
             . subst z1; subst z2
               exact ⟨_, .l Em, e', by rw [show args'[j2] = .lent Em from u4]; rfl⟩
       . rw [w2] at h6; cases h6
     . rcases h6 with h6 | h6
       . exact own' x h6
       . exact back x (.inr h6)
 refine ⟨⟨s.gs.sub, by rw [jX]; exact g.len, fun i b d e => ?_, fun i t ds e e' => ?_, fun i j x h1 h2 => g.dis i j x (En h1) (En h2)⟩, s0.cW.trans s.cW, fun b n n' => ?_, fun b o h n => ?_, fun b ⟨i, h⟩ => back b (.inl ⟨i, En h⟩), by rw [jX]; exact s0.len, fun i s1 h l => ?_⟩
 . -- data
   obtain ⟨s1, q1, q2⟩ := slot e
   cases s1 with
   | aX => cases q2
   | lent es => cases q2
   | eF _ => cases q2
   | val b' d' =>
     cases q2
     obtain ⟨v, z1, z2⟩ := g.val i b d q1
     exact ⟨v, z1, z2.mono s.cW⟩
   | own b' es =>
     cases hl : aO i as args' with
     | none => rw [hl] at q2; cases q2
     | some t =>
       rw [hl] at q2
       obtain ⟨j, z1, z2⟩ := fY hl
       obtain ⟨v, s2, y1, y2, y3, y4, y5⟩ := lent q1 rfl z1 z2
       cases t with
       | aX => cases q2
       | own _ _ => cases q2
       | lent _ => cases q2
       | eF _ => cases q2
       | val b2 d2 =>
         cases q2
         obtain ⟨w, x1, x2⟩ := s.gs.val j b2 d z2
         rw [y2] at x1; cases x1
         exact ⟨v, y1, x2⟩
 . -- lists
   obtain ⟨s1, q1, q2⟩ := slot e
   -- a list that was not lent
   have stay : ∀ es, lst? s1 = some es -> (∀ j : Nat, as[j]? ≠ some (.dm i)) -> t = s1 -> ∃ (a : Addr) (xs : HO), σ[i]? = some (some (V.ref a)) /\ H' a = some xs /\ F' a = none /\ nR K F' xs ds := fun es he hn ht => by
    subst ht
    rw [he] at e'; cases e'
    obtain ⟨a, xs, z1, z2, z3, z4⟩ := g.own i _ ds q1 he
    have no : ¬ Own args (vs.map some) a := fun h => by
     obtain ⟨j, ⟨sl, es, w1, w2⟩, w3⟩ := h
     obtain ⟨a', v, h1, h2, h3⟩ := A.get l1 w1
     have sa := l2 j a' _ h1 w1
     have w3 := dn w3
     rw [h2] at w3; cases w3
     cases a' with
     | dat d => cases sa; cases w2
     | tmp es => obtain ⟨x, _, y1, _, _, _, y2, _⟩ := h3; cases y1; exact y2 ⟨i, ⟨_, ds, q1, he⟩, z1⟩
     | dm i' =>
       have : ∃ s' ds', ρ[i']? = some s' /\ lst? s' = some ds' := by
        rcases sa with ⟨_, _, _, z⟩ | ⟨b, es, q, _⟩ | ⟨es, q, _⟩
        . subst z; cases w2
        . exact ⟨_, _, q, rfl⟩
        . exact ⟨_, _, q, rfl⟩
       have := g.dis i i' a ⟨⟨_, ds, q1, he⟩, z1⟩ ⟨this, h3⟩
       subst this
       exact hn j h1
    refine ⟨a, xs, z1, s.keep a _ z2 no, ?_, z4.mono s.cW⟩
    cases q : F' a with
    | none => rfl
    | some o =>
      rcases s.xQ a z3 (by rw [q]; simp) with z | z
      . exact absurd z no
      . rw [z2] at z; exact (yq z4 z).elim
   cases hl : aO i as args' with
   | none =>
     have hn := iQ la hl
     rw [hl] at q2
     cases s1 with
     | aX => subst q2; cases e'
     | val b' d' => subst q2; cases e'
     | own b' es => exact stay _ rfl hn q2
     | lent es => exact stay _ rfl hn q2
     | eF m => exact stay _ rfl hn q2
   | some t2 =>
     rw [hl] at q2
     obtain ⟨j, z1, z2⟩ := fY hl
     cases s1 with
     | aX => subst q2; cases e'
     | val b' d' => subst q2; cases e'
     | eF m =>
       have hj : j < args.length := by rw [l1]; exact (List.getElem?_eq_some_iff.mp z1).1
       rcases l2 j _ _ z1 (show args[j]? = some args[j] by simp [hj]) with ⟨_, _, z, _⟩ | ⟨_, _, z, _⟩ | ⟨_, z, _⟩ <;> (rw [q1] at z; cases z)
     | own b' es =>
       obtain ⟨v, s2, y1, y2, y3, y4, y5⟩ := lent q1 rfl z1 z2
       have : t2 ≠ .aX /\ ∀ x, t2 ≠ .lent x := by
        rcases y5 with ⟨_, _, y5⟩ | ⟨y5, _⟩
        . subst y5; rcases y4 with ⟨_, rfl⟩ | ⟨_, rfl⟩ <;> simp
        . cases y5
       cases t2 with
       | aX => exact absurd rfl this.1
       | eF x =>
         rcases y5 with ⟨_, _, y5⟩ | ⟨y5, _⟩
         . subst y5; rcases y4 with ⟨_, h⟩ | ⟨_, h⟩ <;> cases h
         . cases y5
       | lent x => exact absurd rfl (this.2 x)
       | val b2 d2 => subst q2; cases e'
       | own b2 es2 =>
         subst q2; cases e'
         obtain ⟨a, xs, x1, x2⟩ := s.gs.own j _ _ z2 rfl
         rw [y2] at x1; cases x1
         exact ⟨a, xs, y1, x2⟩
     | lent es =>
       obtain ⟨v, s2, y1, y2, y3, y4, y5⟩ := lent q1 rfl z1 z2
       have ht : t = .lent es := by rw [q2]; cases t2 <;> rfl
       subst ht
       cases e'
       rcases y5 with ⟨_, y5, _⟩ | ⟨_, y5⟩
       . cases y5
       . subst y5
         cases (show t2 = .lent es from y4)
         obtain ⟨a, xs, x1, x2⟩ := s.gs.own j _ _ z2 rfl
         rw [y2] at x1; cases x1
         exact ⟨a, xs, y1, x2⟩
 . by_cases q : F b = none
   . rcases s.xQ b q n' with z | z
     . exact (own' b z).imp id jy
     . by_cases ho : Own ρ₀ σ b
       . exact .inl ho
       . right
         cases q2 : H₀ b with
         | none => rfl
         | some o => rw [s0.keep b o q2 ho] at z; exact z
   . exact s0.xQ b n q
 . refine s.keep b o (s0.keep b o h n) fun z => ?_
   rcases own' b z with z | z
   . exact n z
   . rw [h] at z; cases z
 . obtain ⟨e1, s2, h2, k2⟩ := s0.lk i s1 h l
   refine ⟨e1, _, QK h2, ?_⟩
   have Wz := k2.Bg l
   refine jR.trans l k2 ?_
   cases s2 with
   | aX => cases Wz
   | eF _ => cases Wz
   | val b d => exact jR.refl _
   | lent es =>
     cases aO i as args' with
     | none => rfl
     | some t => cases t <;> rfl
   | own b es =>
     cases b with
     | false => cases Wz
     | true =>
       cases aO i as args' with
       | none => exact .inl ⟨_, rfl⟩
       | some t =>
         cases t with
         | aX => exact .inl ⟨_, rfl⟩
         | lent _ => exact .inl ⟨_, rfl⟩
         | eF _ => exact .inl ⟨_, rfl⟩
         | own _ ds => exact .inl ⟨_, rfl⟩
         | val _ d => exact .inr ⟨_, rfl⟩
theorem sE.rebase {F1 H1 F2 H2 F H : Hp} {ρ ρ1 ρ2 : List Sl} {σ : L2.St} {as : List Arg} {vs : List V} (a : bB K F ρ σ H F1 ρ1 σ H1) (A : sE K F2 ρ2 σ H2 ρ1 H1 as vs) : sE K F2 ρ2 σ H2 ρ H as vs := by
 refine ⟨A.len, fun j b v h1 h2 => ?_, A.dis⟩
 have h := A.one j b v h1 h2
 cases b with
 | dat d => exact h
 | dm i => exact h
 | tmp ds =>
   obtain ⟨x, xs, q1, q2, q3, q4, q5, q6⟩ := h
   refine ⟨x, xs, q1, q2, q3, q4, q5, ?_⟩
   rcases q6 with q6 | q6
   . exact a.uJ x q6
   . by_cases ho : Own ρ σ x
     . exact .inl ho
     . right
       cases e : H x with
       | none => rfl
       | some o => rw [a.keep x o e ho] at q6; cases q6
theorem sE.Ox {F1 H1 F2 H2 F H : Hp} {ρ ρ1 ρ2 : List Sl} {σ : L2.St} {as : List Arg} {vs : List V} {v : V} {r : R} (s1 : bB K F ρ σ H F1 ρ1 σ H1) (rr : bO K F1 ρ1 σ H1 ρ σ H v r) (s2 : bB K F1 ρ1 σ H1 F2 ρ2 σ H2)
 (A : sE K F2 ρ2 σ H2 ρ1 H1 as vs) : sE K F2 ρ2 σ H2 ρ H (sy r :: as) (v :: vs) := by
 have h1 : tD K F1 ρ1 σ H1 ρ H v (sy r) := by
  cases r with
  | val d => exact rr
  | own ds => exact rr
 refine .cons (h1.later s2) (A.rebase s1) fun ds x ea ev k es ek evk => ?_
 cases r with
 | val d => cases ea
 | own ds' =>
   obtain ⟨y, xs, q1, q2, q3, q4, q5, q6⟩ := rr
   rw [ev] at q1; cases q1
   have h := A.one k _ _ ek evk
   obtain ⟨z, zs, w1, _, _, _, _, w6⟩ := h
   cases w1
   rcases w6 with w6 | w6
   . exact q5 w6
   . rw [q2] at w6; cases w6
end
end HH
end
section
namespace HH
open PySem L2 PySem.Spec PyProof.Rows
section
variable {K : PySem.W.Frag} {F F1 H H1 : Hp} {ρ ρ1 ρ2 : List Sl} {σ σ1 : L2.St}
theorem mW {i : Nat} {s : Sl} (h : put ρ i s = some ρ1) : ∃ s0, ρ[i]? = some s0 /\ Bg s0 = false /\ ρ1 = ρ.set i s := by
 unfold put at h
 split at h
 . rename_i q; cases h; exact ⟨_, q, rfl, rfl⟩
 . rename_i q; cases h; exact ⟨_, q, rfl, rfl⟩
 . rename_i q; cases h; exact ⟨_, q, rfl, rfl⟩
 . cases h
theorem bB.put {i : Nat} {v : V} {r : R} (s : bB K F ρ σ H F1 ρ1 σ1 H1) (rr : bO K F1 ρ1 σ1 H1 ρ σ H v r) (h : HH.put ρ1 i (wY r) = some ρ2) : bB K F ρ σ H F1 ρ2 (σ1.set i (some v)) H1 := by
 obtain ⟨s0, h0, hl, rfl⟩ := mW h
 have hi : i < ρ1.length := (List.getElem?_eq_some_iff.mp h0).1
 have hi' : i < σ1.length := by rw [<- s.gs.len]; exact hi
 have old : ∀ {j : Nat} {a : Addr}, j ≠ i -> aZ (ρ1.set i (wY r)) (σ1.set i (some v)) j a -> aZ ρ1 σ1 j a := fun {j a} hj ⟨⟨t, ds, e1, e2⟩, e3⟩ => by
  rw [List.getElem?_set_ne (Ne.symm hj)] at e1 e3
  exact ⟨⟨t, ds, e1, e2⟩, e3⟩
 have new : ∀ {a : Addr}, aZ (ρ1.set i (wY r)) (σ1.set i (some v)) i a -> ¬ Own ρ1 σ1 a /\ (Own ρ σ a \/ H a = none) := fun {a} ⟨⟨t, ds, e1, e2⟩, e3⟩ => by
  rw [List.getElem?_set_self hi] at e1
  rw [List.getElem?_set_self hi'] at e3
  cases e1; cases e3
  cases r with
  | val d => cases e2
  | own es => obtain ⟨x, xs, q1, q2, q3, q4, q5, q6⟩ := rr; cases q1; exact ⟨q5, q6⟩
 refine ⟨⟨s.gs.sub, by simp [s.gs.len], fun j b d e => ?_, fun j t ds e e' => ?_, fun j k a h1 h2 => ?_⟩, s.cW, s.xQ, s.keep, fun a ⟨j, hj⟩ => ?_, by simp [s.len], fun j t e l => ?_⟩
 . by_cases hj : j = i
   . subst hj
     rw [List.getElem?_set_self hi] at e
     cases r with
     | own es => cases e
     | val d' => cases e; exact ⟨v, List.getElem?_set_self hi', rr⟩
   . rw [List.getElem?_set_ne (Ne.symm hj)] at e ⊢
     exact s.gs.val j b d e
 . by_cases hj : j = i
   . subst hj
     rw [List.getElem?_set_self hi] at e
     cases r with
     | val d' => cases e; cases e'
     | own es =>
       cases e; cases e'
       obtain ⟨x, xs, rfl, q2, q3, q4, _⟩ := rr
       exact ⟨x, _, List.getElem?_set_self hi', q2, q3, xs, rfl, q4⟩
   . rw [List.getElem?_set_ne (Ne.symm hj)] at e ⊢
     exact s.gs.own j t ds e e'
 . by_cases hj : j = i
   . by_cases hk : k = i
     . rw [hj, hk]
     . subst hj; exact absurd ⟨k, old hk h2⟩ (new h1).1
   . by_cases hk : k = i
     . subst hk; exact absurd ⟨j, old hj h1⟩ (new h2).1
     . exact s.gs.dis j k a (old hj h1) (old hk h2)
 . by_cases hji : j = i
   . subst hji; exact (new hj).2
   . exact s.uJ a ⟨j, old hji hj⟩
 . obtain ⟨e1, t1, e2, e3⟩ := s.lk j t e l
   have hj : j ≠ i := by
    rintro rfl
    rw [h0] at e2; cases e2
    rw [e3.Bg l] at hl; cases hl
   exact ⟨by rw [List.getElem?_set_ne (Ne.symm hj)]; exact e1, t1, by rw [List.getElem?_set_ne (Ne.symm hj)]; exact e2, e3⟩
theorem GS.mut {x : Nat} {b : Bool} {ds es : List D} {a : Addr} {ys : List V} (g : GS K F ρ σ H) (e : ρ[x]? = some (.own b ds)) (hx : σ[x]? = some (some (.ref a))) (r : az K F ys es) :
 bB K F ρ σ H F (ρ.set x (.own b es)) σ (upd H a (.lst ys)) := by
 have hi : x < ρ.length := (List.getElem?_eq_some_iff.mp e).1
 have oa : aZ ρ σ x a := ⟨⟨_, _, e, rfl⟩, hx⟩
 obtain ⟨a', xs, h1, h2, h3, h4⟩ := g.m9 x _ ds e rfl
 rw [hx] at h1; cases h1
 have old : ∀ {j : Nat} {c : Addr}, aZ (ρ.set x (.own b es)) σ j c -> aZ ρ σ j c := fun {j c} ⟨⟨t, dt, q1, q2⟩, q3⟩ => by
  by_cases hj : j = x
  . subst hj; exact ⟨⟨_, _, e, rfl⟩, q3⟩
  . rw [List.getElem?_set_ne (Ne.symm hj)] at q1; exact ⟨⟨t, dt, q1, q2⟩, q3⟩
 refine ⟨⟨fun c o q => ?_, by simp [g.len], fun j b' d q => ?_, fun j t dt q q' => ?_, fun j k c q1 q2 => g.dis j k c (old q1) (old q2)⟩, .refl _, fun c n n' => absurd n n', fun c o q n => ?_, fun c ⟨j, q⟩ => .inl ⟨j, old q⟩, by simp, fun j t q l => ⟨rfl, ?_⟩⟩
 . have : c ≠ a := by rintro rfl; rw [h3] at q; cases q
   rw [aC this]; exact g.sub c o q
 . by_cases hj : j = x
   . subst hj; rw [List.getElem?_set_self hi] at q; cases q
   . rw [List.getElem?_set_ne (Ne.symm hj)] at q; exact g.val j b' d q
 . by_cases hj : j = x
   . subst hj
     rw [List.getElem?_set_self hi] at q; cases q; cases q'
     exact ⟨a, _, hx, aQ, h3, ys, rfl, r⟩
   . rw [List.getElem?_set_ne (Ne.symm hj)] at q
     obtain ⟨c, zs, w1, w2, w3, w4⟩ := g.own j t dt q q'
     have : c ≠ a := by rintro rfl; exact hj (g.dis j x c ⟨⟨t, dt, q, q'⟩, w1⟩ oa)
     exact ⟨c, zs, w1, by rw [aC this]; exact w2, w3, w4⟩
 . have : c ≠ a := by rintro rfl; exact n ⟨x, oa⟩
   rw [aC this]; exact q
 . by_cases hj : j = x
   . subst hj
     rw [e] at q; cases q
     refine ⟨_, List.getElem?_set_self hi, ?_⟩
     cases b with
     | true => exact .inl ⟨_, rfl⟩
     | false => cases l
   . exact ⟨t, by rw [List.getElem?_set_ne (Ne.symm hj)]; exact q, .refl t⟩
theorem GS.lend {i : Nat} {b : Bool} {ds : List D} (g : GS K F ρ σ H) (e : ρ[i]? = some (.own b ds)) : GS K F (ρ.set i (.lent ds)) σ H := by
 have hi : i < ρ.length := (List.getElem?_eq_some_iff.mp e).1
 have old : ∀ {j : Nat} {c : Addr}, aZ (ρ.set i (.lent ds)) σ j c -> aZ ρ σ j c := fun {j c} ⟨⟨t, dt, q1, q2⟩, q3⟩ => by
  by_cases hj : j = i
  . subst hj; exact ⟨⟨_, _, e, rfl⟩, q3⟩
  . rw [List.getElem?_set_ne (Ne.symm hj)] at q1; exact ⟨⟨t, dt, q1, q2⟩, q3⟩
 refine ⟨g.sub, by simp [g.len], fun j b' d q => ?_, fun j t dt q q' => ?_, fun j k c q1 q2 => g.dis j k c (old q1) (old q2)⟩
 . by_cases hj : j = i
   . subst hj; rw [List.getElem?_set_self hi] at q; cases q
   . rw [List.getElem?_set_ne (Ne.symm hj)] at q; exact g.val j b' d q
 . by_cases hj : j = i
   . subst hj; rw [List.getElem?_set_self hi] at q; cases q; cases q'; exact g.own j _ _ e rfl
   . rw [List.getElem?_set_ne (Ne.symm hj)] at q; exact g.own j t dt q q'
theorem bB.aR {i : Nat} {b : Bool} {ds : List D} (g : GS K F ρ σ H) (e : ρ[i]? = some (.own b ds)) (s : bB K F (ρ.set i (.lent ds)) σ H F1 ρ1 σ1 H1) :
 bB K F ρ σ H F1 (ρ1.set i (.own b ds)) σ1 H1 /\ ∀ v r, bO K F1 ρ1 σ1 H1 (ρ.set i (.lent ds)) σ H v r -> bO K F1 (ρ1.set i (.own b ds)) σ1 H1 ρ σ H v r := by
 have hi : i < ρ.length := (List.getElem?_eq_some_iff.mp e).1
 have h1 : (ρ.set i (.lent ds))[i]? = some (.lent ds) := List.getElem?_set_self hi
 obtain ⟨z1, s', z2, z3⟩ := s.lk i _ h1 rfl
 cases (show s' = .lent ds from z3)
 have hi1 : i < ρ1.length := (List.getElem?_eq_some_iff.mp z2).1
 have o1 : ∀ {j : Nat} {c : Addr}, aZ (ρ.set i (.lent ds)) σ j c -> aZ ρ σ j c := fun {j c} ⟨⟨t, dt, q1, q2⟩, q3⟩ => by
  by_cases hj : j = i
  . subst hj; exact ⟨⟨_, _, e, rfl⟩, q3⟩
  . rw [List.getElem?_set_ne (Ne.symm hj)] at q1; exact ⟨⟨t, dt, q1, q2⟩, q3⟩
 have o1' : ∀ {c : Addr}, Own ρ σ c -> Own (ρ.set i (.lent ds)) σ c := fun {c} ⟨j, ⟨t, dt, q1, q2⟩, q3⟩ => by
  by_cases hj : j = i
  . subst hj; exact ⟨j, ⟨_, _, h1, rfl⟩, q3⟩
  . exact ⟨j, ⟨t, dt, by rw [List.getElem?_set_ne (Ne.symm hj)]; exact q1, q2⟩, q3⟩
 have o2 : ∀ {j : Nat} {c : Addr}, aZ (ρ1.set i (.own b ds)) σ1 j c -> aZ ρ1 σ1 j c := fun {j c} ⟨⟨t, dt, q1, q2⟩, q3⟩ => by
  by_cases hj : j = i
  . subst hj; exact ⟨⟨_, _, z2, rfl⟩, q3⟩
  . rw [List.getElem?_set_ne (Ne.symm hj)] at q1; exact ⟨⟨t, dt, q1, q2⟩, q3⟩
 have w : ∀ {c : Addr} {h : Hp}, Own (ρ.set i (.lent ds)) σ c \/ h c = none -> Own ρ σ c \/ h c = none := fun {c h} q => q.imp (fun ⟨j, q⟩ => ⟨j, o1 q⟩) id
 have w' : ∀ {c : Addr} {h : Hp}, Own (ρ.set i (.lent ds)) σ c \/ nt (h c) = none -> Own ρ σ c \/ nt (h c) = none := fun {c h} q => q.imp (fun ⟨j, q⟩ => ⟨j, o1 q⟩) id
 refine ⟨⟨⟨s.gs.sub, by simp [s.gs.len], fun j b' d q => ?_, fun j t dt q q' => ?_, fun j k c q1 q2 => s.gs.dis j k c (o2 q1) (o2 q2)⟩, s.cW, fun c n n' => w' (s.xQ c n n'), fun c o q n => s.keep c o q fun ⟨j, x⟩ => n ⟨j, o1 x⟩, fun c ⟨j, q⟩ => w (s.uJ c ⟨j, o2 q⟩), by simpa using s.len, fun j t q l => ?_⟩, fun v r h => ?_⟩
 . by_cases hj : j = i
   . subst hj; rw [List.getElem?_set_self hi1] at q; cases q
   . rw [List.getElem?_set_ne (Ne.symm hj)] at q; exact s.gs.val j b' d q
 . by_cases hj : j = i
   . subst hj; rw [List.getElem?_set_self hi1] at q; cases q; cases q'; exact s.gs.own j _ _ z2 rfl
   . rw [List.getElem?_set_ne (Ne.symm hj)] at q; exact s.gs.own j t dt q q'
 . by_cases hj : j = i
   . subst hj
     rw [e] at q; cases q
     refine ⟨z1, _, List.getElem?_set_self hi1, ?_⟩
     cases b with
     | true => exact .inl ⟨_, rfl⟩
     | false => cases l
   . obtain ⟨y1, t', y2, y3⟩ := s.lk j t (by rw [List.getElem?_set_ne (Ne.symm hj)]; exact q) l
     exact ⟨y1, t', by rw [List.getElem?_set_ne (Ne.symm hj)]; exact y2, y3⟩
 . cases r with
   | val d => exact h
   | own es =>
     obtain ⟨x, xs, q1, q2, q3, q4, q5, q6⟩ := h
     exact ⟨x, xs, q1, q2, q3, q4, fun ⟨j, q⟩ => q5 ⟨j, o2 q⟩, w q6⟩
theorem GS.give {i : Nat} {ds : List D} (g : GS K F ρ σ H) (e : ρ[i]? = some (.own false ds)) : ∃ v, σ[i]? = some (some v) /\ bB K F ρ σ H F (ρ.set i .aX) σ H /\ bO K F (ρ.set i .aX) σ H ρ σ H v (.own ds) := by
 have hi : i < ρ.length := (List.getElem?_eq_some_iff.mp e).1
 obtain ⟨a, xs, h1, h2, h3, h4⟩ := g.m9 i _ ds e rfl
 have old : ∀ {j : Nat} {c : Addr}, aZ (ρ.set i .aX) σ j c -> aZ ρ σ j c /\ j ≠ i := fun {j c} ⟨⟨t, dt, q1, q2⟩, q3⟩ => by
  by_cases hj : j = i
  . subst hj; rw [List.getElem?_set_self hi] at q1; cases q1; cases q2
  . rw [List.getElem?_set_ne (Ne.symm hj)] at q1; exact ⟨⟨⟨t, dt, q1, q2⟩, q3⟩, hj⟩
 have oa : aZ ρ σ i a := ⟨⟨_, _, e, rfl⟩, h1⟩
 refine ⟨.ref a, h1, ⟨⟨g.sub, by simp [g.len], fun j b' d q => ?_, fun j t dt q q' => ?_, fun j k c q1 q2 => g.dis j k c (old q1).1 (old q2).1⟩, .refl _, fun c n n' => absurd n n', fun _ _ q _ => q, fun c ⟨j, q⟩ => .inl ⟨j, (old q).1⟩, by simp, fun j t q l => ⟨rfl, ?_⟩⟩, a, xs, rfl, h2, h3, h4, fun ⟨j, q⟩ => ?_, .inl ⟨i, oa⟩⟩
 . by_cases hj : j = i
   . subst hj; rw [List.getElem?_set_self hi] at q; cases q
   . rw [List.getElem?_set_ne (Ne.symm hj)] at q; exact g.val j b' d q
 . by_cases hj : j = i
   . subst hj; rw [List.getElem?_set_self hi] at q; cases q; cases q'
   . rw [List.getElem?_set_ne (Ne.symm hj)] at q; exact g.own j t dt q q'
 . by_cases hj : j = i
   . subst hj; rw [e] at q; cases q; cases l
   . exact ⟨t, by rw [List.getElem?_set_ne (Ne.symm hj)]; exact q, .refl t⟩
 . exact (old q).2 (g.dis j i a (old q).1 oa)
theorem GS.more {n : Nat} {τ : List (Option V)} (g : GS K F ρ σ H) (hn : τ.length = n) : GS K F (ρ ++ List.replicate n .aX) (σ ++ τ) H := by
 have get : ∀ {j : Nat} {t : Sl}, (ρ ++ List.replicate n Sl.aX)[j]? = some t -> t ≠ .aX -> ρ[j]? = some t /\ j < ρ.length := fun {j t} q ne => by
  by_cases hj : j < ρ.length
  . rw [List.getElem?_append_left hj] at q; exact ⟨q, hj⟩
  . rw [List.getElem?_append_right (by omega), List.getElem?_replicate] at q
    split at q
    . cases q; exact absurd rfl ne
    . cases q
 have up : ∀ {j : Nat} {v : Option V}, j < ρ.length -> (σ[j]? = some v ↔ (σ ++ τ)[j]? = some v) := fun {j v} hj => by rw [List.getElem?_append_left (by rw [<- g.len]; exact hj)]
 have old : ∀ {j : Nat} {c : Addr}, aZ (ρ ++ List.replicate n .aX) (σ ++ τ) j c -> aZ ρ σ j c := fun {j c} ⟨⟨t, dt, q1, q2⟩, q3⟩ => by
  obtain ⟨h1, h2⟩ := get q1 (by rintro rfl; cases q2)
  exact ⟨⟨t, dt, h1, q2⟩, (up h2).mpr q3⟩
 refine ⟨g.sub, by simp [g.len, hn], fun j b d q => ?_, fun j t dt q q' => ?_, fun j k c q1 q2 => g.dis j k c (old q1) (old q2)⟩
 . obtain ⟨h1, h2⟩ := get q (by simp)
   obtain ⟨v, e1, e2⟩ := g.val j b d h1
   exact ⟨v, (up h2).mp e1, e2⟩
 . obtain ⟨h1, h2⟩ := get q (by rintro rfl; cases q')
   obtain ⟨a, xs, e1, e2⟩ := g.own j t dt h1 q'
   exact ⟨a, xs, (up h2).mp e1, e2⟩
theorem bB.less {n : Nat} {τ : List (Option V)} {m : Nat} (hm : m = ρ.length) (g : GS K F ρ σ H) (hn : τ.length = n) (s : bB K F (ρ ++ List.replicate n .aX) (σ ++ τ) H F1 ρ1 σ1 H1) :
 bB K F ρ σ H F1 (ρ1.take m) (σ1.take m) H1 /\ ∀ v r, bO K F1 ρ1 σ1 H1 (ρ ++ List.replicate n .aX) (σ ++ τ) H v r -> bO K F1 (ρ1.take m) (σ1.take m) H1 ρ σ H v r := by
 subst hm
 have l1 : ρ.length <= ρ1.length := by rw [s.len]; simp
 have l2 : ρ.length <= σ1.length := by rw [<- s.gs.len]; exact l1
 have tk : ∀ {α : Type} {l : List α} {j : Nat} {x : α}, (l.take ρ.length)[j]? = some x -> l[j]? = some x /\ j < ρ.length := fun {α l j x} q => by
  rw [List.getElem?_take] at q
  split at q
  . exact ⟨q, by assumption⟩
  . cases q
 have kt : ∀ {α : Type} {l : List α} {j : Nat} {x : α}, j < ρ.length -> l[j]? = some x -> (l.take ρ.length)[j]? = some x := fun {α l j x} hj q => by rw [List.getElem?_take, if_pos hj]; exact q
 have oN : ∀ {c : Addr}, Own (ρ ++ List.replicate n .aX) (σ ++ τ) c -> Own ρ σ c := fun {c} ⟨j, ⟨t, dt, q1, q2⟩, q3⟩ => by
  by_cases hj : j < ρ.length
  . rw [List.getElem?_append_left hj] at q1
    rw [List.getElem?_append_left (by rw [<- g.len]; exact hj)] at q3
    exact ⟨j, ⟨t, dt, q1, q2⟩, q3⟩
  . rw [List.getElem?_append_right (by omega), List.getElem?_replicate] at q1
    split at q1
    . cases q1; cases q2
    . cases q1
 have oN' : ∀ {c : Addr}, Own ρ σ c -> Own (ρ ++ List.replicate n .aX) (σ ++ τ) c := fun {c} ⟨j, ⟨t, dt, q1, q2⟩, q3⟩ => by
  have hj : j < ρ.length := (List.getElem?_eq_some_iff.mp q1).1
  exact ⟨j, ⟨t, dt, by rw [List.getElem?_append_left hj]; exact q1, q2⟩, by rw [List.getElem?_append_left (by rw [<- g.len]; exact hj)]; exact q3⟩
 have o1 : ∀ {j : Nat} {c : Addr}, aZ (ρ1.take ρ.length) (σ1.take ρ.length) j c -> aZ ρ1 σ1 j c := fun {j c} ⟨⟨t, dt, q1, q2⟩, q3⟩ => ⟨⟨t, dt, (tk q1).1, q2⟩, (tk q3).1⟩
 have w : ∀ {c : Addr} {h : Hp}, Own (ρ ++ List.replicate n .aX) (σ ++ τ) c \/ h c = none -> Own ρ σ c \/ h c = none := fun {c h} q => q.imp oN id
 have w' : ∀ {c : Addr} {h : Hp}, Own (ρ ++ List.replicate n .aX) (σ ++ τ) c \/ nt (h c) = none -> Own ρ σ c \/ nt (h c) = none := fun {c h} q => q.imp oN id
 refine ⟨⟨⟨s.gs.sub, by simp only [List.length_take]; omega, fun j b d q => ?_, fun j t dt q q' => ?_, fun j k c q1 q2 => s.gs.dis j k c (o1 q1) (o1 q2)⟩, s.cW, fun c a b => w' (s.xQ c a b), fun c o q n => s.keep c o q fun x => n (oN x), fun c ⟨j, q⟩ => w (s.uJ c ⟨j, o1 q⟩), by simp only [List.length_take]; omega, fun j t q l => ?_⟩, fun v r h => ?_⟩
 . obtain ⟨h1, h2⟩ := tk q
   obtain ⟨v, e1, e2⟩ := s.gs.val j b d h1
   exact ⟨v, kt h2 e1, e2⟩
 . obtain ⟨h1, h2⟩ := tk q
   obtain ⟨a, xs, e1, e2⟩ := s.gs.own j t dt h1 q'
   exact ⟨a, xs, kt h2 e1, e2⟩
 . have hj : j < ρ.length := (List.getElem?_eq_some_iff.mp q).1
   obtain ⟨y1, t', y2, y3⟩ := s.lk j t (by rw [List.getElem?_append_left hj]; exact q) l
   rw [List.getElem?_append_left (by rw [<- g.len]; exact hj)] at y1
   refine ⟨?_, t', kt hj y2, y3⟩
   rw [List.getElem?_take, if_pos hj]; exact y1
 . cases r with
   | val d => exact h
   | own es =>
     obtain ⟨x, xs, q1, q2, q3, q4, q5, q6⟩ := h
     exact ⟨x, xs, q1, q2, q3, q4, fun ⟨j, q⟩ => q5 ⟨j, o1 q⟩, w q6⟩
end
end HH
end
section
namespace HH
open PySem L2 PySem.Spec PyProof.Rows
section
variable {X : Cx} {c : Call} {n : Nat} {e a b d : Expr} {p pa pb pd : P} {pos : Pos} {es : List Expr} {ps : List P}
inductive V1 (K : PySem.W.Frag) (f : List Sl -> Res (List Arg)) (σ : L2.St) (H : Hp) (Q : List V -> Hp -> Prop) : Prop where
 | mk (F : Hp) (ρ : List Sl) (as : List Arg) (ρ' : List Sl) (g : GS K F ρ σ H) (e : f ρ = .ok as ρ') (k : ∀ vs F' H', bB K F ρ σ H F' ρ' σ H' -> sE K F' ρ' σ H' ρ H as vs -> Q vs H')
noncomputable def SG (X : Cx) (c : Call) (es : List Expr) (ps : List P) : Prop := PA X es (V1 X.K (tU c ps))
theorem aM : SG X c [] [] := qR gb fun σ H Q ⟨F, ρ, as, ρ', g, e, k⟩ => by rw [tU] at e; cases e; exact k [] F H (.refl g) .nil
theorem CG (ha : SX X c a pa) (hr : SG X c es ps) (hs : starEach (a :: es) X.env = (false, eval a X.env) :: starEach es X.env := by rfl) : SG X c (a :: es) (pa :: ps) := by
 cases hv : isVar pa with
 | none =>
   refine qR (bT ha.ev hr hs) ?_
   rintro σ H Q ⟨F, ρ, as, ρ', g, e, k⟩
   rw [tU, hv] at e
   obtain ⟨r, ρ1, e1, e⟩ := ak e
   obtain ⟨xs, ρ2, e2, e⟩ := ak e
   cases e
   refine ⟨F, ρ, r, ρ1, g, e1, fun v F1 H1 s1 rr => ⟨F1, ρ1, xs, _, s1.gs, e2, fun vs F2 H2 s2 A => k _ F2 H2 (s1.trans s2) (sE.Ox s1 rr s2 A)⟩⟩
 | some i =>
   refine qR (bT (ha.var i hv) hr hs) ?_
   rintro σ H Q ⟨F, ρ, as, ρ', g, e, k⟩
   rw [tU, hv] at e
   obtain ⟨x0, ρ0, e0, e⟩ := ak e
   obtain ⟨QJ, xR⟩ := aF e0
   subst xR
   obtain ⟨xs, ρ2, e2, e⟩ := ak e
   cases e
   obtain ⟨v, h1, _⟩ := g.pk QJ
   exact ⟨v, h1, F, ρ, xs, _, g, e2, fun vs F2 H2 s2 A => k _ F2 H2 s2 (.cons h1 A fun ds x z => by cases z)⟩
theorem Ea {k f : Nat} {fa : Addr} {fd : FuncData} {qs : List Str} {x : Str} {p' : Pos} (Fn : cT X.prog X.w X.K X.mg X.base j6 k fa fd qs (lr X.K qs.length (c f))) (hr : gO k X.A) (hg : Gl X x) (hm : X.mg x = some (.ref fa)) (hk : PySem.W.keepIn X.K (.ref fa) = true)
 (hb : Binds X.K fd qs []) (ha : SG X c (e :: es) ps) (hl : (e :: es).length = qs.length) (hdb : (x == ("__debug__" : Str)) = false := by decide) (he : starEach (e :: es) X.env = (false, eval e X.env) :: starEach es X.env := by rfl) (hpl : (backTo pos (starEach es X.env)).any (·.1) = false := by rfl)
 (hl2 : ps.length = (e :: es).length := by rfl) : SX X c (.Call (.Name x p') (e :: es) [] pos) (.call f ps) := by
 refine ⟨eZ (Bk (E := E0) Fn hr hg hm hk hb .nil Pa ha hdb he hpl) ?_, fun i h => by cases h⟩
 rintro σ H Q ⟨F, ρ, r, ρ', g, e, k⟩
 rw [HH.ev] at e
 obtain ⟨as, ρ1, e1, e⟩ := ak e
 unfold jV at e
 split at e
 . cases e
 . rename_i args hb'
   split at e
   . rename_i r' args' hc
     cases e
     refine ⟨F, ρ, as, ρ1, g, e1, fun vs F1 H1 s1 A => ?_⟩
     have hlen : vs.length = qs.length := by
      have : ∀ {ps : List P} {ρ ρ' : List Sl} {as : List Arg}, tU c ps ρ = .ok as ρ' -> as.length = ps.length := by
       intro ps
       induction ps with
       | nil => intro ρ ρ' as h; rw [tU] at h; cases h; rfl
       | cons q qs ih =>
         intro ρ ρ' as h
         rw [tU] at h
         split at h
         . obtain ⟨_, _, _, h⟩ := ak h
           obtain ⟨xs, ρ2, h2, h⟩ := ak h
           cases h; simp [ih h2]
         . obtain ⟨_, _, _, h⟩ := ak h
           obtain ⟨xs, ρ2, h2, h⟩ := ak h
           cases h; simp [ih h2]
      rw [<- A.len, this e1, hl2, hl]
     show lr X.K qs.length (c f) (vs ++ []) H1 Q E0
     rw [List.append_nil]
     refine ⟨hlen, F1, args, r, args', args_gs s1.gs A hb', hc, fun v F' σ' H' s rr => ?_⟩
     obtain ⟨z1, z2⟩ := Ar s1 A hb' s
     exact k v F' H' z1 (z2 v r rr)
   . cases e
   . cases e
noncomputable def Nt (K : PySem.W.Frag) (D : Ends) (F' : Hp) (ρ' : List Sl) (σ' : L2.St) (H' : Hp) (ρ : List Sl) (σ : L2.St) (H : Hp) (fl : Fl) : Prop := match fl with
 | .next => D.nx σ' H'
 | .brk => D.bk σ' H'
 | .cont => D.ct σ' H'
 | .ret r => ∀ v, bO K F' ρ' σ' H' ρ σ H v r -> D.rt v H'
inductive Ol (K : PySem.W.Frag) (f : List Sl -> Res Fl) (D : Ends) (σ : L2.St) (H : Hp) : Prop where
 | mk (F : Hp) (ρ : List Sl) (fl : Fl) (ρ' : List Sl) (g : GS K F ρ σ H) (e : f ρ = .ok fl ρ') (k : ∀ F' σ' H', bB K F ρ σ H F' ρ' σ' H' -> Nt K D F' ρ' σ' H' ρ σ H fl)
noncomputable def SS (X : Cx) (c : Call) (n : Nat) (st : Stmt) (s : S) : Prop := PS X st (Ol X.K (ex c n s))
noncomputable def SB (X : Cx) (c : Call) (n : Nat) (st : List Stmt) (s : List S) : Prop := vL X st (Ol X.K (fc c n s))
theorem eY {st : Stmt} {t t' : TS} (h : PS X st t) (i : ∀ D σ H, t' D σ H -> t D σ H) : PS X st t' := fun pins s σ H D I q => h pins s σ H D I (i D σ H q)
theorem yZ {st : List Stmt} {t t' : TS} (h : vL X st t) (i : ∀ D σ H, t' D σ H -> t D σ H) : vL X st t' := fun pins s σ H D I q => h pins s σ H D I (i D σ H q)
theorem au : SB X c n [] [] := yZ Dl fun D σ H ⟨F, ρ, fl, ρ', g, e, k⟩ => by rw [fc] at e; cases e; exact k F σ H (.refl g)
theorem aj {st : Stmt} {s : S} {sts : List Stmt} {ss : List S} (h1 : SS X c n st s) (h2 : SB X c n sts ss) : SB X c n (st :: sts) (s :: ss) := by
 refine yZ (Ah h1 h2) ?_
 rintro D σ H ⟨F, ρ, fl, ρ', g, e, k⟩
 rw [fc] at e
 obtain ⟨f1, ρ1, e1, e⟩ := ak e
 cases f1 with
 | next =>
   refine ⟨F, ρ, .next, ρ1, g, e1, fun F1 σ1 H1 s1 => ⟨F1, ρ1, fl, ρ', s1.gs, e, fun F2 σ2 H2 s2 => ?_⟩⟩
   have q := k F2 σ2 H2 (s1.trans s2)
   cases fl with
   | next => exact q
   | brk => exact q
   | cont => exact q
   | ret r => exact fun v rr => q v (rr.later s1)
 | brk => cases e; exact ⟨F, ρ, .brk, _, g, e1, k⟩
 | cont => cases e; exact ⟨F, ρ, .cont, _, g, e1, k⟩
 | ret r => cases e; exact ⟨F, ρ, .ret r, _, g, e1, k⟩
theorem Og {t1 t2 : TE} (h1 : PE X e t1) (h2 : PE X e t2) : PE X e (fun σ H Q => t1 σ H Q \/ t2 σ H Q) := fun pins s σ H Q I h => h.elim (h1 pins s σ H Q I) (h2 pins s σ H Q I)
theorem bA (he : SX X c e p) : SS X c n (.Return (some e) pos) (.ret p) := by
 have plain : ∀ (D : Ends) (σ : L2.St) (H : Hp), (∃ F ρ fl ρ', GS X.K F ρ σ H /\ ((HH.ev c p ρ).bind fun r ρ => .ok (Fl.ret r) ρ) = .ok fl ρ' /\ ∀ F' σ' H', bB X.K F ρ σ H F' ρ' σ' H' -> (match fl with
  | .next => D.nx σ' H' | .brk => D.bk σ' H' | .cont => D.ct σ' H' | .ret r => ∀ v, bO X.K F' ρ' σ' H' ρ σ H v r -> D.rt v H')) -> Ep X.K (HH.ev c p) σ H D.rt := fun D σ H ⟨F, ρ, fl, ρ', g, e, k⟩ => by
  obtain ⟨r, ρ1, e1, e⟩ := ak e
  cases e
  exact ⟨F, ρ, r, _, g, e1, fun v F1 H1 s1 rr => k F1 σ H1 s1 v rr⟩
 cases hv : isVar p with
 | none =>
   refine eY (zH he.ev) fun D σ H ⟨F, ρ, fl, ρ', g, e, k⟩ => plain D σ H ⟨F, ρ, fl, ρ', g, ?_, k⟩
   rw [ex, hv] at e
   exact e
 | some i =>
   -- by the name itself: its own list is handed back, else its data
   have hp : p = .var i := by cases p <;> cases hv; rfl
   subst hp
   refine eY (zH (Og (he.var i hv) he.ev)) ?_
   rintro D σ H ⟨F, ρ, fl, ρ', g, e, k⟩
   rw [ex, hv] at e
   dsimp only at e
   split at e
   . rename_i ds q
     cases e
     obtain ⟨v, h1, h2, h3⟩ := g.give q
     exact .inl ⟨v, h1, k F σ H h2 v h3⟩
   . exact .inr (plain D σ H ⟨F, ρ, fl, ρ', g, e, k⟩)
theorem dO {sa sb : List Stmt} {ta tb : List S} (hc : ST X c e p) (ha : SB X c n sa ta) (hb : SB X c n sb tb) : SS X c n (.If e sa sb pos) (.ifs p ta tb) := by
 refine eY (Oq hc ha hb) ?_
 rintro D σ H ⟨F, ρ, fl, ρ', g, e, k⟩
 rw [ex] at e
 obtain ⟨x, ρ1, e1, e⟩ := ak e
 refine ⟨F, ρ, x, ρ1, g, e1, fun F1 H1 s1 => ?_⟩
 have go : ∀ {f : List Sl -> Res Fl}, f ρ1 = .ok fl ρ' -> Ol X.K f D σ H1 := fun {f} h => ⟨F1, ρ1, fl, ρ', s1.gs, h, fun F2 σ2 H2 s2 => by
  have q := k F2 σ2 H2 (s1.trans s2)
  cases fl with
  | next => exact q
  | brk => exact q
  | cont => exact q
  | ret r => exact fun v rr => q v (rr.later s1)⟩
 cases x with
 | true => rw [if_pos rfl] at e; exact go e
 | false => rw [if_neg Bool.false_ne_true] at e; exact go e
theorem aU {i : Nat} {x : Str} {pos' : Pos} (hN : X.N.Nodup) (hi : X.N[i]? = some x) (hx : Loc X.env.scope x) (he : SX X c e p) (hs : swapsWith e (some (.Name x pos')) pos.line X.env = pure false := by rfl) (hf : X.fn x = true \/ X.env.scope.names.lookup x = some .local := by first | exact .inl rfl | exact .inr rfl | assumption) :
 SS X c n (.Assign [.Name x pos'] e pos) (.asg i p) := by
 refine eY (zj hN hi hx he.ev hs hf) ?_
 rintro D σ H ⟨F, ρ, fl, ρ', g, e, k⟩
 rw [ex] at e
 obtain ⟨r, ρ1, e1, e⟩ := ak e
 obtain ⟨ρ2, ρ3, e2, e⟩ := ak e
 cases e
 have zz := aF e2; clear e2; obtain ⟨e2, e3⟩ := zz
 exact ⟨F, ρ, r, ρ1, g, e1, fun v F1 H1 s1 rr => k F1 _ H1 (s1.put rr e2)⟩
end
end HH
end
section
namespace L2
open PySem PySem.Spec PyProof.Rows
noncomputable def qT (X : Cx) (scope : Scope) (N' : List Str) (cl : List (Str × Addr)) (C : Addr) (s₀ : Shared) (H₀ : Hp) (ex : List Addr) : Cx :=
 { X with N := N', s₀ := s₀, H₀ := H₀, env := compEnvC scope cl C X.env, outer := X.stack, stack := X.stack, ex := ex, fn := fun x => scope.names.lookup x == some .cell, pn := [], xe := fun _ _ => False }
theorem ue {env : Env} (l : List (Str × NameKind)) : ∀ (cs : List (Str × Addr)), (∀ n, (n, NameKind.free) ∈ l -> ∃ c, env.cells.lookup n = some c) -> (∀ n c, cs.lookup n = some c -> env.cells.lookup n = some c) ->
 ∃ cl, (forIn l cs (fun (x : Str × NameKind) (r : List (Str × Addr)) => (if (x.2 == NameKind.free) = true then (do let a <- cellOf env x.1; pure (ForInStep.yield ((x.1, a) :: r))) else pure (ForInStep.yield r) : Sem (ForInStep (List (Str × Addr))))) : Sem (List (Str × Addr))) = pure cl /\
   (∀ n c, cl.lookup n = some c -> env.cells.lookup n = some c) /\ (∀ n, ((n, NameKind.free) ∈ l \/ (cs.lookup n).isSome) -> (cl.lookup n).isSome) := by
 induction l with
 | nil => intro cs _ h; exact ⟨cs, rfl, h, fun n hn => by rcases hn with hn | hn; cases hn; exact hn⟩
 | cons y l ih =>
   obtain ⟨n, k⟩ := y
   intro cs hl hc
   rw [List.forIn_cons]
   by_cases hk : k = .free
   . subst hk
     obtain ⟨a, ha⟩ := hl n List.mem_cons_self
     obtain ⟨cl, e, h1, h2⟩ := ih ((n, a) :: cs) (fun m hm => hl m (List.mem_cons_of_mem _ hm)) fun m c hm => by
      rw [List.lookup_cons] at hm
      split at hm
      . rename_i q; have q := eq_of_beq q; subst q; cases hm; exact ha
      . exact hc m c hm
     refine ⟨cl, ?_, h1, fun m hm => h2 m ?_⟩
     . rw [<- e]
       have : cellOf env n = pure a := by unfold cellOf; rw [ha]
       simp only [beq_self_eq_true, if_true, this]
       rfl
     . rcases hm with hm | hm
       . rcases List.mem_cons.mp hm with hm | hm
         . cases hm; right; simp [List.lookup_cons]
         . exact .inl hm
       . right
         rw [List.lookup_cons]
         split
         . rfl
         . exact hm
   . obtain ⟨cl, e, h1, h2⟩ := ih cs (fun m hm => hl m (List.mem_cons_of_mem _ hm)) hc
     refine ⟨cl, ?_, h1, fun m hm => h2 m ?_⟩
     . rw [<- e]
       have : (k == NameKind.free) = false := by simpa using hk
       simp only [this, Bool.false_eq_true, if_false]
       rfl
     . rcases hm with hm | hm
       . rcases List.mem_cons.mp hm with hm | hm
         . cases hm; exact absurd rfl hk
         . exact .inl hm
       . exact .inr hm
theorem uG {env : Env} {scope : Scope} (hl : ∀ n, (n, NameKind.free) ∈ scope.names -> ∃ c, env.cells.lookup n = some c) :
 ∃ cl, closureFor scope env = pure cl /\ (∀ n c, cl.lookup n = some c -> env.cells.lookup n = some c) /\ ∀ n, (n, NameKind.free) ∈ scope.names -> (cl.lookup n).isSome := by
 obtain ⟨cl, e, h1, h2⟩ := ue (env := env) scope.names [] hl (by simp)
 refine ⟨cl, ?_, h1, fun n hn => h2 n (.inl hn)⟩
 unfold closureFor
 exact (congrArg (fun t => t >>= fun r => pure r) e).trans rfl
theorem cN {env : Env} : ∀ (names : List (Str × NameKind)) (x : Str),
 (names.map fun (n, k) => if (k == NameKind.free && env.scope.kind == .function && env.kindOf n == some .cell) then (n, NameKind.cell) else (n, k)).lookup x =
  (names.lookup x).map fun k => if (k == NameKind.free && env.scope.kind == .function && env.kindOf x == some .cell) = true then NameKind.cell else k
 | [], x => rfl
 | (n, k) :: r, x => by
   have ih := cN (env := env) r x
   show List.lookup x ((if (k == NameKind.free && env.scope.kind == .function && env.kindOf n == some .cell) = true then (n, NameKind.cell) else (n, k)) :: _) = _
   by_cases hc : (k == NameKind.free && env.scope.kind == .function && env.kindOf n == some .cell) = true
   . rw [if_pos hc, List.lookup_cons, List.lookup_cons]
     cases hx : x == n with
     | true =>
       have := eq_of_beq hx
       subst this
       show some NameKind.cell = some (if _ then _ else _)
       rw [if_pos hc]
     | false => exact ih
   . rw [if_neg hc, List.lookup_cons, List.lookup_cons]
     cases hx : x == n with
     | true =>
       have := eq_of_beq hx
       subst this
       show some k = some (if _ then _ else _)
       rw [if_neg hc]
     | false => exact ih
noncomputable def Oh (N N' : List Str) (sc : Scope) : Bool := (N.zip N').all fun p => (p.1 == p.2 && sc.names.lookup p.2 == some .free) || (sc.names.lookup p.2 != some .local && sc.names.lookup p.2 != some .cell && sc.names.lookup p.2 != some .free)
structure eE (X : Cx) (scope : Scope) (N' : List Str) (n : Nat) : Prop where
 kind : scope.kind = .function
 cons : ∀ y ∈ scope.names, scope.names.lookup y.1 = some y.2
 names : ∀ y ∈ scope.names, y.2 = .local -> scope.names.lookup y.1 = some .local
 cap : ∀ y ∈ scope.names, y.2 = .free -> X.env.scope.names.lookup y.1 = some .cell \/ X.env.scope.names.lookup y.1 = some .free
 len : N'.length = X.N.length + n
 same : Oh X.N N' scope = true
theorem eE.get {X : Cx} {scope : Scope} {N' : List Str} {n : Nat} (c : eE X scope N' n) {i : Nat} {x : Str} (hi : i < X.N.length) (h : N'[i]? = some x) (hv : xX (relabel scope X.env) x) : X.N[i]? = some x /\ scope.names.lookup x = some .free := by
 have hz : (X.N.zip N')[i]? = some (X.N[i], x) := by
  rw [List.getElem?_zip_eq_some]
  exact ⟨by simp [hi], h⟩
 have := (List.all_eq_true.mp c.same) _ (List.mem_of_getElem? hz)
 simp only [Bool.or_eq_true, Bool.and_eq_true] at this
 rcases this with ⟨h1, h2⟩ | ⟨⟨h1, h2⟩, h3⟩
 . have h1 := eq_of_beq h1
   have h2 := eq_of_beq h2
   exact ⟨by simp [hi, h1], h2⟩
 . exfalso
   have h1 : scope.names.lookup x ≠ some .local := by simpa using h1
   have h2 : scope.names.lookup x ≠ some .cell := by simpa using h2
   have h3 : scope.names.lookup x ≠ some .free := by simpa using h3
   have e := cN (env := X.env) scope.names x
   have hv : (relabel scope X.env).names.lookup x = some .local \/ (relabel scope X.env).names.lookup x = some .cell \/ (relabel scope X.env).names.lookup x = some .free := hv
   rw [show (relabel scope X.env).names.lookup x = _ from e] at hv
   cases q : scope.names.lookup x with
   | none => rw [q] at hv; simp at hv
   | some k =>
     rw [q] at hv h1 h2 h3
     have hk : (k == NameKind.free) = false := by
      cases k <;> first | rfl | exact absurd rfl h3
     simp only [Option.map_some, hk, Bool.false_and, Bool.false_eq_true, if_false, Option.some.injEq] at hv
     rcases hv with rfl | rfl | rfl
     . exact h1 rfl
     . exact h2 rfl
     . exact h3 rfl
end L2
namespace L2
open PySem PySem.Spec PyProof.Rows
structure CI (cl : List (Str × Addr)) (z : Nat) (h : Heap) (acc : List (Str × Addr)) : Prop where
 from' : ∀ n c, acc.lookup n = some c -> cl.lookup n = some c \/ (z <= c /\ h.IsCell c none)
 inj : ∀ n n' c, acc.lookup n = some c -> acc.lookup n' = some c -> n = n'
theorem Av {cl : List (Str × Addr)} {z : Nat} (hcl : ∀ n c, cl.lookup n = some c -> c < z) : ∀ (names : List (Str × NameKind)) (h : Heap) (acc : List (Str × Addr)), z <= h.objs.size -> CI cl z h acc ->
 CI cl z (pushCells h names) (cellsFrom h.objs.size names acc) /\ (∀ n, (acc.lookup n).isSome -> ((cellsFrom h.objs.size names acc).lookup n).isSome) /\
 (∀ n, ((∃ c, acc.lookup n = some c /\ z <= c) \/ (n, NameKind.cell) ∈ names) -> ∃ c, (cellsFrom h.objs.size names acc).lookup n = some c /\ z <= c) /\
 (∀ n c, (n, NameKind.cell) ∉ names -> (cellsFrom h.objs.size names acc).lookup n = some c -> acc.lookup n = some c)
 | [], h, acc, hz, x => by
   refine ⟨x, fun _ q => q, fun n q => ?_, fun _ _ _ q => q⟩
   rcases q with q | q
   . exact q
   . cases q
 | (name, kind) :: r, h, acc, hz, x => by
   unfold pushCells cellsFrom
   by_cases hk : kind = .cell
   . subst hk
     rw [if_pos (by rfl), if_pos (by rfl)]
     have hx : CI cl z (h.push { cls := .type "cell", data := .cell none }) ((name, h.objs.size) :: acc) := by
      have lt : ∀ n c, acc.lookup n = some c -> c < h.objs.size := fun n c e => by
       rcases x.from' n c e with q | q
       . exact Nat.lt_of_lt_of_le (hcl n c q) hz
       . exact q.2.lt
      refine ⟨fun n c e => ?_, fun n n' c e e' => ?_⟩
      . rw [List.lookup_cons] at e
        split at e
        . cases e; exact .inr ⟨hz, _, Heap.get?_push_size _ rfl, rfl⟩
        . rcases x.from' n c e with q | q
          . exact .inl q
          . exact .inr ⟨q.1, q.2.keeps fun b o e => Heap.get?_push_of_some _ e⟩
      . rw [List.lookup_cons] at e e'
        split at e <;> split at e'
        . rename_i _ a _ b; rw [eq_of_beq a, eq_of_beq b]
        . cases e; exact absurd (lt n' _ e') (Nat.lt_irrefl _)
        . cases e'; exact absurd (lt n _ e) (Nat.lt_irrefl _)
        . exact x.inj n n' c e e'
     have ih := Av hcl r (h.push { cls := .type "cell", data := .cell none }) ((name, h.objs.size) :: acc) (by rw [Heap.size_push]; omega) hx
     rw [Heap.size_push] at ih
     refine ⟨ih.1, fun n q => ih.2.1 n ?_, fun n q => ih.2.2.1 n ?_, fun n c q e => ?_⟩
     . rw [List.lookup_cons]; split
       . rfl
       . exact q
     . rcases q with ⟨c, e, hc⟩ | q
       . left
         rw [List.lookup_cons]; split
         . exact ⟨_, rfl, hz⟩
         . exact ⟨c, e, hc⟩
       . rcases List.mem_cons.mp q with q | q
         . cases q; left; exact ⟨_, by simp [List.lookup_cons], hz⟩
         . exact .inr q
     . have := ih.2.2.2 n c (fun z => q (List.mem_cons_of_mem _ z)) e
       rw [List.lookup_cons] at this
       split at this
       . rename_i a; exact absurd (by rw [eq_of_beq a]; exact List.mem_cons_self) q
       . exact this
   . have hk' : (kind == NameKind.cell) = false := by simpa using hk
     rw [if_neg (by rw [hk']; decide), if_neg (by rw [hk']; decide)]
     have ih := Av hcl r h acc hz x
     refine ⟨ih.1, ih.2.1, fun n q => ih.2.2.1 n ?_, fun n c q e => ih.2.2.2 n c (fun z => q (List.mem_cons_of_mem _ z)) e⟩
     rcases q with q | q
     . exact .inl q
     . rcases List.mem_cons.mp q with q | q
       . cases q; exact absurd rfl hk
       . exact .inr q
structure yE (X : Cx) (scope : Scope) (z : Nat) (h : Heap) (cs : List (Str × Addr)) : Prop where
 from' : ∀ n c, cs.lookup n = some c -> X.env.cells.lookup n = some c \/ (z < c /\ h.IsCell c none)
 inj : ∀ n n' c, cs.lookup n = some c -> cs.lookup n' = some c -> n = n'
 has : ∀ n, (scope.names.lookup n = some .free \/ scope.names.lookup n = some .cell) -> ∃ c, cs.lookup n = some c
 fre : ∀ n c, scope.names.lookup n = some .free -> cs.lookup n = some c -> X.env.cells.lookup n = some c
 own : ∀ n c, scope.names.lookup n = some .cell -> cs.lookup n = some c -> z < c
theorem wW {M : Model} {A : Around} {E : Value -> Shared -> Prop} {X : Cx} {s : Shared} {scope : Scope} {N' : List Str} {n : Nat} {cl : List (Str × Addr)} {Q : Env -> Shared -> Prop} (ok : eE X scope N' n) (hlt : ∀ n c, X.env.cells.lookup n = some c -> c < s.heap.objs.size)
 (hinj : ∀ x y c, X.env.cells.lookup x = some c -> X.env.cells.lookup y = some c -> x = y)
 (hcl : ∀ n c, cl.lookup n = some c -> X.env.cells.lookup n = some c) (uK : ∀ n, (n, NameKind.free) ∈ scope.names -> (cl.lookup n).isSome)
 (hQ : ∀ cs h', h'.Ns s.heap.objs.size (fun _ => none) -> (∀ b o, s.heap.get? b = some o -> h'.get? b = some o) -> yE X scope s.heap.objs.size h' cs ->
  Q { scope := scope, locals := s.heap.objs.size, globals := X.env.globals, cells := cs, qual := X.env.qual, func := none, code := X.env.code, frame := X.env.frame, builtins := X.env.builtins } { s with heap := h' }) :
 wpAny M A (newFunctionEnv scope X.env.globals cl [] X.env.qual none .none (some X.env)) Q E s := by
 simp only [newFunctionEnv, Option.isSome_some, if_true]
 refine wpAny_bind (wpAny_alloc ?_)
 refine wpAny_bind (wpAny_layCells _ (fun name kind cells => by cases hkc : kind == NameKind.cell <;> simp [hkc]) _ _ _ _ ?_)
 have ck := Av (cl := cl) (z := s.heap.objs.size + 1) (fun n c e => Nat.lt_succ_of_lt (hlt n c (hcl n c e))) scope.names (s.heap.push { cls := .type "dict", data := .dict #[] }) cl (by rw [Heap.size_push]; exact Nat.le_refl _)
  ⟨fun n c e => .inl e, fun n n' c e e' => hinj n n' c (hcl n c e) (hcl n' c e')⟩
 obtain ⟨c1, c2, c3, c4⟩ := ck
 rw [show ({ s with heap := s.heap.push { cls := .type "dict", data := .dict #[] } } : Shared).heap.objs.size = (s.heap.push { cls := .type "dict", data := .dict #[] }).objs.size from rfl]
 refine wpAny_bind ?_
 rw [List.forIn_nil]
 refine wpAny_pure (wpAny_pure (hQ _ _ ((Heap.Ns.new s.heap (.type "dict")).keeps (pushCells_keeps _ _)) (fun b o e => pushCells_keeps _ _ b o (Heap.get?_push_of_some _ e)) ⟨fun n c e => ?_, c1.inj, fun n q => ?_, fun n c q e => ?_, fun n c q e => ?_⟩))
 . rcases c1.from' n c e with z | z
   . exact .inl (hcl n c z)
   . exact .inr ⟨z.1, z.2⟩
 . rcases q with q | q
   . exact Option.isSome_iff_exists.mp (c2 n (uK n (PySem.mem_of_lookup q)))
   . obtain ⟨c, e, _⟩ := c3 n (.inr (PySem.mem_of_lookup q))
     exact ⟨c, e⟩
 . refine hcl n c (c4 n c (fun z => ?_) e)
   have := ok.cons _ z
   rw [q] at this; cases this
 . obtain ⟨c', e', hc'⟩ := c3 n (.inr (PySem.mem_of_lookup q))
   rw [e] at e'; cases e'
   exact hc'
section
variable {X : Cx} {pins : List (Addr × Obj)} {σ : L2.St} {H : Hp} {s : Shared} {scope : Scope} {N' : List Str} {n : Nat} {fp : List Addr} {cl : List (Str × Addr)}
theorem zf {h1 : Heap} {m : Str -> Option Value} {t : Nat} {cs : List (Str × Addr)} (ok : eE X scope N' n) (I : Inv X pins σ H s) (hf : ∀ b ∈ fp, mQ X pins H b /\ b < s.heap.objs.size) (bc : yE X scope s.heap.objs.size h1 cs)
 (hn : h1.Ns s.heap.objs.size m) (old : ∀ b u, s.heap.get? b = some u -> h1.get? b = some u) :
 Inv (qT X scope N' cs s.heap.objs.size s H fp) [] (σ ++ List.replicate n none) H { s with heap := h1, toks := t } := by
 have QL : ∀ x, scope.names.lookup x = some .free -> (relabel scope X.env).names.lookup x = some .cell \/ (relabel scope X.env).names.lookup x = some .free := fun x h => by
  have e := cN (env := X.env) scope.names x
  rw [h] at e
  have e' : (relabel scope X.env).names.lookup x = _ := e
  rw [e']
  simp only [Option.map_some]
  split
  . exact .inl rfl
  . exact .inr rfl
 refine ⟨⟨I.ok.mod, ok.kind, I.ok.glob, I.ok.blt, Nat.le_refl _, fun x y c h1 h2 => bc.inj x y c h1 h2, fun x hx => ?_, fun x c h e => Nat.le_of_lt (bc.own x c (eq_of_beq (show (scope.names.lookup x == some NameKind.cell) = true from h)) e), I.ok.hd, I.ok.frames, .inl rfl, fun b hb => ?_, I.bs, Nat.le_trans I.ok.Gi I.sz, fun b u e hb => ?_, fun b hb hfs => ?_, I.stack, I.vH⟩,
  rfl, I.bare, Un.kept old, ⟨m, hn, fun i x v e1 e2 hv => ?_⟩, fun x c e => ?_, I.hok.fresh (Nat.le_refl _), fun x c e => ?_, fun p hp => (by cases hp), I.hok.kept old, ?_⟩
 . -- a QM name has its cell
   have hx : (relabel scope X.env).names.lookup x = some .cell \/ (relabel scope X.env).names.lookup x = some .free := hx
   have e := cN (env := X.env) scope.names x
   have e' : (relabel scope X.env).names.lookup x = _ := e
   rw [e'] at hx
   refine bc.has x ?_
   cases q : scope.names.lookup x with
   | none => rw [q] at hx; simp at hx
   | some k =>
     rw [q] at hx
     by_cases hk : k = .free
     . rw [hk]; exact .inl rfl
     . have hk' : (k == NameKind.free) = false := by simpa using hk
       simp only [Option.map_some, hk', Bool.false_and, Bool.false_eq_true, if_false, Option.some.injEq] at hx
       rcases hx with rfl | rfl
       . exact .inr rfl
       . exact absurd rfl hk
 . obtain ⟨f, lt⟩ := hf b hb
   refine ⟨Nat.ne_of_lt lt, fun x c e => ?_⟩
   rcases bc.from' x c e with e | e
   . exact f.2.2.2.2.1 x c e
   . rintro rfl; exact absurd (Nat.lt_trans e.1 lt) (Nat.lt_irrefl _)
 . obtain ⟨f, lt⟩ := hf b hb
   rcases f.2.2.2.1 with h | h
   . exact I.ok.Aw b u e h
   . have this : b < X.base.objs.size := Heap.lt_size e
     exact absurd (Nat.lt_of_lt_of_le this (Nat.le_trans I.ok.Gi h)) (Nat.lt_irrefl _)
 . obtain ⟨f, lt⟩ := hf b hb
   rcases List.mem_cons.mp (I.o8 b hfs) with h | h
   . exact f.2.1 h
   . exact f.2.2.1 h
 . -- the names
   have hi : i < σ.length := by
    by_cases hi : i < σ.length
    . exact hi
    . rw [List.getElem?_append_right (by omega), List.getElem?_replicate] at e2
      split at e2 <;> cases e2
   rw [List.getElem?_append_left hi] at e2
   obtain ⟨h1', h2'⟩ := ok.get (by rw [<- I.len]; exact hi) e1 hv
   have hk := ok.cap (x, .free) (PySem.mem_of_lookup h2') rfl
   obtain ⟨m0, hn0, hl⟩ := I.loc
   obtain ⟨u, r, l⟩ := hl i x v h1' e2 (.inr hk)
   refine ⟨u, r, .inr ⟨QL x h2', ?_⟩⟩
   rcases l with ⟨hk', _⟩ | ⟨_, c, hc, hcell⟩
   . have hk' : X.env.scope.names.lookup x = some .local := hk'
     rcases hk with hk | hk <;> (rw [hk'] at hk; cases hk)
   . obtain ⟨c', hc'⟩ := bc.has x (.inl h2')
     have := bc.fre x c' h2' hc'
     rw [hc] at this; cases this
     refine ⟨c, hc', ?_⟩
     obtain ⟨oc, e3, e4⟩ := hcell
     exact ⟨oc, old c oc e3, e4⟩
 . rcases bc.from' x c e with e | e
   . obtain ⟨v, oc, e3, e4⟩ := I.cell x c e
     exact ⟨v, oc, old c oc e3, e4⟩
   . exact ⟨_, e.2⟩
 . rcases bc.from' x c e with e | e
   . exact I.iI x c e
   . exact I.hok.fresh (Nat.le_of_lt e.1)
 . show (σ ++ List.replicate n none).length = N'.length
   rw [List.length_append, List.length_replicate, I.len, ok.len]
theorem pO {prog : Program} {w : World} {A : Around} {R : Result -> Shared -> Prop} {elt target iter : Expr} {ifs : List Expr} {scope : Scope} {pos : Pos} {it acc : Value} {env : Env} (I : Nat -> Shared -> Prop)
 (turn : ∀ n s, I n s -> wpAny (model prog w) A (pyNext it) (fun r s₁ => match r with
  | none => R (.ok .next) s₁
  | some v => wpAny (model prog w) A (letOwnedTupleGo target it v) (fun _ s₁ => wpAny (model prog w) A (assign target env v) (fun _ s₂ =>
   wpAny (model prog w) A (forIn ifs true fun c r => if r = true then do let ok <- isTrue c env (eval c env); pure (ForInStep.yield ok) else pure (ForInStep.yield r)) (fun ok s₃ =>
    if ok = true then wpAny (model prog w) A (eval elt env) (fun x s₄ =>
     wpAny (model prog w) A (call (.builtin "list.append") [acc, x]) (fun _ s₅ => ∃ m, m < n /\ I m s₅) (notedBy (model prog w) A env fun e s' => R (.error e) s') s₄) (notedBy (model prog w) A env fun e s' => R (.error e) s') s₃
    else ∃ m, m < n /\ I m s₃) (notedBy (model prog w) A env fun e s' => R (.error e) s') s₂) (notedBy (model prog w) A env fun e s' => R (.error e) s') s₁) (notedBy (model prog w) A env fun e s' => R (.error e) s') s₁) (notedBy (model prog w) A env fun e s' => R (.error e) s') s)
 (n : Nat) {s : Shared} (h : I n s) :
 codeAny (model prog w) A (.compLoop (.ListComp elt [⟨target, iter, ifs, 0⟩] scope pos) 0 it acc env) R s := by
 refine codeAny_loop rfl I (fun n s hI => ?_) n h
 show wpAny _ A ((compTurn (.ListComp elt [⟨target, iter, ifs, 0⟩] scope pos) 0 it acc env).onRaise (fun x => do noteFrame x env; theTreesLotGoes x)) _ _ s
 refine wpAny_noted ?_
 rw [compTurn_list]
 refine wpAny_bind (wpAny_standAt (wpAny_bind (wpAny_mono (turn n s hI) (fun r s₁ h₁ => ?_) fun _ _ h' => h')))
 cases r with
 | none => exact wpAny_pure h₁
 | some v =>
   refine wpAny_bind (wpAny_mono h₁ (fun _ s₁ h₁ => ?_) fun _ _ h' => h')
   refine wpAny_bind (wpAny_mono h₁ (fun _ s₂ h₂ => wpAny_bind (wpAny_mono h₂ (fun ok s₃ h₃ => ?_) fun _ _ h' => h')) fun _ _ h' => h')
   cases ok with
   | false => exact wpAny_pure ⟨rfl, h₃⟩
   | true =>
     exact wpAny_bind (wpAny_bind (wpAny_mono h₃ (fun x s₄ h₄ => wpAny_bind (wpAny_mono h₄ (fun _ s₅ h₅ => wpAny_pure (wpAny_pure ⟨rfl, h₅⟩)) fun _ _ h' => h')) fun _ _ h' => h'))
noncomputable def Iv (X : Cx) (ifs : List Expr) (t : TT) : Prop :=
 ∀ (pins : List (Addr × Obj)) (s : Shared) (σ : L2.St) (H : Hp) (Q : Bool -> Hp -> Prop), Inv X pins σ H s -> t σ H Q ->
   wpAny (model X.prog X.w) X.A (forIn ifs true fun c r => if r = true then do let ok <- isTrue c X.env (eval c X.env); pure (ForInStep.yield ok) else pure (ForInStep.yield r)) (TP X pins σ Q) X.xe s
theorem Bx {X : Cx} : Iv X [] (fun _ H Q => Q true H) := fun pins s σ H Q I h => wpAny_tests_nil ⟨H, I, h⟩
theorem Cw {X : Cx} {c : Expr} {t : TT} (h : PT X c t) : Iv X [c] t := fun pins s σ H Q I q => wpAny_tests_one (h pins s σ H Q I q)
noncomputable def FP (J : It) (g : TG) (tt : TT) (te : TE) (D : Addr) (Q : Hp -> Prop) (W : Nat -> Nat -> List V -> L2.St -> Hp -> Prop) : Prop :=
 ∀ i m ys σ H, W i m ys σ H -> H D = some (.lst ys) /\ ((J.stop i H /\ Q H) \/ (J.go i H /\ ∀ x H2, J.J7 i H x H2 -> g x σ H2 fun σ3 H3 => tt σ3 H3 fun b H4 => if b = true then
   te σ3 H4 fun y H5 => H5 D = some (.lst ys) /\ ys.length < sizeLine /\ ∃ m', m' < m /\ W (i + 1) m' (ys ++ [y]) σ3 (upd H5 D (.lst (ys ++ [y]))) else ∃ m', m' < m /\ W (i + 1) m' ys σ3 H4))
theorem nU {E : Value -> Shared -> Prop} {elt target iter : Expr} {ifs : List Expr} {pos : Pos} {it : Addr} {tn : Nat -> Heap -> Prop} {J : It} {g : TG} {tt : TT} {te : TE} {Q : Addr -> Hp -> Prop} {RR : Value -> Addr -> Result -> Shared -> Prop}
 (hc : X.calm = true) (ok : eE X scope N' n) (I : Inv X pins σ H s) (hcl : ∀ n c, cl.lookup n = some c -> X.env.cells.lookup n = some c) (uK : ∀ n, (n, NameKind.free) ∈ scope.names -> (cl.lookup n).isSome)
 (T : Turn X.prog X.w X.K target J fp it tn) (h0 : tn 0 s.heap) (hf : ∀ b ∈ fp, mQ X pins H b)
 (hg : ∀ cl C s₀ H₀ ex, PG (qT X scope N' cl C s₀ H₀ ex) target g) (ht : ∀ cl C s₀ H₀ ex, Iv (qT X scope N' cl C s₀ H₀ ex) ifs tt) (he : ∀ cl C s₀ H₀ ex, PE (qT X scope N' cl C s₀ H₀ ex) elt te)
 (hw : ∀ D, H D = none -> ∃ W, (∃ m, W 0 m [] (σ ++ List.replicate n none) (upd H D (.lst []))) /\ FP J g tt te D (Q D) W)
 (hRR : ∀ D C s' H', Q D H' -> (∃ m, s'.heap.Ns C m) -> mQ X pins H' C -> Inv X pins σ H' s' -> RR (.ref D) C (.ok .next) s') :
 wpAny (model X.prog X.w) X.A (newList []) (fun acc s₃ => wpAny (model X.prog X.w) X.A (newFunctionEnv scope X.env.globals cl [] X.env.qual none .none (some X.env)) (fun cenv s₄ =>
  codeAny (model X.prog X.w) X.A (.compStart (.ListComp elt [⟨target, iter, ifs, 0⟩] scope pos) 0 (.ref it) acc { cenv with scope := relabel scope X.env }) (RR acc cenv.locals) s₄) E s₃) E s := by
 refine wpAny_newObj_type (wW ok (fun x c e => ?lt) I.ok.inj hcl uK (fun cs h₁ hns hold bc => ?_))
 case lt =>
  obtain ⟨v, z⟩ := I.cell x c e
  exact Nat.lt_of_lt_of_le z.lt (by show _ <= (s.heap.push _).objs.size; rw [Heap.size_push]; exact Nat.le_succ _)
 dsimp only at hns hold bc ⊢
 -- the new list, tracked
 have I3 : Inv X pins σ (upd H s.heap.objs.size (.lst [])) { s with heap := s.heap.push { cls := .type "list", data := .seq ([] : List Value).toArray } } := I.Ju (t' := s.toks) .nil (Nat.zero_le _)
 generalize hs3 : ({ s with heap := s.heap.push { cls := .type "list", data := .seq ([] : List Value).toArray } } : Shared) = s3 at I3
 have hsz : s3.heap.objs.size = s.heap.objs.size + 1 := by rw [<- hs3]; exact Heap.size_push _ _
 have Gn : s3.heap = s.heap.push { cls := .type "list", data := .seq ([] : List Value).toArray } := by rw [<- hs3]
 obtain ⟨W, ⟨m0, w0⟩, turn⟩ := hw s.heap.objs.size I.fresh
 have Yo : ∀ {h' : Heap}, (∀ b o, s.heap.get? b = some o -> h'.get? b = some o) -> tn 0 h' := fun k => T.keep _ _ _ h0 fun b hb o e => k b o e
 have Sw : ∀ b ∈ fp, mQ X pins (upd H s.heap.objs.size (.lst [])) b /\ b < s3.heap.objs.size := fun b hb => by
  obtain ⟨o, e, _⟩ := T.obj 0 _ h0 b hb
  have lt := Heap.lt_size e
  obtain ⟨f1, f2⟩ := hf b hb
  exact ⟨⟨by rw [aC (Nat.ne_of_lt lt)]; exact f1, f2⟩, by rw [hsz]; exact Nat.lt_succ_of_lt lt⟩
 rw [<- Gn] at hns hold bc ⊢
 have I4 := zf (t := s3.toks) ok I3 Sw bc hns hold
 have QQ : ∀ b o, s.heap.get? b = some o -> h₁.get? b = some o := fun b o e => hold b o (by rw [Gn]; exact Heap.get?_push_of_some _ e)
 generalize hX : qT X scope N' cs s3.heap.objs.size s3 (upd H s.heap.objs.size (.lst [])) fp = X' at I4
 have hA : X'.A = X.A := by rw [<- hX]; rfl
 have hpr : X'.prog = X.prog := by rw [<- hX]; rfl
 have hwr : X'.w = X.w := by rw [<- hX]; rfl
 have hKK : X'.K = X.K := by rw [<- hX]; rfl
 have hcalm : X'.calm = true := by rw [<- hX]; exact hc
 have hxe : X'.xe = fun _ _ => False := by rw [<- hX]; rfl
 have henv : X'.env = compEnvC scope cs s3.heap.objs.size X.env := by rw [<- hX]; rfl
 have hg' : PG X' target g := by rw [<- hX]; exact hg _ _ _ _ _
 have ht' : Iv X' ifs tt := by rw [<- hX]; exact ht _ _ _ _ _
 have he' : PE X' elt te := by rw [<- hX]; exact he _ _ _ _ _
 have ff : ∀ {H' : Hp} {b : Addr}, b ∈ fp -> H' b = none -> mQ X' [] H' b := fun {H' b} hb hn => by
  obtain ⟨f, lt⟩ := Sw b hb
  rw [<- hX]
  refine ⟨hn, Nat.ne_of_lt lt, fun hfs => ?_, .inl hb, fun x c e => ?_, fun p hp => by cases hp⟩
  . rcases List.mem_cons.mp (I3.o8 b hfs) with h | h
    . exact f.2.1 h
    . exact f.2.2.1 h
  . rcases bc.from' x c e with e | e
    . exact f.2.2.2.2.1 x c e
    . rintro rfl; exact absurd (Nat.lt_trans e.1 lt) (Nat.lt_irrefl _)
 -- behind the block
 have fin : ∀ {σ' : L2.St} {H' : Hp} {s' : Shared}, Inv X' [] σ' H' s' -> Q s.heap.objs.size H' -> RR (.ref s.heap.objs.size) s3.heap.objs.size (.ok .next) s' := fun {σ' H' s'} J' q => by
  rw [<- hX] at J'
  have hC : H' s3.heap.objs.size = none := J'.free
  obtain ⟨hh, gg, dd, tt', os'⟩ := s'
  have eos : os' = s3.os := J'.os
  subst eos
  refine hRR _ _ _ H' q (let ⟨m, hm, _⟩ := J'.loc; ⟨m, hm⟩) ?_ (I3.call (h' := hh) (g' := gg) (d' := dd) (t' := tt') (ch := fp) J'.base J'.hok J'.bare fun b hb => ?_)
  . exact I3.Dv (Nat.le_refl _) hC
  . obtain ⟨f, lt⟩ := Sw b hb
    exact ⟨f.2.2.2.1, f.2.1, f.2.2.2.2.1, f.2.2.2.2.2⟩
 have main : codeAny (model X.prog X.w) X.A (.compLoop (.ListComp elt [⟨target, iter, ifs, 0⟩] scope pos) 0 (.ref it) (.ref s.heap.objs.size) X'.env) (RR (.ref s.heap.objs.size) s3.heap.objs.size) { s3 with heap := h₁, toks := s3.toks } := by
  refine pO (fun k s' => ∃ i ys σ' H', Inv X' [] σ' H' s' /\ tn i s'.heap /\ (∀ b ∈ fp, H' b = none) /\ W i k ys σ' H') (fun k s5 hI => ?_) m0 ⟨0, [], _, _, I4, Yo QQ, fun b hb => (Sw b hb).1.1, w0⟩
  obtain ⟨i, ys, σ5, H5, I5, t5, f5, w5⟩ := hI
  obtain ⟨hD, hturn⟩ := turn i k ys σ5 H5 w5
  have Sy : ∀ {Z : Value -> Shared -> Prop}, ∀ (e : Value) (s' : Shared), X'.xe e s' -> Z e s' := fun e s' z => by rw [hxe] at z; exact False.elim z
  rcases hturn with ⟨stop, q⟩ | ⟨go, step⟩
  . have z := T.done X' hpr hwr hKK hcalm i [] s5 σ5 H5 (fun _ _ => False) I5 (fun b hb => ff hb (f5 b hb)) t5 stop
    rw [hA] at z
    refine wpAny_mono z (?_) fun _ _ z => False.elim z
    rintro r s6 ⟨hr, I6⟩
    subst hr
    exact fin I6 q
  . have z := T.item X' hpr hwr hKK hcalm i [] s5 σ5 H5 (fun _ _ => False) I5 (fun b hb => ff hb (f5 b hb)) t5 go
    rw [hA] at z
    refine wpAny_mono z (?_) fun _ _ z => False.elim z
    rintro r s6 ⟨u, hr, z6⟩
    subst hr
    refine wpAny_mono z6 (?_) fun _ _ z => False.elim z
    rintro _ s7 ⟨x, H7, I7, r7, y7, t7, f7⟩
    have I7' := I7.pinned (fun b hb => ff hb (f7 b hb)) (T.obj _ _ t7)
    -- what the pins keep
    have back : ∀ {σ' : L2.St} {H' : Hp} {s' : Shared}, Inv X' ([] ++ lV fp s7.heap) σ' H' s' -> Inv X' [] σ' H' s' /\ tn (i + 1) s'.heap /\ ∀ b ∈ fp, H' b = none := fun {σ' H' s'} J' => by
     refine ⟨J'.jk, T.keep _ _ _ t7 fun b hb o e => (J'.pin (b, o) (List.mem_append_right _ (List.mem_append_right _ (fK hb e)))).1, fun b hb => ?_⟩
     obtain ⟨o, e, _⟩ := T.obj _ _ t7 b hb
     exact (J'.pin (b, o) (List.mem_append_right _ (List.mem_append_right _ (fK hb e)))).2.1
    have z7 := hg' _ s7 σ5 H7 x u _ I7' r7 (step x H7 y7)
    rw [hA, hpr, hwr] at z7
    refine wpAny_mono z7 (?_) Sy
    rintro _ s8 ⟨σ8, H8, I8, q8⟩
    have z8 := ht' _ s8 σ8 H8 _ I8 q8
    rw [hA, hpr, hwr] at z8
    refine wpAny_mono z8 (?_) Sy
    rintro b s9 ⟨H9, I9, q9⟩
    cases b with
    | false =>
      rw [if_neg Bool.false_ne_true] at q9 ⊢
      obtain ⟨m', hm, w'⟩ := q9
      obtain ⟨b1, b2, b3⟩ := back I9
      exact ⟨m', hm, i + 1, ys, σ8, H9, b1, b2, b3, w'⟩
    | true =>
      rw [if_pos rfl] at q9 ⊢
      have z9 := he' _ s9 σ8 H9 _ I9 q9
      rw [hA, hpr, hwr] at z9
      refine wpAny_mono z9 (?_) Sy
      rintro y sX ⟨yv, Yp, I10, r10, WD, hlen, m', hm, w'⟩
      have Yq := oE _ sX σ8 Yp (.ref s.heap.objs.size) [yv] (.ref s.heap.objs.size) [y] (fun v Yr => Yr = upd Yp s.heap.objs.size (.lst (ys ++ [yv]))) I10 rfl (.cons r10 .nil) ⟨_, ys, yv, rfl, rfl, WD, hlen, rfl⟩
      rw [hA, hpr, hwr] at Yq
      refine wpAny_mono Yq (?_) Sy
      rintro _ ud ⟨_, Yr, I11, _, e11⟩
      subst e11
      obtain ⟨b1, b2, b3⟩ := back I11
      exact ⟨m', hm, i + 1, ys ++ [yv], σ8, _, b1, b2, b3, w'⟩
 have e3 : ({ s3 with heap := h₁, toks := s3.toks } : Shared) = { s with heap := h₁ } := by rw [<- hs3]
 rw [henv, e3] at main
 exact codeAny_compStart_list main (T.self _ 0 _ _ _ (Yo QQ) main)
end
end L2
end
section
namespace L2
open PySem PySem.Spec PyProof.Rows
section
variable {X : Cx} {elt target iter : Expr} {ifs : List Expr} {scope : Scope} {pos : Pos} {N' : List Str} {n : Nat} {wi : TI} {g : TG} {tt : TT} {te : TE}
noncomputable def vU (n : Nat) (wi : TI) (g : TG) (tt : TT) (te : TE) : TE := fun σ H Q => wi σ H fun J H1 => ∀ D, H1 D = none -> ∃ W, (∃ m, W 0 m [] (σ ++ List.replicate n none) (upd H1 D (.lst []))) /\ FP J g tt te D (fun H' => Q (.ref D) H') W
theorem jw {pins : List (Addr × Obj)} {σ : L2.St} {H : Hp} {s : Shared} (I : Inv X pins σ H s) (ok : eE X scope N' n) :
 ∃ cl, closureFor scope X.env = pure cl /\ (∀ n c, cl.lookup n = some c -> X.env.cells.lookup n = some c) /\ ∀ n, (n, NameKind.free) ∈ scope.names -> (cl.lookup n).isSome :=
 uG fun m hm => I.ok.has m (ok.cap (m, .free) hm rfl)
theorem DQ (hc : X.calm = true) (ok : eE X scope N' n) (hi : PI X target iter wi)
 (hg : ∀ cl C s₀ H₀ ex, PG (qT X scope N' cl C s₀ H₀ ex) target g) (ht : ∀ cl C s₀ H₀ ex, Iv (qT X scope N' cl C s₀ H₀ ex) ifs tt) (he : ∀ cl C s₀ H₀ ex, PE (qT X scope N' cl C s₀ H₀ ex) elt te)
 (hs : ∀ x, foldedSetIterable iter X.env x = pure x := by intro _; rfl) : PE X (.ListComp elt [⟨target, iter, ifs, 0⟩] scope pos) (vU n wi g tt te) := by
 intro pins s σ H Q I h
 obtain ⟨cl, hclos, hcl, uK⟩ := jw I ok
 rw [eval_ListComp]
 refine wpAny_comprehension_free (use := none) rfl hs hclos ok.kind ok.names (cJ (hi pins s σ H _ I h) fun v s1 h1 => cJ h1 fun itv s2 h2 => ?_)
 obtain ⟨it, fp, tn, J, H2, rfl, I2, T, t0, f2, hw⟩ := h2
 refine nU (Q := fun D H' => Q (.ref D) H') (RR := fun acc C => compPost (model X.prog X.w) X.A X.xe none (EP X pins σ Q) acc C) hc ok I2 hcl uK T t0 f2 hg ht he hw fun D C s' H' q hm xT I' => ?_
 obtain ⟨m, hm⟩ := hm
 refine ⟨m, hm, fun h' hs' => ⟨.ref D, H', ?_, rfl, q⟩⟩
 exact I'.turned (t' := s'.toks) (fun b o hb e => hs'.extBut b o hb e) xT.1 xT.2.1 xT.2.2.2.1 xT.2.2.2.2.1 xT.2.2.2.2.2
theorem Dq {i : Nat} {x : Str} {pos' spos : Pos} (hc : X.calm = true) (hN : X.N.Nodup) (hx0 : X.N[i]? = some x) (hx : Loc X.env.scope x) (ok : eE X scope N' n) (hi : PI X target iter wi)
 (hg : ∀ cl C s₀ H₀ ex, PG (qT X scope N' cl C s₀ H₀ ex) target g) (ht : ∀ cl C s₀ H₀ ex, Iv (qT X scope N' cl C s₀ H₀ ex) ifs tt) (he : ∀ cl C s₀ H₀ ex, PE (qT X scope N' cl C s₀ H₀ ex) elt te)
 (hsw : swapsWith (.ListComp elt [⟨target, iter, ifs, 0⟩] scope pos) (some (.Name x pos')) spos.line X.env = pure true)
 (hs : ∀ x, foldedSetIterable iter X.env x = pure x := by intro _; rfl) (hf : X.fn x = true \/ X.env.scope.names.lookup x = some .local := by first | exact .inl rfl | exact .inr rfl | assumption) :
 PS X (.Assign [.Name x pos'] (.ListComp elt [⟨target, iter, ifs, 0⟩] scope pos) spos) (Hc (vU n wi g tt te) (mJ i)) := by
 intro pins s σ H D I h
 obtain ⟨cl, hclos, hcl, uK⟩ := jw I ok
 rw [exec_Assign_Name_used _ _ _ _ hsw]
 refine wpAny_bind (wpAny_standAt (wpAny_bind ?_))
 show wpAny _ X.A (do let _ <- comprehension (.ListComp elt [⟨target, iter, ifs, 0⟩] scope pos) scope X.env _ (newList []) false (eval iter X.env) (some (assign (.Name x pos') X.env))) _ _ s
 refine wpAny_bind (wpAny_mono (wpAny_comprehension_free (use := some (assign (.Name x pos') X.env)) (Q := fun _ s' => SP X pins D .next s') rfl hs hclos ok.kind ok.names
  (cJ (hi pins s σ H _ I h) fun v s1 h1 => cJ h1 fun itv s2 h2 => ?_)) (fun _ s' hq => wpAny_pure (wpAny_pure hq)) fun _ _ e => e)
 obtain ⟨it, fp, tn, J, H2, rfl, I2, T, t0, f2, hw⟩ := h2
 refine nU (Q := fun Da H' => D.nx (σ.set i (some (.ref Da))) H') (RR := fun acc C => compPost (model X.prog X.w) X.A X.xe (some (assign (.Name x pos') X.env)) (fun _ s' => SP X pins D .next s') acc C) hc ok I2 hcl uK T t0 f2 hg ht he hw fun Da C s' H' q hm xT I' => ?_
 obtain ⟨m, hm⟩ := hm
 show wpAny _ X.A (assign (.Name x pos') X.env (.ref Da)) _ _ _
 refine wpAny_assign_Name (nP I' hN hx0 hx (show RelV (.ref Da) (.ref Da) from rfl) (?_) hf)
 rintro s'' I'' ⟨a, sb, ha⟩
 have hCa : C ≠ a := by
  rcases ha with rfl | ha
  . exact xT.2.1
  . exact fun z => xT.2.2.2.2.1 x a ha z.symm
 refine ⟨m, hm.sameBut sb hCa, fun h' hs' => ⟨_, H', ?_, q⟩⟩
 exact I''.turned (t' := s''.toks) (fun b o hb e => hs'.extBut b o hb e) xT.1 xT.2.1 xT.2.2.2.1 xT.2.2.2.2.1 xT.2.2.2.2.2
noncomputable def U9 (K : PySem.W.Frag) (tl : TE) : TI := fun σ H R => tl σ H fun x H1 => ∃ a, x = .ref a /\ (((∃ xs, dW K H1 a xs) /\ R (JK K a) H1) \/ ((∃ xs, iG K H1 a xs) /\ R (KY K a) H1))
theorem uv {tg l : Expr} {tl : TE} (hl : PE X l tl) : PI X tg l (U9 X.K tl) := by
 intro pins s σ H R I h
 refine cJ (hl pins s σ H _ I h) ?_
 rintro v s1 ⟨x, H1, I1, r1, q1⟩
 obtain ⟨a, e, q1⟩ := q1
 subst e
 cases r1
 rcases q1 with ⟨⟨xs, hq⟩, q⟩ | ⟨⟨xs, hq⟩, q⟩
 . obtain ⟨its, rv, p, hz⟩ := I1.list hq
   refine wpAny_pyIter_list p.isList ?_
   refine ⟨s1.heap.objs.size, [s1.heap.objs.size], _, _, H1, rfl, I1.kept (t' := s1.toks) fun b o e => Heap.get?_push_of_some _ e, wO a _, ⟨_, Heap.get?_push_size _ rfl, rfl, rfl⟩, fun b hb => ?_, q⟩
   have e : b = s1.heap.objs.size := by simpa using hb
   subst e
   exact I1.Dv (Nat.le_refl _) (I1.hok.fresh (Nat.le_refl _))
 . obtain ⟨its, rv, p, hz⟩ := I1.tuple hq
   refine wpAny_pyIter_tuple (show s1.heap.IsTuple a its.toArray from p) ?_
   refine ⟨s1.heap.objs.size, [s1.heap.objs.size], _, _, H1, rfl, I1.kept (t' := s1.toks) fun b o e => Heap.get?_push_of_some _ e, uA a _, ⟨_, Heap.get?_push_size _ rfl, rfl, rfl⟩, fun b hb => ?_, q⟩
   have e : b = s1.heap.objs.size := by simpa using hb
   subst e
   exact I1.Dv (Nat.le_refl _) (I1.hok.fresh (Nat.le_refl _))
end
end L2
end
section
namespace HH
open PySem L2 PySem.Spec PyProof.Rows
structure Walk (K : PySem.W.Frag) (F : Hp) (ρ : List Sl) (σ : L2.St) (H : Hp) (ul : List Sl -> List Sl) (J : It) (ds : List D) (F1 : Hp) (ρ1 : List Sl) (H1 : Hp) : Prop where
 gs : GS K F1 ρ1 σ H1
 src : ∀ (n k : Nat) (F' : Hp) (ρ' : List Sl) (σ' : L2.St) (H' : Hp), bB K F1 (ρ1 ++ List.replicate n .aX) (σ ++ List.replicate n none) H1 F' ρ' σ' H' ->
  (∀ d, ds[k]? = some d -> J.go k H' /\ ∀ x wz, J.J7 k H' x wz -> ∃ F'', Ext F' H' F'' wz /\ Rep K F'' x d) /\ (ds.length <= k -> J.stop k H')
 fin : ∀ F2 ρ2 σ2 H2, bB K F1 ρ1 σ H1 F2 ρ2 σ2 H2 -> bB K F ρ σ H F2 (ul ρ2) σ2 H2 /\ ∀ v r, bO K F2 ρ2 σ2 H2 ρ1 σ H1 v r -> bO K F2 (ul ρ2) σ2 H2 ρ σ H v r
inductive Xa (K : PySem.W.Frag) (iv : Option Nat) (f : Ev) (σ : L2.St) (H : Hp) (R : It -> Hp -> Prop) : Prop where
 | mk (F : Hp) (ρ : List Sl) (ds : List D) (ρ1 : List Sl) (g : GS K F ρ σ H) (e : srcOf iv f ρ = .ok ds ρ1) (k : ∀ J F1 H1, Walk K F ρ σ H (aR ρ iv) J ds F1 ρ1 H1 -> R J H1)
section
variable {K : PySem.W.Frag} {F F1 H H1 : Hp} {ρ ρ1 : List Sl} {σ : L2.St} {ds : List D} {a : Addr}
theorem DK {xs : List V} {F' H' : Hp} (hq : iG K H' a xs) (r : az K F' xs ds) (s : aK F' H') (k : Nat) :
 (∀ d, ds[k]? = some d -> (KY K a).go k H' /\ ∀ x wz, (KY K a).J7 k H' x wz -> ∃ F'', Ext F' H' F'' wz /\ Rep K F'' x d) /\ (ds.length <= k -> (KY K a).stop k H') := by
 refine ⟨fun d hd => ?_, fun h => ⟨xs, hq, by rw [r.length]; exact h⟩⟩
 obtain ⟨w, h1, h2⟩ := r.get hd
 refine ⟨⟨xs, w, hq, h1⟩, ?_⟩
 rintro x wz ⟨e, y⟩
 subst e
 have := y xs hq
 rw [h1] at this; cases this
 exact ⟨F', .refl s, h2⟩
theorem qt {xs : List V} {F' H' : Hp} (hq : dW K H' a xs) (r : az K F' xs ds) (s : aK F' H') (k : Nat) :
 (∀ d, ds[k]? = some d -> (JK K a).go k H' /\ ∀ x wz, (JK K a).J7 k H' x wz -> ∃ F'', Ext F' H' F'' wz /\ Rep K F'' x d) /\ (ds.length <= k -> (JK K a).stop k H') := by
 refine ⟨fun d hd => ?_, fun h => ⟨xs, hq, by rw [r.length]; exact h⟩⟩
 obtain ⟨w, h1, h2⟩ := r.get hd
 refine ⟨⟨xs, w, hq, h1⟩, ?_⟩
 rintro x wz ⟨e, y⟩
 subst e
 have := y xs hq
 rw [h1] at this; cases this
 exact ⟨F', .refl s, h2⟩
theorem sH {ul : List Sl -> List Sl} {v : V} {d : D} (s : bB K F ρ σ H F1 ρ1 σ H1) (r : Rep K F1 v d) (hi : items d = some ds)
 (fin : ∀ F2 ρ2 σ2 H2, bB K F1 ρ1 σ H1 F2 ρ2 σ2 H2 -> bB K F ρ σ H F2 (ul ρ2) σ2 H2 /\ ∀ v r, bO K F2 ρ2 σ2 H2 ρ1 σ H1 v r -> bO K F2 (ul ρ2) σ2 H2 ρ σ H v r) :
 ∃ a, v = .ref a /\ (((∃ xs, dW K H1 a xs) /\ Walk K F ρ σ H ul (JK K a) ds F1 ρ1 H1) \/ ((∃ xs, iG K H1 a xs) /\ Walk K F ρ σ H ul (KY K a) ds F1 ρ1 H1)) := by
 cases d with
 | tup es =>
   cases hi
   rw [Rep] at r
   obtain ⟨a, xs, rfl, h1, h2⟩ := r
   exact ⟨a, rfl, .inr ⟨⟨xs, aK.iT s.gs.sub h1⟩, s.gs, fun n k F' ρ' σ' H' s' => DK (aK.iT s'.gs.sub (aK.iT s'.cW h1)) (h2.mono s'.cW) s'.gs.sub k, fin⟩⟩
 | lst es =>
   cases hi
   rw [Rep] at r
   obtain ⟨a, xs, rfl, h1, h2⟩ := r
   exact ⟨a, rfl, .inl ⟨⟨xs, s.gs.sub.seq h1⟩, s.gs, fun n k F' ρ' σ' H' s' => qt (s'.gs.sub.seq (s'.cW.seq h1)) (h2.mono s'.cW) s'.gs.sub k, fin⟩⟩
 | _ => cases hi
theorem oH {i : Nat} {ul : List Sl -> List Sl} (g : GS K F ρ1 σ H) (e : ρ1[i]? = some (.lent ds))
 (fin : ∀ F2 ρ2 σ2 H2, bB K F ρ1 σ H F2 ρ2 σ2 H2 -> bB K F ρ σ H F2 (ul ρ2) σ2 H2 /\ ∀ v r, bO K F2 ρ2 σ2 H2 ρ1 σ H v r -> bO K F2 (ul ρ2) σ2 H2 ρ σ H v r) :
 ∃ a, σ[i]? = some (some (.ref a)) /\ (∃ xs, dW K H a xs) /\ Walk K F ρ σ H ul (JK K a) ds F ρ1 H := by
 obtain ⟨a, xs, h1, h2, h3, h4⟩ := g.m9 i _ ds e rfl
 have hi : i < ρ1.length := (List.getElem?_eq_some_iff.mp e).1
 refine ⟨a, h1, ⟨xs, dW.of h2⟩, g, fun n k F' ρ' σ' H' s' => ?_, fin⟩
 obtain ⟨z1, t, z2, z3⟩ := s'.lk i _ (by rw [List.getElem?_append_left hi]; exact e) rfl
 cases (show t = .lent ds from z3)
 rw [List.getElem?_append_left (by rw [<- g.len]; exact hi), h1] at z1
 obtain ⟨a', ys, w1, w2, w3, w4⟩ := s'.gs.m9 i _ ds z2 rfl
 rw [z1] at w1; cases w1
 exact qt (dW.of w2) w4 s'.gs.sub k
end
section
variable {X : Cx} {c : Call} {n : Nat} {e a b d tg : Expr} {p pa pb pd : P} {pos : Pos}
theorem vo {t t' : TI} (h : PI X tg e t) (i : ∀ σ H R, t' σ H R -> t σ H R) : PI X tg e t' := fun pins s σ H R I q => h pins s σ H R I (i σ H R q)
noncomputable def SI (X : Cx) (c : Call) (tg e : Expr) (p : P) : Prop := PI X tg e (Xa X.K (isVar p) (HH.ev c p))
theorem cF (h : SX X c e p) : SI X c tg e p := by
 unfold SI
 cases hv : isVar p with
 | none =>
   refine vo (uv h.ev) ?_
   rintro σ H R ⟨F, ρ, ds, ρ1, g, e, k⟩
   obtain ⟨r, ρ2, e1, e2⟩ := ak e
   have zz := aF e2; clear e2; obtain ⟨e2, e3⟩ := zz
   subst e3
   refine ⟨F, ρ, r, _, g, e1, fun v F' H' s rr => ?_⟩
   obtain ⟨F2, s2, _, rp⟩ := s.gR rr
   obtain ⟨a, ha, hw⟩ := sH (ul := aR ρ none) s2 rp e2 fun F3 ρ3 σ3 H3 s3 => ⟨s2.trans s3, fun v r rr => rr.later s2⟩
   exact ⟨a, ha, hw.imp (fun ⟨z, w⟩ => ⟨z, k _ _ _ w⟩) (fun ⟨z, w⟩ => ⟨z, k _ _ _ w⟩)⟩
 | some i =>
   refine vo (uv (h.var i hv)) ?_
   rintro σ H R ⟨F, ρ, ds, ρ1, g, e, k⟩
   unfold srcOf at e
   dsimp only at e
   split at e
   . rename_i b d q
     have zz := aF e; clear e; obtain ⟨e2, e3⟩ := zz
     subst e3
     obtain ⟨v, h1, h2⟩ := g.val i b d q
     have fin : ∀ F2 ρ2 σ2 H2, bB X.K F ρ σ H F2 ρ2 σ2 H2 -> bB X.K F ρ σ H F2 (aR ρ (some i) ρ2) σ2 H2 /\ ∀ v r, bO X.K F2 ρ2 σ2 H2 ρ σ H v r -> bO X.K F2 (aR ρ (some i) ρ2) σ2 H2 ρ σ H v r := fun F2 ρ2 σ2 H2 s => by
      unfold aR; dsimp only; rw [q]; exact ⟨s, fun _ _ z => z⟩
     obtain ⟨a, ha, hw⟩ := sH (ul := aR ρ (some i)) (.refl g) h2 e2 fin
     exact ⟨v, h1, a, ha, hw.imp (fun ⟨z, w⟩ => ⟨z, k _ _ _ w⟩) (fun ⟨z, w⟩ => ⟨z, k _ _ _ w⟩)⟩
   . rename_i b ds' q
     cases e
     have hi : i < ρ.length := (List.getElem?_eq_some_iff.mp q).1
     have fin : ∀ F2 ρ2 σ2 H2, bB X.K F (ρ.set i (.lent ds)) σ H F2 ρ2 σ2 H2 -> bB X.K F ρ σ H F2 (aR ρ (some i) ρ2) σ2 H2 /\ ∀ v r, bO X.K F2 ρ2 σ2 H2 (ρ.set i (.lent ds)) σ H v r -> bO X.K F2 (aR ρ (some i) ρ2) σ2 H2 ρ σ H v r := fun F2 ρ2 σ2 H2 s => by
      unfold aR; dsimp only; rw [q]; exact bB.aR g q s
     obtain ⟨a, h1, hx, w⟩ := oH (ul := aR ρ (some i)) (g.lend q) (List.getElem?_set_self hi) fin
     exact ⟨_, h1, a, rfl, .inl ⟨hx, k _ _ _ w⟩⟩
   . rename_i ds' q
     cases e
     have fin : ∀ F2 ρ2 σ2 H2, bB X.K F ρ σ H F2 ρ2 σ2 H2 -> bB X.K F ρ σ H F2 (aR ρ (some i) ρ2) σ2 H2 /\ ∀ v r, bO X.K F2 ρ2 σ2 H2 ρ σ H v r -> bO X.K F2 (aR ρ (some i) ρ2) σ2 H2 ρ σ H v r := fun F2 ρ2 σ2 H2 s => by
      unfold aR; dsimp only; rw [q]; exact ⟨s, fun _ _ z => z⟩
     obtain ⟨a, h1, hx, w⟩ := oH (ul := aR ρ (some i)) g q fin
     exact ⟨_, h1, a, rfl, .inl ⟨hx, k _ _ _ w⟩⟩
   . cases e
theorem sG {K : PySem.W.Frag} {F F1 H H1 : Hp} {ρ ρ1 : List Sl} {σ : L2.St} (s : bB K F ρ σ H F1 ρ1 σ H1) (i j : Int) : Walk K F ρ σ H (aR ρ none) (M9 i (j - i).toNat) ((List.range (j - i).toNat).map fun (k : Nat) => D.int (i + (k : Int))) F1 ρ1 H1 := by
 refine ⟨s.gs, fun n k F' ρ' σ' H' s' => ⟨fun d hd => ?_, fun h => ?_⟩, fun F3 ρ3 σ3 H3 s3 => ⟨s.trans s3, fun v r rr => rr.later s⟩⟩
 . rw [List.getElem?_map] at hd
   obtain ⟨m, e1, e2⟩ := map_some hd
   obtain ⟨h1, h2⟩ := List.getElem?_eq_some_iff.mp e1
   rw [List.getElem_range] at h2
   subst h2; subst e2
   rw [List.length_range] at h1
   refine ⟨h1, ?_⟩
   rintro x wz ⟨q1, q2⟩
   subst q1; subst q2
   exact ⟨F', .refl s'.gs.sub, cA _⟩
 . rw [List.length_map, List.length_range] at h; exact h
theorem ju {x : Str} {p' : Pos} (hx : x = "range") (hg : Gl X x) (hm : X.mg x = none) (ha : SX X c a pa) (hs : starEach [a] X.env = [(false, eval a X.env)] := by rfl) : SI X c tg (.Call (.Name x p') [a] [] pos) (.v9 (.con (.int 0)) pa) := by
 subst hx
 obtain ⟨ta, h1, h2⟩ := ha.eV
 refine vo (xm hg hm (bT h1 gb hs) hs) ?_
 rintro σ H R ⟨F, ρ, ds, ρ1, g, e, k⟩
 obtain ⟨r, ρ2, e1, e2⟩ := ak e
 have zz := aF e2; clear e2; obtain ⟨e2, e3⟩ := zz
 subst e3
 rw [HH.ev] at e1
 obtain ⟨xy, ρ3, e4, e5⟩ := ak e1
 have zz := aF e5; clear e5; obtain ⟨e5, e6⟩ := zz
 subst e6
 obtain ⟨y0, ρ5, e9, e10⟩ := ak e4
 cases e10
 obtain ⟨i, f1, e5⟩ := dw e5
 obtain ⟨j, f2, e5⟩ := dw e5
 obtain ⟨⟨b1, b2, b3, b4⟩, e5⟩ := bh e5
 have f1 : i = 0 := by cases f1; rfl
 subst f1
 subst e5
 cases e2
 cases dY f2
 refine h2 g e9 fun v F' H' s pv => ⟨j, by rw [pv.int], by omega, by omega, ?_⟩
 have := sG s 0 j
 rw [Int.sub_zero] at this
 refine k _ F' H' ?_
 rw [Int.sub_zero]
 exact this
theorem Dm {x : Str} {p' : Pos} (hx : x = "range") (hg : Gl X x) (hm : X.mg x = none) (ha : SX X c a pa) (hb : SX X c b pb) (hs : starEach [a, b] X.env = [(false, eval a X.env), (false, eval b X.env)] := by rfl) (hs2 : starEach [b] X.env = [(false, eval b X.env)] := by rfl) :
 SI X c tg (.Call (.Name x p') [a, b] [] pos) (.v9 pa pb) := by
 subst hx
 obtain ⟨ta, tb, h1, h2, h3⟩ := ha.jU hb
 refine vo (xu hg hm (bT h1 (bT h2 gb hs2) (by rw [hs, hs2])) hs hs2) ?_
 rintro σ H R ⟨F, ρ, ds, ρ1, g, e, k⟩
 obtain ⟨r, ρ2, e1, e2⟩ := ak e
 have zz := aF e2; clear e2; obtain ⟨e2, e3⟩ := zz
 subst e3
 rw [HH.ev] at e1
 obtain ⟨xy, ρ3, e4, e5⟩ := ak e1
 have zz := aF e5; clear e5; obtain ⟨e5, e6⟩ := zz
 subst e6
 obtain ⟨i, f1, e5⟩ := dw e5
 obtain ⟨j, f2, e5⟩ := dw e5
 obtain ⟨⟨b1, b2, b3, b4⟩, e5⟩ := bh e5
 subst e5
 cases e2
 refine h3 g e4 fun v u F' H' s pv pu => ⟨i, j, ?_, by omega, k _ F' H' (sG s i j)⟩
 have e1 := dY f1
 have e2 := dY f2
 rw [e1] at pv; rw [e2] at pu
 rw [pv.int, pu.int]
end
end HH
end
section
namespace HH
open PySem L2 PySem.Spec PyProof.Rows
section
variable {X : Cx} {c : Call} {n : Nat} {e a b d tg iter : Expr} {p pa pb pd : P} {pos : Pos} {body : List Stmt} {ss : List S}
noncomputable def Br (K : PySem.W.Frag) (bd : List Sl -> D -> Option (List Sl)) (g : TG) : Prop := ∀ (x : V) (d : D) (F : Hp) (ρ ρ' : List Sl) (σ : L2.St) (H : Hp) (Q : L2.St -> Hp -> Prop), GS K F ρ σ H -> Rep K F x d -> bd ρ d = some ρ' ->
 (∀ σ', bB K F ρ σ H F ρ' σ' H -> Q σ' H) -> g x σ H Q
theorem Dk {K : PySem.W.Frag} (i : Nat) : Br K (fun ρ d => put ρ i (.val false d)) (mJ i) := fun x d F ρ ρ' σ H Q g r h k =>
 k _ (bB.put (r := .val d) (.refl g) r h)
theorem cX {K : PySem.W.Frag} : ∀ (is : List Nat) (gs : xV), (∀ (xs : List V) (ds : List D) (F : Hp) (ρ ρ' : List Sl) (σ : L2.St) (H : Hp) (Q : L2.St -> Hp -> Prop), GS K F ρ σ H -> az K F xs ds -> putAll ρ is ds = some ρ' -> (∀ σ', bB K F ρ σ H F ρ' σ' H -> Q σ' H) -> gs xs σ H Q) ->
 ∀ i, ∀ (xs : List V) (ds : List D) (F : Hp) (ρ ρ' : List Sl) (σ : L2.St) (H : Hp) (Q : L2.St -> Hp -> Prop), GS K F ρ σ H -> az K F xs ds -> putAll ρ (i :: is) ds = some ρ' -> (∀ σ', bB K F ρ σ H F ρ' σ' H -> Q σ' H) -> za (mJ i) gs xs σ H Q := by
 intro is gs ih i xs ds F ρ ρ' σ H Q g r h k
 cases ds with
 | nil => simp [putAll] at h
 | cons d ds =>
   obtain ⟨v, vs, rfl, h1, h2⟩ := r.bY
   rw [putAll] at h
   obtain ⟨ρ1, e1, e2⟩ := dw h
   have s1 := bB.put (r := .val d) (.refl g) h1 e1
   refine ⟨v, vs, rfl, ih vs ds F ρ1 ρ' _ H _ s1.gs h2 e2 fun σ' s2 => k σ' (s1.trans s2)⟩
theorem o9 {K : PySem.W.Frag} : ∀ (xs : List V) (ds : List D) (F : Hp) (ρ ρ' : List Sl) (σ : L2.St) (H : Hp) (Q : L2.St -> Hp -> Prop), GS K F ρ σ H -> az K F xs ds -> putAll ρ [] ds = some ρ' -> (∀ σ', bB K F ρ σ H F ρ' σ' H -> Q σ' H) -> Ir xs σ H Q := by
 intro xs ds F ρ ρ' σ H Q g r h k
 cases ds with
 | nil => rw [putAll] at h; cases h; exact ⟨r.eX, k σ (.refl g)⟩
 | cons d ds => simp [putAll] at h
theorem iU : ∀ {is : List Nat} {ds : List D} {ρ ρ' : List Sl}, putAll ρ is ds = some ρ' -> ds.length = is.length
 | [], [], _, _, _ => rfl
 | [], _ :: _, _, _, h => by simp [putAll] at h
 | _ :: _, [], _, _, h => by simp [putAll] at h
 | i :: is, d :: ds, ρ, ρ', h => by
   rw [putAll] at h
   obtain ⟨ρ1, e1, e2⟩ := dw h
   simp [iU e2]
theorem tV {K : PySem.W.Frag} {is : List Nat} {gs : xV} {m : Nat} (hm : m = is.length) (h : ∀ (xs : List V) (ds : List D) (F : Hp) (ρ ρ' : List Sl) (σ : L2.St) (H : Hp) (Q : L2.St -> Hp -> Prop), GS K F ρ σ H -> az K F xs ds -> putAll ρ is ds = some ρ' -> (∀ σ', bB K F ρ σ H F ρ' σ' H -> Q σ' H) -> gs xs σ H Q) :
 Br K (fun ρ d => bU ρ is false d) (GF K m gs) := by
 intro x d F ρ ρ' σ H Q g r hb k
 replace hb : bU ρ is false d = some ρ' := hb
 cases d with
 | tup ds =>
   replace hb : putAll ρ is ds = some ρ' := hb
   rw [Rep] at r
   obtain ⟨a, xs, rfl, h1, h2⟩ := r
   exact ⟨a, xs, rfl, aK.iT g.sub h1, by rw [h2.length, iU hb, hm], h xs _ F ρ ρ' σ H Q g h2 hb k⟩
 | _ => cases hb
theorem uH {g : TG} {is : List Nat} {one : Bool} (hp : PassesOwn (model X.prog X.w) X.A X.env X.xe) (hc : X.calm = true) (hi : SI X c tg iter p) (hg : PG X tg g) (hgo : Br X.K (fun ρ d => bU ρ is one d) g) (hb : SB X c n body ss)
 (hs : ∀ x, foldedSetIterable iter X.env x = pure x := by intro _; rfl) : SS X c n (.For tg iter body [] pos) (.jH p is one ss) := by
 refine eY (yM hp hc hi hg hb hs) ?_
 rintro D σ H ⟨F, ρ, fl, ρ', g0, e, k⟩
 rw [ex] at e
 obtain ⟨ds, ρ1, e1, e⟩ := ak e
 obtain ⟨fl', ρ2, e2, e⟩ := ak e
 cases e
 refine ⟨F, ρ, ds, ρ1, g0, e1, fun J F1 H1 w => ?_⟩
 have src : ∀ (i : Nat) (F' : Hp) (ρ' : List Sl) (σ' : L2.St) (H' : Hp), bB X.K F1 ρ1 σ H1 F' ρ' σ' H' ->
  (∀ d, ds[i]? = some d -> J.go i H' /\ ∀ x wz, J.J7 i H' x wz -> ∃ F'', Ext F' H' F'' wz /\ Rep X.K F'' x d) /\ (ds.length <= i -> J.stop i H') := fun i F' ρ' σ' H' s => w.src 0 i F' ρ' σ' H' (by simpa using s)
 refine ⟨fun i m σi Hi => ∃ Fi ρi, bB X.K F1 ρ1 σ H1 Fi ρi σi Hi /\ m = ds.length - i /\ i <= ds.length /\ km is one (fc c n ss) (ds.drop i) ρi = .ok fl ρ2, ⟨_, F1, ρ1, .refl w.gs, rfl, Nat.zero_le _, e2⟩, ?_⟩
 rintro i m σi Hi ⟨Fi, ρi, si, rfl, hle, ei⟩
 obtain ⟨s1, s2⟩ := src i Fi ρi σi Hi si
 by_cases hlt : i < ds.length
 . right
   have hd : ds[i]? = some ds[i] := by simp [hlt]
   obtain ⟨go, step⟩ := s1 _ hd
   refine ⟨go, fun σ' H' => ∃ m', m' < ds.length - i /\ ∃ Fi ρi, bB X.K F1 ρ1 σ H1 Fi ρi σ' H' /\ m' = ds.length - (i + 1) /\ i + 1 <= ds.length /\ km is one (fc c n ss) (ds.drop (i + 1)) ρi = .ok fl ρ2, fun σ' H' z => z, fun x H' y => ?_⟩
   obtain ⟨F2, ext, rx⟩ := step x H' y
   have Ys := si.trans (ext.stp si.gs)
   rw [List.drop_eq_getElem_cons hlt, km] at ei
   cases hbd : bU ρi is one ds[i] with
   | none => rw [hbd] at ei; cases ei
   | some ρb =>
     rw [hbd] at ei
     obtain ⟨flb, ρc, eb, ei⟩ := ak ei
     refine hgo x _ F2 ρi ρb σi H' _ Ys.gs rx hbd fun σ2 sb => ?_
     have WK := Ys.trans sb
     refine ⟨F2, ρb, flb, ρc, WK.gs, eb, fun F4 σ4 H4 s4 => ?_⟩
     have SJ := WK.trans s4
     cases flb with
     | next => exact ⟨_, by omega, F4, ρc, SJ, rfl, hlt, ei⟩
     | cont => exact ⟨_, by omega, F4, ρc, SJ, rfl, hlt, ei⟩
     | brk =>
       cases ei
       exact k F4 σ4 H4 (w.fin _ _ _ _ SJ).1
     | ret r =>
       cases ei
       intro v rr
       obtain ⟨z1, z2⟩ := w.fin _ _ _ _ SJ
       exact k F4 σ4 H4 z1 v (z2 v r (rr.later WK))
 . left
   have hdr : ds.drop i = [] := by rw [List.drop_eq_nil_iff]; omega
   rw [hdr, km] at ei
   cases ei
   exact ⟨s2 (by omega), k Fi σi Hi (w.fin _ _ _ _ si).1⟩
theorem xJ (i : Nat) : (fun (ρ : List Sl) (d : D) => bU ρ [i] true d) = fun ρ d => put ρ i (.val false d) := by funext ρ d; rfl
theorem eG {i : Nat} {x : Str} {pos' : Pos} (hp : PassesOwn (model X.prog X.w) X.A X.env X.xe) (hc : X.calm = true) (hN : X.N.Nodup) (hx0 : X.N[i]? = some x) (hx : Loc X.env.scope x) (hi : SI X c (.Name x pos') iter p) (hb : SB X c n body ss)
 (hs : ∀ x, foldedSetIterable iter X.env x = pure x := by intro _; rfl) (hf : X.fn x = true \/ X.env.scope.names.lookup x = some .local := by first | exact .inl rfl | exact .inr rfl | assumption) : SS X c n (.For (.Name x pos') iter body [] pos) (.jH p [i] true ss) :=
 uH hp hc hi (aG hN hx0 hx hf) (by rw [xJ]; exact Dk i) hb hs
end
end HH
end
section
namespace HH
open PySem L2 PySem.Spec PyProof.Rows
section
variable {X : Cx} {c : Call} {n : Nat} {e elt tg iter : Expr} {p ps pe : P} {pos : Pos} {scope : Scope} {N' : List Str} {ifs : List Expr}
theorem Gx {t t' : TE} (h : PE X e t) (i : ∀ σ H Q, σ.length = X.N.length -> t' σ H Q -> t σ H Q) : PE X e t' := fun pins s σ H Q I q => h pins s σ H Q I (i σ H Q I.len q)
theorem G8 {st : Stmt} {t t' : TS} (h : PS X st t) (i : ∀ D σ H, σ.length = X.N.length -> t' D σ H -> t D σ H) : PS X st t' := fun pins s σ H D I q => h pins s σ H D I (i D σ H I.len q)
noncomputable def oM (K : PySem.W.Frag) (m : Nat) (is : List Nat) (one : Bool) (g : TG) : Prop := ∀ (x : V) (d : D) (F : Hp) (ρ ρ' : List Sl) (σ : L2.St) (H : Hp) (Q : L2.St -> Hp -> Prop), GS K F ρ σ H -> Rep K F x d -> bU ρ is one d = some ρ' ->
 (∀ σ', bB K F ρ σ H F ρ' σ' H -> σ'.take m = σ.take m -> Q σ' H) -> g x σ H Q
theorem take_set {α : Type} {l : List α} {i m : Nat} {a : α} (h : m <= i) : (l.set i a).take m = l.take m := by
 rw [List.take_set_of_le h]
theorem fC {K : PySem.W.Frag} {i m : Nat} (h : m <= i) : oM K m [i] true (mJ i) := fun x d F ρ ρ' σ H Q g r hb k =>
 k _ (bB.put (r := .val d) (.refl g) r hb) (take_set h)
noncomputable def By (K : PySem.W.Frag) (m : Nat) (is : List Nat) (gs : xV) : Prop := ∀ (xs : List V) (ds : List D) (F : Hp) (ρ ρ' : List Sl) (σ : L2.St) (H : Hp) (Q : L2.St -> Hp -> Prop), GS K F ρ σ H -> az K F xs ds -> putAll ρ is ds = some ρ' ->
 (∀ σ', bB K F ρ σ H F ρ' σ' H -> σ'.take m = σ.take m -> Q σ' H) -> gs xs σ H Q
theorem bF {K : PySem.W.Frag} {m i : Nat} {is : List Nat} {gs : xV} (hi : m <= i) (ih : By K m is gs) : By K m (i :: is) (za (mJ i) gs) := by
 intro xs ds F ρ ρ' σ H Q g r h k
 cases ds with
 | nil => simp [putAll] at h
 | cons d ds =>
   obtain ⟨v, vs, rfl, h1, h2⟩ := r.bY
   rw [putAll] at h
   obtain ⟨ρ1, e1, e2⟩ := dw h
   have s1 := bB.put (r := .val d) (.refl g) h1 e1
   exact ⟨v, vs, rfl, ih vs ds F ρ1 ρ' _ H _ s1.gs h2 e2 fun σ' s2 z => k σ' (s1.trans s2) (z.trans (take_set hi))⟩
theorem jm {K : PySem.W.Frag} {m : Nat} : By K m [] Ir := by
 intro xs ds F ρ ρ' σ H Q g r h k
 cases ds with
 | nil => rw [putAll] at h; cases h; exact ⟨r.eX, k σ (.refl g) rfl⟩
 | cons d ds => simp [putAll] at h
theorem jd {K : PySem.W.Frag} {is : List Nat} {gs : xV} {m l : Nat} (hm : l = is.length) (h : By K m is gs) : oM K m is false (GF K l gs) := by
 intro x d F ρ ρ' σ H Q g r hb k
 cases d with
 | tup ds =>
   replace hb : putAll ρ is ds = some ρ' := hb
   rw [Rep] at r
   obtain ⟨a, xs, rfl, h1, h2⟩ := r
   exact ⟨a, xs, rfl, aK.iT g.sub h1, by rw [h2.length, iU hb, hm], h xs _ F ρ ρ' σ H Q g h2 hb k⟩
 | _ => cases hb
noncomputable def SQ (X : Cx) (c : Call) (ifs : List Expr) (t : Option P) : Prop := Iv X ifs (Fe X.K (m8 c t))
theorem fZ : SQ X c [] none := fun pins s σ H Q I ⟨F, ρ, k, ρ', g, e, q⟩ => by
 rw [m8] at e; cases e
 exact Bx pins s σ H Q I (q F H (.refl g))
theorem lu (h : ST X c e p) : SQ X c [e] (some p) := fun pins s σ H Q I ⟨F, ρ, k, ρ', g, e, q⟩ => by
 rw [m8] at e
 exact Cw h pins s σ H Q I ⟨F, ρ, k, ρ', g, e, q⟩
theorem bB.Pz {K : PySem.W.Frag} {F H F1 H1 : Hp} {ρ ρ1 : List Sl} {σ σ1 : L2.St} {Da : Addr} {o : HO} (s : bB K F ρ σ H F1 ρ1 σ1 H1) (h : H Da = none) (hf : F1 Da = none) (ho : ¬ Own ρ1 σ1 Da) : bB K F ρ σ H F1 ρ1 σ1 (upd H1 Da o) := by
 refine ⟨⟨fun b u e => ?_, s.gs.len, s.gs.val, fun i t ds e e' => ?_, s.gs.dis⟩, s.cW, s.xQ, fun b u e n => ?_, s.uJ, s.len, s.lk⟩
 . have : b ≠ Da := by rintro rfl; rw [hf] at e; cases e
   rw [aC this]; exact s.gs.sub b u e
 . obtain ⟨a, xs, q1, q2, q3, q4⟩ := s.gs.own i t ds e e'
   have : a ≠ Da := by rintro rfl; exact ho ⟨i, ⟨t, ds, e, e'⟩, q1⟩
   exact ⟨a, xs, q1, by rw [aC this]; exact q2, q3, q4⟩
 . have : b ≠ Da := by rintro rfl; rw [h] at e; cases e
   rw [aC this]; exact s.keep b u e n
theorem zB {K : PySem.W.Frag} {F H : Hp} {ρ ρ1 ρ2 : List Sl} {σ : L2.St} {ul : List Sl -> List Sl} {ti : TI} {is : List Nat} {one : Bool} {test : List Sl -> Res Bool} {el : Ev} {g : TG} {Q : VK} {ds xs : List D} {m : Nat}
 (hm : σ.length = m) (hgo : oM K m is one g) (hti : ∀ R : It -> Hp -> Prop, (∀ J F1 H1, Walk K F ρ σ H ul J ds F1 ρ1 H1 -> R J H1) -> ti σ H R) (hlim : ds.length <= lim)
 (e2 : turns is one test el ds [] (ρ1 ++ List.replicate n .aX) = .ok xs ρ2)
 (k : ∀ v F' H', bB K F ρ σ H F' (ul (ρ2.take ρ1.length)) σ H' -> bO K F' (ul (ρ2.take ρ1.length)) σ H' ρ σ H v (.own xs) -> Q v H') :
 vU n ti g (Fe K test) (Ep K el) σ H Q := by
 refine hti _ fun J F1 H1 w Da Mv => ?_
 have hl1 : ρ1.length = σ.length := w.gs.len
 have gm := w.gs.more (n := n) (τ := List.replicate n none) (by simp)
 have fD : F1 Da = none := by
  cases q : F1 Da with
  | none => rfl
  | some o => rw [w.gs.sub Da o q] at Mv; cases Mv
 have nO : ¬ Own (ρ1 ++ List.replicate n .aX) (σ ++ List.replicate n none) Da := fun ⟨i, ⟨t, dt, q1, q2⟩, q3⟩ => by
  obtain ⟨a, ys, z1, z2, _⟩ := gm.own i t dt q1 q2
  rw [q3] at z1; cases z1
  rw [Mv] at z2; cases z2
 refine ⟨fun i mm ys σi Hi => ∃ Fi ρi acc, bB K F1 (ρ1 ++ List.replicate n .aX) (σ ++ List.replicate n none) H1 Fi ρi σi Hi /\ σi.take m = σ /\ Hi Da = some (.lst ys) /\ Fi Da = none /\ ¬ Own ρi σi Da /\ az K Fi ys acc /\ acc.length <= i /\ mm = ds.length - i /\ i <= ds.length /\
  turns is one test el (ds.drop i) acc ρi = .ok xs ρ2, ⟨_, F1, _, [], (bB.refl gm).Pz Mv fD nO, by rw [List.take_append_of_le_length (by omega), List.take_of_length_le (by omega)], aQ, fD, nO, .nil, Nat.zero_le _, rfl, Nat.zero_le _, e2⟩, ?_⟩
 rintro i mm ys σi Hi ⟨Fi, ρi, acc, si, hσ, hD, hF, hO, rs, hacc, rfl, hle, ei⟩
 refine ⟨hD, ?_⟩
 -- what stays of the new list through a step
 have stay : ∀ {F2 H2 : Hp} {ρ3 : List Sl} {σ2 : L2.St}, bB K Fi ρi σi Hi F2 ρ3 σ2 H2 -> H2 Da = some (.lst ys) /\ F2 Da = none /\ ¬ Own ρ3 σ2 Da := fun {F2 H2 ρ3 σ2} s => by
  refine ⟨s.keep Da _ hD hO, ?_, fun o => ?_⟩
  . cases q : F2 Da with
    | none => rfl
    | some o =>
      rcases s.xQ Da hF (by rw [q]; simp) with z | z
      . exact absurd z hO
      . exact (zQ hD z).elim
  . rcases s.uJ Da o with z | z
    . exact hO z
    . rw [hD] at z; cases z
 obtain ⟨s1, s2⟩ := w.src n i Fi ρi σi Hi si
 by_cases hlt : i < ds.length
 . right
   have hd : ds[i]? = some ds[i] := by simp [hlt]
   obtain ⟨go, step⟩ := s1 _ hd
   refine ⟨go, fun x H2 y => ?_⟩
   obtain ⟨F2, ext, rx⟩ := step x H2 y
   have t2 := ext.stp si.gs
   rw [List.drop_eq_getElem_cons hlt, turns] at ei
   cases hbd : bU ρi is one ds[i] with
   | none => rw [hbd] at ei; cases ei
   | some ρb =>
     rw [hbd] at ei
     obtain ⟨bb, ρc, eb, ei⟩ := ak ei
     refine hgo x _ F2 ρi ρb σi H2 _ t2.gs rx hbd fun σ2 sb htk => ?_
     have t3 := t2.trans sb
     refine ⟨F2, ρb, bb, ρc, t3.gs, eb, fun F4 H4 s4 => ?_⟩
     have t4 := t3.trans s4
     cases bb with
     | false =>
       rw [if_neg Bool.false_ne_true] at ei
       obtain ⟨y1, y2, y3⟩ := stay t4
       exact ⟨_, by omega, F4, ρc, acc, si.trans t4, htk.trans hσ, y1, y2, y3, rs.mono t4.cW, by omega, rfl, hlt, ei⟩
     | true =>
       rw [if_pos rfl] at ei
       obtain ⟨re, ρe, ee, ei⟩ := ak ei
       refine (show Ep K el σ2 H4 _ from ⟨F4, ρc, re, ρe, t4.gs, ee, fun v F5 H5 s5 rr => ?_⟩)
       obtain ⟨F6, s6, _, rp⟩ := s5.gR rr
       have t6 := t4.trans s6
       obtain ⟨y1, y2, y3⟩ := stay t6
       have hlen : ys.length < sizeLine := by
        have h1 := rs.length
        have h2 : lim = sizeLine := rfl
        omega
       exact ⟨y1, hlen, _, by omega, F6, ρe, acc ++ [re.d], (si.trans t6).Pz Mv y2 y3, htk.trans hσ, aQ, y2, y3, (rs.mono t6.cW).append (.cons rp .nil), by simp; omega, rfl, hlt, ei⟩
 . left
   have hdr : ds.drop i = [] := by rw [List.drop_eq_nil_iff]; omega
   rw [hdr, turns] at ei
   cases ei
   refine ⟨s2 (by omega), ?_⟩
   obtain ⟨l1, l2⟩ := bB.less (m := ρ1.length) rfl w.gs (by simp) si
   have hst : σi.take ρ1.length = σ := by rw [hl1, hm]; exact hσ
   rw [hst] at l1
   have rr : bO K Fi ρ2 σi Hi (ρ1 ++ List.replicate n .aX) (σ ++ List.replicate n none) H1 (.ref Da) (.own xs) := ⟨Da, ys, rfl, hD, hF, rs, hO, .inr Mv⟩
   have Yt := l2 _ _ rr
   rw [hst] at Yt
   obtain ⟨z1, z2⟩ := w.fin _ _ _ _ l1
   exact k _ Fi Hi z1 (z2 _ _ Yt)
theorem vp {K : PySem.W.Frag} {F H : Hp} {ρ : List Sl} {σ : L2.St} {iv : Option Nat} {f : Ev} {is : List Nat} {one : Bool} {test : List Sl -> Res Bool} {el : Ev} {g : TG} {Q : VK} {r : R} {ρ' : List Sl} {m : Nat}
 (hm : σ.length = m) (hgo : oM K m is one g) (g0 : GS K F ρ σ H)
 (e : ((srcOf iv f ρ).bind fun ds ρ₁ => if ds.length <= lim then (turns is one test el ds [] (ρ₁ ++ List.replicate n .aX)).bind fun xs ρ₂ => Res.ok (R.own xs) (aR ρ iv (ρ₂.take ρ₁.length)) else .stuck) = .ok r ρ')
 (k : ∀ v F' H', bB K F ρ σ H F' ρ' σ H' -> bO K F' ρ' σ H' ρ σ H v r -> Q v H') :
 vU n (Xa K iv f) g (Fe K test) (Ep K el) σ H Q := by
 obtain ⟨ds, ρ1, e1, e⟩ := ak e
 split at e
 . rename_i hlim
   obtain ⟨xs, ρ2, e2, e⟩ := ak e
   cases e
   exact zB hm hgo (fun R h => ⟨F, ρ, ds, ρ1, g0, e1, h⟩) hlim e2 k
 . cases e
theorem gV {g : TG} {is : List Nat} {one : Bool} {t : Option P} (hc : X.calm = true) (ok : eE X scope N' n) (hi : SI X c tg iter ps) (hg : ∀ cl C s₀ H₀ ex, PG (qT X scope N' cl C s₀ H₀ ex) tg g) (hgo : oM X.K X.N.length is one g)
 (ht : ∀ cl C s₀ H₀ ex, SQ (qT X scope N' cl C s₀ H₀ ex) c ifs t) (he : ∀ cl C s₀ H₀ ex, SX (qT X scope N' cl C s₀ H₀ ex) c elt pe)
 (hs : ∀ x, foldedSetIterable iter X.env x = pure x := by intro _; rfl) : SX X c (.ListComp elt [⟨tg, iter, ifs, 0⟩] scope pos) (.comp ps n is one t pe) := by
 refine ⟨Gx (DQ (tt := Fe X.K (m8 c t)) (te := Ep X.K (HH.ev c pe)) hc ok hi hg ht (fun cl C s₀ H₀ ex => (he cl C s₀ H₀ ex).ev) hs) ?_, fun i h => by cases h⟩
 rintro σ H Q hl ⟨F, ρ, r, ρ', g0, e, k⟩
 rw [HH.ev] at e
 exact vp hl hgo g0 e k
theorem jr {i : Nat} {x : Str} {pos' spos : Pos} {nn : Nat} {g : TG} {is : List Nat} {one : Bool} {t : Option P} (hc : X.calm = true) (hN : X.N.Nodup) (hx0 : X.N[i]? = some x) (hx : Loc X.env.scope x) (ok : eE X scope N' n) (hi : SI X c tg iter ps)
 (hg : ∀ cl C s₀ H₀ ex, PG (qT X scope N' cl C s₀ H₀ ex) tg g) (hgo : oM X.K X.N.length is one g)
 (ht : ∀ cl C s₀ H₀ ex, SQ (qT X scope N' cl C s₀ H₀ ex) c ifs t) (he : ∀ cl C s₀ H₀ ex, SX (qT X scope N' cl C s₀ H₀ ex) c elt pe)
 (hsw : swapsWith (.ListComp elt [⟨tg, iter, ifs, 0⟩] scope pos) (some (.Name x pos')) spos.line X.env = pure true := by rfl)
 (hs : ∀ x, foldedSetIterable iter X.env x = pure x := by intro _; rfl) (hf : X.fn x = true \/ X.env.scope.names.lookup x = some .local := by first | exact .inl rfl | exact .inr rfl | assumption) :
 SS X c nn (.Assign [.Name x pos'] (.ListComp elt [⟨tg, iter, ifs, 0⟩] scope pos) spos) (.asg i (.comp ps n is one t pe)) := by
 refine G8 (Dq (tt := Fe X.K (m8 c t)) (te := Ep X.K (HH.ev c pe)) hc hN hx0 hx ok hi hg ht (fun cl C s₀ H₀ ex => (he cl C s₀ H₀ ex).ev) hsw hs hf) ?_
 rintro D σ H hl ⟨F, ρ, fl, ρ', g0, e, k⟩
 rw [ex] at e
 obtain ⟨r, ρ1, e1, e⟩ := ak e
 obtain ⟨ρ2, ρ3, e2, e⟩ := ak e
 cases e
 have zz := aF e2; clear e2; obtain ⟨e2, e3⟩ := zz
 rw [HH.ev] at e1
 exact vp hl hgo g0 e1 fun v F1 H1 s1 rr => k F1 _ H1 (s1.put rr e2)
end
end HH
end
section
namespace HH
open PySem L2 PySem.Spec PyProof.Rows
section
variable {X : Cx} {c : Call} {n : Nat} {e a b d : Expr} {p pa pb pd : P} {pos : Pos} {es : List Expr} {ps : List P}
noncomputable def Xu : D -> String
 | .non => "NoneType" | .bl _ => "bool" | .int _ => "int" | .str _ => "str" | .tup _ => "tuple" | .lst _ => "list" | .cD _ => "dict"
noncomputable def Qo : Ty -> String
 | .none => "NoneType" | .bool => "bool" | .int => "int" | .str => "str" | .tuple => "tuple" | .list => "list"
theorem Ny (K : PySem.W.Frag) (t : Ty) (d : D) : PySem.W.kitOne K (.type (Xu d)) (.type (Qo t)) = some (bH t d) := by
 cases t <;> cases d <;> rfl
theorem Pj {pins : List (Addr × Obj)} {σ : L2.St} {H F : Hp} {s : Shared} {x : V} {u : Value} {dt : D} (I : L2.Inv X pins σ H s) (sm : aK F H) (px : cU X.K F H x dt) (rx : RelV x u) :
 (∃ Hq, PySem.W.KitX X.K u (.type (Xu dt)) Hq /\ Hq s.heap) /\ u ≠ .builtin "__main__.__loader__#opaque" := by
 cases dt with
 | non => rw [px.non] at rx; cases rx; exact ⟨⟨_, PySem.W.kitx_none, trivial⟩, nofun⟩
 | bl y => rw [px.bl] at rx; cases rx; exact ⟨⟨_, PySem.W.kitx_bool, trivial⟩, nofun⟩
 | int i => rw [px.int] at rx; obtain ⟨t, rfl⟩ := rx; exact ⟨⟨_, PySem.W.kitx_int, trivial⟩, nofun⟩
 | str y => rw [px.str] at rx; obtain ⟨t, rfl⟩ := rx; exact ⟨⟨_, PySem.W.kitx_str, trivial⟩, nofun⟩
 | tup ds =>
   obtain ⟨q, xs, rfl, hq, _⟩ := px.tup sm
   cases rx
   obtain ⟨its, _, ⟨o, h1, h2, _⟩, _⟩ := I.tuple hq
   exact ⟨⟨_, PySem.W.kitx_tuple, ⟨o, h1, h2⟩⟩, nofun⟩
 | lst ds =>
   obtain ⟨q, xs, rfl, hq, _⟩ := px.lst sm
   cases rx
   obtain ⟨its, _, pl, _⟩ := I.list hq
   obtain ⟨o, h1, h2, _⟩ := pl.isList
   exact ⟨⟨_, PySem.W.kitx_list, ⟨o, h1, h2⟩⟩, nofun⟩
 | cD m =>
   obtain ⟨q, _, rfl, hq⟩ := px.cD sm
   cases rx
   obtain ⟨o, h1, h2⟩ := zp I hq
   exact ⟨⟨_, PySem.W.kitx_dict, ⟨o, h1, h2⟩⟩, nofun⟩
theorem Hs (t : Ty) : cV X (.builtin "isinstance") (fun xs H Q => ∃ x F dt, xs = [x, .ty (Qo t)] /\ aK F H /\ cU X.K F H x dt /\ Q (.bl (bH t dt)) H) := by
 rintro pins s σ H xs us Q I r ⟨x, F, dt, hx, sm, px, q⟩
 subst hx
 obtain ⟨u, w', rfl, rx, rt⟩ := r.two
 cases (show w' = Value.type (Qo t) from rt)
 obtain ⟨⟨Hq, Z, hz⟩, hne⟩ := Pj I sm px rx
 exact PySem.W.kia_one Z I.JZ hz (Ny _ t dt) hne fun tk => ⟨.bl _, H, I.tok tk, rfl, q⟩
theorem An : bootBuiltins "isinstance" = some (.builtin "isinstance") := by decide +kernel
theorem mO {x y : Str} {p' p2 : Pos} (t : Ty) (hx : x = "isinstance") (hg : Gl X x) (hm : X.mg x = none) (ha : SX X c a pa) (hgy : Gl X y) (hmy : X.mg y = none) (hy : bootBuiltins y = some (.type (Qo t)))
 (hny : y ≠ "__name__" := by decide) (hdy : (y == ("__debug__" : Str)) = false := by decide)
 (hs : starEach [a, .Name y p2] X.env = (false, eval a X.env) :: starEach [.Name y p2] X.env := by rfl) : SX X c (.Call (.Name x p') [a, .Name y p2] [] pos) (.inst [t] pa) := by
 subst hx
 obtain ⟨ta, h1, h2⟩ := ha.eV
 refine ⟨eZ (dh (Hs t) hg hm An (bT h1 (bT (Ed (v := .ty (Qo t)) hgy hmy hy rfl hny hdy) gb) hs) (he := hs)) ?_, fun i h => by cases h⟩
 rintro σ H Q ⟨F, ρ, r, ρ', g, e, k⟩
 rw [HH.ev] at e
 obtain ⟨dt, ρ1, e1, e⟩ := ak e
 cases e
 refine h2 g e1 fun v F' H' s pv => ⟨v, F', dt, rfl, s.gs.sub, pv, k _ F' H' s ?_⟩
 show Rep X.K F' _ _
 rw [List.any_cons, List.any_nil, Bool.or_false]
 exact nJ _
inductive Vm (K : PySem.W.Frag) (f : List D -> Option R) (xs : List V) (H : Hp) (Q : VK) : Prop where
 | mk (F : Hp) (ds : List D) (r : R) (sm : aK F H) (rs : az K F xs ds) (he : f ds = some r) (k : ∀ v F' H', Ext F H F' H' -> cj K F' H' H v r -> Q v H')
theorem EY {E : Expr} {f : List D -> Option R} {q : P} (hp : ∀ {t}, PA X es t -> PE X E (Rh (Vm X.K f) t)) (ha : SA X c es ps)
 (hq : ∀ ρ, HH.ev c q ρ = (evs c ps ρ).bind fun ds ρ => lift (f ds) ρ) (hv : isVar q = none) : SX X c E q := by
 refine ⟨eZ (hp ha.1) ?_, fun i h => by rw [hv] at h; cases h⟩
 rintro σ H Q ⟨F, ρ, r, ρ', g, e, k⟩
 rw [hq] at e
 obtain ⟨ds, ρ1, e1, e2⟩ := ak e
 have zz := aF e2; clear e2; obtain ⟨e2, e3⟩ := zz
 subst e3
 exact ⟨F, ρ, ds, ρ1, g, e1, fun vs F' H' s rs => ⟨F', ds, r, s.gs.sub, rs, e2, fun w F2 H2 x rn => k w F2 H2 (s.trans (x.stp s.gs)) (.later s (rn.qM s.gs))⟩⟩
theorem Gb {K : PySem.W.Frag} {F : Hp} {xs : List V} {i j : Int} (h : az K F xs [.int i, .int j]) : xs = [.int i, .int j] := by
 obtain ⟨v, r, rfl, h1, h2⟩ := h.bY
 obtain ⟨u, r2, rfl, h3, h4⟩ := h2.bY
 rw [Rep] at h1 h3
 rw [h1, h3, h4.eX]
theorem inv2 {f : Ru} {g : Int -> Int -> Int} {ds : List D} {r : R} (h0 : blt f [] = none) (h1 : ∀ a, blt f [a] = none) (h3 : ∀ a b c l, blt f (a :: b :: c :: l) = none) (hn : ∀ a b, cL a = false -> blt f [a, b] = none) (hm : ∀ i b, cL b = false -> blt f [.int i, b] = none) (hi : ∀ i j, blt f [.int i, .int j] = some (.val (.int (g i j)))) (he : blt f ds = some r) : ∃ i j, ds = [.int i, .int j] /\ r = .val (.int (g i j)) := by
 rcases ds with _ | ⟨a, _ | ⟨b, _ | ⟨c, l⟩⟩⟩
 . rw [h0] at he; cases he
 . rw [h1] at he; cases he
 . by_cases ha : cL a = true
   . obtain ⟨i, rfl⟩ : ∃ i, a = .int i := by cases a <;> first | exact ⟨_, rfl⟩ | cases ha
     by_cases hb : cL b = true
     . obtain ⟨j, rfl⟩ : ∃ j, b = .int j := by cases b <;> first | exact ⟨_, rfl⟩ | cases hb
       rw [hi] at he; cases he; exact ⟨i, j, rfl, rfl⟩
     . rw [hm i b (by simpa using hb)] at he; cases he
   . rw [hn a b (by simpa using ha)] at he; cases he
 . rw [h3] at he; cases he
theorem Ii (hc : X.calm = true) : cV X (.builtin "min") (Vm X.K (blt .min2)) := by
 rintro pins s σ H xs us Q I r ⟨F, ds, r', sm, rs, he, k⟩
 obtain ⟨i, j, rfl, rfl⟩ := inv2 (g := fun i j => if j < i then j else i) rfl (fun a => by cases a <;> rfl) (fun a b c l => by cases a <;> first | rfl | (cases b <;> rfl)) (fun a b h => by cases a <;> first | rfl | cases h) (fun i b h => by cases b <;> first | rfl | cases h) (fun _ _ => rfl) he
 rw [Gb rs] at r; exact wC hc pins s σ H _ us Q I r ⟨_, _, rfl, cj.dG sm (cA _) k⟩
theorem Jp (hc : X.calm = true) : cV X (.builtin "max") (Vm X.K (blt .max2)) := by
 rintro pins s σ H xs us Q I r ⟨F, ds, r', sm, rs, he, k⟩
 obtain ⟨i, j, rfl, rfl⟩ := inv2 (g := fun i j => if i < j then j else i) rfl (fun a => by cases a <;> rfl) (fun a b c l => by cases a <;> first | rfl | (cases b <;> rfl)) (fun a b h => by cases a <;> first | rfl | cases h) (fun i b h => by cases b <;> first | rfl | cases h) (fun _ _ => rfl) he
 rw [Gb rs] at r; exact xg hc pins s σ H _ us Q I r ⟨_, _, rfl, cj.dG sm (cA _) k⟩
theorem boot_min : bootBuiltins "min" = some (.builtin "min") := by decide +kernel
theorem boot_max : bootBuiltins "max" = some (.builtin "max") := by decide +kernel
theorem Cd {x : Str} {p' : Pos} (hx : x = "min") (hc : X.calm = true) (hg : Gl X x) (hm : X.mg x = none) (ha : SA X c [a, b] [pa, pb]) (hs : starEach [a, b] X.env = (false, eval a X.env) :: starEach [b] X.env := by rfl) (hpl : (backTo pos (starEach [b] X.env)).any (·.1) = false := by rfl) :
 SX X c (.Call (.Name x p') [a, b] [] pos) (.blt .min2 [pa, pb]) := by
 subst hx; exact EY (fun h => dh (Ii hc) hg hm boot_min h (he := hs) (hpl := hpl)) ha (fun ρ => by rw [HH.ev]; intro a h; cases h) rfl
theorem Df {x : Str} {p' : Pos} (hx : x = "max") (hc : X.calm = true) (hg : Gl X x) (hm : X.mg x = none) (ha : SA X c [a, b] [pa, pb]) (hs : starEach [a, b] X.env = (false, eval a X.env) :: starEach [b] X.env := by rfl) (hpl : (backTo pos (starEach [b] X.env)).any (·.1) = false := by rfl) :
 SX X c (.Call (.Name x p') [a, b] [] pos) (.blt .max2 [pa, pb]) := by
 subst hx; exact EY (fun h => dh (Jp hc) hg hm boot_max h (he := hs) (hpl := hpl)) ha (fun ρ => by rw [HH.ev]; intro a h; cases h) rfl
end
end HH
end
section
namespace HH
open PySem L2 PySem.Spec PyProof.Rows
section
variable {X : Cx} {c : Call} {n : Nat} {e a b d : Expr} {p pa pb pd : P} {pos : Pos} {es : List Expr} {ps : List P}
theorem vJ {K : PySem.W.Frag} {F H : Hp} {ρ : List Sl} {σ : L2.St} {i : Nat} {ds : List D} (g : GS K F ρ σ H) (h : FT ρ i = some ds) : ∃ a xs, σ[i]? = some (some (V.ref a)) /\ dW K H a xs := by
 unfold FT at h
 split at h
 . rename_i q
   cases h
   obtain ⟨v, h1, h2⟩ := g.pk q
   obtain ⟨a, xs, rfl, h3, _⟩ := h2.lst g.sub
   exact ⟨a, xs, h1, h3⟩
 . cases h
theorem lD {x : Str} {k : Nat} {px tpos : Pos} (hN : X.N[k]? = some x) (hv : xX X.env.scope x) (hi : SX X c b pb) (he : SX X c e p)
 (ha : ∀ v, assign (.Subscript (.Name x px) b tpos) X.env v = (do
  let ov <- holding [v] (eval (.Name x px) X.env)
  let iv <- holding [v, ov] (eval b X.env)
  standAt tpos
  holding [v, ov, iv] (setItem ov iv v)
  release [v, ov, iv] []) := by intro _; rfl)
 (hs : swapsWithSole [.Subscript (.Name x px) b tpos] e pos.line X.env = pure false := by rfl) (hw : swappedStores [.Subscript (.Name x px) b tpos] e X.env = pure none := by rfl)
 (h1 : (assignEach [.Subscript (.Name x px) b tpos] X.env).map (·.2) = [assign (.Subscript (.Name x px) b tpos) X.env] := by rfl) (hd : (x == ("__debug__" : Str)) = false := by decide) (hcd : (x == ("__classdict__" : Str)) = false := by decide) :
 SS X c n (.Assign [.Subscript (.Name x px) b tpos] e pos) (.xP k pb p) := by
 obtain ⟨ti, hi1, hi2⟩ := hi.eV
 refine eY (Aa he.ev (GZ (gF hN hv hd hcd) hi1 set_list ha) hs hw h1) ?_
 rintro D σ H ⟨F, ρ, fl, ρ', g, e, kk⟩
 rw [ex] at e
 obtain ⟨r, ρ1, e1, e⟩ := ak e
 obtain ⟨x0, ρ1', e0, e⟩ := ak e
 have zz := aF e0; clear e0; obtain ⟨e0, xR⟩ := zz
 subst xR
 obtain ⟨dk, ρ2, e2, e⟩ := ak e
 refine ⟨F, ρ, r, ρ1, g, e1, fun v F1 H1 s1 rr => ?_⟩
 obtain ⟨F2, s2, _, rp⟩ := s1.gR rr
 obtain ⟨o, ho, _⟩ := s2.gs.pk e0
 refine ⟨o, ho, hi2 s2.gs e2 fun vi F3 H3 s3 pi => ?_⟩
 split at e
 . rename_i bb ds kk' q
   split at e
   . rename_i j hj
     cases e
     obtain ⟨ad, xs, q1, q2, q3, q4⟩ := s3.gs.m9 k _ ds q rfl
     rw [ho] at q1; cases q1
     refine ⟨ad, xs, kk', j, rfl, pi.int, q2, by rw [q4.length]; exact hj, ?_⟩
     exact kk F3 σ _ ((s2.trans s3).trans (s3.gs.mut q ho (q4.set (rp.mono s3.cW) j)))
   . cases e
 . cases e
theorem cY {x : Str} {k : Nat} {px apos cpos : Pos} (hN : X.N[k]? = some x) (hv : xX X.env.scope x) (he : SX X c e p) (hline : (apos.endLine == cpos.line) = true := by rfl) (hs : starEach [e] X.env = (false, eval e X.env) :: starEach [] X.env := by rfl)
 (hbase : attributeBase (.Name x px) "append" X.env (eval (.Name x px) X.env) = eval (.Name x px) X.env := by rfl)
 (hfew : ((backTo cpos (starEach [e] X.env)).all (fun x => !x.1) && (backToKw cpos (keywordEach [] X.env)).all (fun x => x.1.isSome)
  && decide ([e].length + ([] : List Keyword).length + (if ([] : List Keyword).isEmpty then 0 else 1) < 30)) = true := by rfl)
 (hsw : swapsWith (.Call (.Attribute (.Name x px) "append" apos) [e] [] cpos) none pos.line X.env = pure false := by rfl)
 (hd : (x == ("__debug__" : Str)) = false := by decide) (hcd : (x == ("__classdict__" : Str)) = false := by decide) : SS X c n (.Expr (.Call (.Attribute (.Name x px) "append" apos) [e] [] cpos) pos) (.app k p) := by
 refine eY (vD (PL PySem.F.plainAttrs_list PySem.F.slot_list_append PySem.F.type_list_append oE (gF hN hv hd hcd) (bT he.ev gb hs) hbase hfew hline hs) hsw) ?_
 rintro D σ H ⟨F, ρ, fl, ρ', g, e, kk⟩
 rw [ex] at e
 obtain ⟨d0, ρ0, e0, e⟩ := ak e
 have zz := aF e0; clear e0; obtain ⟨e0, xR⟩ := zz
 subst xR
 obtain ⟨r, ρ1, e1, e⟩ := ak e
 obtain ⟨a, xs, h1, h2⟩ := vJ g e0
 refine ⟨.ref a, h1, .inl ⟨rfl, xs, h2⟩, F, ρ, r, ρ1, g, e1, fun v F1 H1 s1 rr => ?_⟩
 obtain ⟨F2, s2, _, rp⟩ := s1.gR rr
 split at e
 . rename_i bb ds q
   split at e
   . rename_i hlt
     cases e
     obtain ⟨ad, ys, q1, q2, q3, q4⟩ := s2.gs.m9 k _ ds q rfl
     rw [h1] at q1; cases q1
     exact ⟨_, ys, v, rfl, rfl, q2, by rw [q4.length]; exact hlt, kk F2 σ _ (s2.trans (s2.gs.mut q h1 (q4.append (.cons rp .nil))))⟩
   . cases e
 . cases e
theorem ye {i j : Nat} {x y : Str} {px py pt : Pos} {kt k2 J6} (hc : X.calm = true) (hN : X.N.Nodup) (hi : X.N[i]? = some x) (hj : X.N[j]? = some y) (hij : i ≠ j)
 (hx : X.env.scope.names.lookup x = some .local) (hy : X.env.scope.names.lookup y = some .local) (ha : SX X c a pa) (hb : SX X c b pb)
 (hw : swappedStores [.Tuple [.Name x px, .Name y py] kt pt] (.Tuple [a, b] k2 J6) X.env = pure (some [x, y]) := by rfl)
 (hs : swapsWithSole [.Tuple [.Name x px, .Name y py] kt pt] (.Tuple [a, b] k2 J6) pos.line X.env = pure false := by rfl)
 (h1 : starEach [a, b] X.env = (false, eval a X.env) :: starEach [b] X.env := by rfl) (h2 : starEach [b] X.env = (false, eval b X.env) :: starEach [] X.env := by rfl) :
 SS X c n (.Assign [.Tuple [.Name x px, .Name y py] kt pt] (.Tuple [a, b] k2 J6) pos) (.par i j pa pb) := by
 refine eY (L2.Ij hc hN hi hj hij hx hy (bT ha.ev (bT hb.ev gb h2) h1) hw hs) ?_
 rintro D σ H ⟨F, ρ, fl, ρ', g, e, k⟩
 rw [ex] at e
 obtain ⟨r, ρ1, e1, e⟩ := ak e
 obtain ⟨r2, ρ2, e2, e⟩ := ak e
 obtain ⟨ρ3, ρ4, e3, e⟩ := ak e
 cases e
 have zz := aF e3; clear e3; obtain ⟨e3, e4⟩ := zz
 obtain ⟨ρ5, e5, e6⟩ := dw e3
 refine ⟨F, ρ, r, ρ1, g, e1, fun v F1 H1 s1 rr => ?_⟩
 obtain ⟨F2, s2, _, rp⟩ := s1.gR rr
 refine ⟨F2, ρ1, r2, ρ2, s2.gs, e2, fun u F3 H3 s3 rr3 => ?_⟩
 obtain ⟨F4, s4, _, rp4⟩ := s3.gR rr3
 refine ⟨v, u, rfl, ?_⟩
 have t4 := s2.trans s4
 have t5 := t4.put (r := .val r.d) (v := v) (rp.mono s4.cW) e5
 exact k F4 _ H3 (t5.put (r := .val r2.d) (v := u) rp4 e6)
theorem yd {ds : List D} {bs : List Bool} (h : ds.mapM rY = some bs) : ds = bs.map D.bl := by
 induction ds generalizing bs with
 | nil => simp at h; subst h; rfl
 | cons d ds ih =>
   rw [List.mapM_cons] at h
   cases hd : rY d with
   | none => rw [hd] at h; cases h
   | some k =>
     rw [hd] at h
     cases hr : ds.mapM rY with
     | none => rw [hr] at h; cases h
     | some r => rw [hr] at h; cases h; rw [List.map_cons, <- ih hr, rO hd]
theorem uR {K : PySem.W.Frag} {F : Hp} : ∀ {bs : List Bool} {xs : List V}, az K F xs (bs.map D.bl) -> xs = bs.map V.bl
 | [], _, h => h.eX
 | k :: bs, _, h => by
   obtain ⟨v, r, rfl, h1, h2⟩ := h.bY
   rw [Rep] at h1
   rw [h1, uR h2]; rfl
theorem vK : ∀ {bs : List Bool} {us : List Value}, Vals (bs.map V.bl) us -> us = bs.map Value.bool
 | [], _, h => h.zero
 | k :: bs, _, .cons r t => by rw [List.map_cons, <- vK t, show _ = _ from r]
theorem CT {id : String} {f : List Bool -> Bool} (hc : X.calm = true)
 (rule : ∀ {x : Value} {Q : Value -> Shared -> Prop} {s : Shared}, wpAny (model X.prog X.w) X.A.in1 (pyIter x) (fun it s₂ => ∃ I fp wr n P St tr, it = .ref I /\ Walks X.prog X.w X.A.in1 I fp wr n P St /\ St 0 s₂.heap /\ TruthOf X.prog X.w X.A.in1 P tr /\
  ∀ h' tk, (∀ b o, b ∉ wr -> s₂.heap.get? b = some o -> h'.get? b = some o) -> Q (.bool (f ((List.range n).map tr))) { s₂ with heap := h', toks := tk }) X.xe s -> wpAny (model X.prog X.w) X.A (call (.builtin id) [x]) Q X.xe s) :
 cV X (.builtin id) (fun xs H Q => ∃ p ys bs, xs = [.ref p] /\ dW X.K H p ys /\ ys = bs.map V.bl /\ Q (.bl (f bs)) H) := by
 rintro pins s σ H xs us Q I r ⟨p, ys, bs, hx, hq, hy, k⟩
 subst hx; subst hy
 obtain ⟨u, rfl, rx⟩ := r.one
 cases rx
 obtain ⟨its, rv, pl, hz⟩ := I.list hq
 have hits := vK rv
 subst hits
 refine rule (wpAny_pyIter_list pl.isList ?_)
 have hne : p ≠ s.heap.objs.size := by
  obtain ⟨o, h1, _⟩ := pl.isList
  exact Nat.ne_of_lt (Heap.lt_size h1)
 refine ⟨s.heap.objs.size, _, _, _, _, _, fun i => bs.getD i false, rfl, Walks.list (prog := X.prog) (w := X.w) (A := X.A.in1) (show X.A.in1.handled = none from I.ok.hd hc) s.heap.objs.size p hne (bs.map Value.bool).toArray, ⟨⟨_, Heap.get?_push_size _ rfl, rfl, rfl⟩, ?_⟩, ?_, fun h' tk kp => ?_⟩
 . obtain ⟨o, h1, h2⟩ := pl.isList
   exact ⟨o, Heap.get?_push_of_some _ h1, h2⟩
 . intro i v s' Q' E' hP hQ
   have hv : v = .bool (bs.getD i false) := by
    have hP : (bs.map Value.bool)[i]? = some v := by simpa using hP
    rw [List.getElem?_map] at hP
    obtain ⟨k', e1, e2⟩ := map_some hP
    rw [<- e2, List.getD_eq_getElem?_getD, e1]; rfl
   subst hv
   exact wpAny_truthy_bool hQ
 . have e : f ((List.range (bs.map Value.bool).toArray.size).map fun i => bs.getD i false) = f bs := by
    congr 1
    apply List.ext_getElem
    . simp
    . intro i h1 h2
      simp at h1
      simp [h1]
   rw [e]
   exact ⟨.bl _, H, I.kept (fun b o z => kp b o (by simp; exact Nat.ne_of_lt (Heap.lt_size z)) (Heap.get?_push_of_some _ z)), rfl, k⟩
theorem N8 (hc : X.calm = true) : cV X (.builtin "any") (Gg X.K fun x => blt .any [x]) := by
 rintro pins s σ H xs us Q I r ⟨x, hx, F, d, r', sm, px, he, k⟩
 obtain ⟨bs, e1, he⟩ := map_some (show ((jL d).bind fun ds => ds.mapM rY).map _ = some r' from he)
 subst he
 obtain ⟨ds, e2, e3⟩ := dw e1
 have e4 := yd e3
 cases d with
 | lst es =>
   cases e2
   obtain ⟨p, ys, rfl, hq, rs⟩ := px.lst sm
   rw [e4] at rs
   refine CT (f := fun bs => bs.any id) hc (fun h => call_any_walk (wpAny_mono h (fun it s₂ ⟨I, fp, wr, n, P, Sx, tr, h1, h2, h3, h4, h5⟩ => ⟨I, fp, wr, n, P, Sx, tr, h1, h2, h3, h4, fun h' tk kp => ?_⟩) fun _ _ z => z)) pins s σ H xs us Q I r ⟨p, ys, bs, hx, hq, uR rs, cj.dG sm (nJ _) k⟩
   have z := h5 h' tk kp
   rw [List.any_map] at z
   exact z
 | _ => cases e2
theorem boot_any : bootBuiltins "any" = some (.builtin "any") := by decide +kernel
theorem GP {x : Str} {p' : Pos} (hx : x = "any") (hc : X.calm = true) (hg : Gl X x) (hm : X.mg x = none) (ha : SX X c a pa) (hs : starEach [a] X.env = (false, eval a X.env) :: starEach [] X.env := by rfl) : SX X c (.Call (.Name x p') [a] [] pos) (.blt .any [pa]) := by
 subst hx; exact lK (fun h => dh (N8 hc) hg hm boot_any h (he := hs)) ha (fun ρ => by rw [HH.ev]) rfl hs
end
end HH
end
section
namespace HH
open PySem L2 PySem.Spec PyProof.Rows
section
variable {K : PySem.W.Frag}
theorem gj : ∀ {xs ys : List D}, xs.length ≠ ys.length -> dI xs ys = false
 | [], [], h => absurd rfl h
 | [], _ :: _, _ => by simp [dI]
 | _ :: _, [], _ => by simp [dI]
 | x :: xs, y :: ys, h => by
   rw [dI, gj (xs := xs) (ys := ys) (by simpa using h), Bool.and_false]
theorem dZ : ∀ {xs ys : List D}, xs.length = ys.length -> dI xs ys = (List.range xs.length).all fun j => aW (xs.getD j .non) (ys.getD j .non)
 | [], [], _ => by rw [dI]; rfl
 | [], _ :: _, h => by simp at h
 | _ :: _, [], h => by simp at h
 | x :: xs, y :: ys, h => by
   rw [dI, dZ (xs := xs) (ys := ys) (by simpa using h), List.length_cons, List.range_succ_eq_map, List.all_cons, List.all_map]
   rfl
mutual
theorem gP : ∀ d : D, aW d d = true
 | .non => by rw [aW]
 | .bl _ => by rw [aW]; simp
 | .int _ => by rw [aW]; simp
 | .str _ => by rw [aW]; simp
 | .tup ds => by rw [aW]; exact jW ds
 | .lst ds => by rw [aW]; exact jW ds
 | .cD _ => by rw [aW]; simp
theorem jW : ∀ ds : List D, dI ds ds = true
 | [] => by rw [dI]
 | d :: ds => by rw [dI, gP d, jW ds]; rfl
end
theorem cZ {F : Hp} {d e : D} {v : V} (hf : flat d = true) (h1 : Rep K F v d) (h2 : Rep K F v e) : d = e := by
 cases d with
 | tup _ => cases hf
 | lst _ => cases hf
 | cD _ => cases hf
 | non =>
   rw [Rep] at h1; subst h1
   cases e with
   | non => rfl
   | tup _ => rw [Rep] at h2; obtain ⟨_, _, q, _⟩ := h2; cases q
   | lst _ => rw [Rep] at h2; obtain ⟨_, _, q, _⟩ := h2; cases q
   | cD _ => rw [Rep] at h2; obtain ⟨_, _, q, _⟩ := h2; cases q
   | _ => rw [Rep] at h2; cases h2
 | bl k =>
   rw [Rep] at h1; subst h1
   cases e with
   | bl _ => rw [Rep] at h2; cases h2; rfl
   | tup _ => rw [Rep] at h2; obtain ⟨_, _, q, _⟩ := h2; cases q
   | lst _ => rw [Rep] at h2; obtain ⟨_, _, q, _⟩ := h2; cases q
   | cD _ => rw [Rep] at h2; obtain ⟨_, _, q, _⟩ := h2; cases q
   | _ => rw [Rep] at h2; cases h2
 | int k =>
   rw [Rep] at h1; subst h1
   cases e with
   | int _ => rw [Rep] at h2; cases h2; rfl
   | tup _ => rw [Rep] at h2; obtain ⟨_, _, q, _⟩ := h2; cases q
   | lst _ => rw [Rep] at h2; obtain ⟨_, _, q, _⟩ := h2; cases q
   | cD _ => rw [Rep] at h2; obtain ⟨_, _, q, _⟩ := h2; cases q
   | _ => rw [Rep] at h2; cases h2
 | str k =>
   rw [Rep] at h1; subst h1
   cases e with
   | str _ => rw [Rep] at h2; cases h2; rfl
   | tup _ => rw [Rep] at h2; obtain ⟨_, _, q, _⟩ := h2; cases q
   | lst _ => rw [Rep] at h2; obtain ⟨_, _, q, _⟩ := h2; cases q
   | cD _ => rw [Rep] at h2; obtain ⟨_, _, q, _⟩ := h2; cases q
   | _ => rw [Rep] at h2; cases h2
theorem CP {X : Cx} {pins : List (Addr × Obj)} {σ : L2.St} {H F : Hp} {s : Shared} (I : L2.Inv X pins σ H s) (sm : aK F H) :
 ∀ n : Nat, (∀ d : D, cH n d = true -> ∀ (v : V) (e : D), Rep X.K F v d -> Rep X.K F v e -> d = e) := by
 have tl : ∀ {a : Addr} {xs ys : List V}, iG X.K F a xs -> dW X.K F a ys -> False := fun {a xs ys} h1 h2 => by
  obtain ⟨_, _, ⟨o, q1, q2, _⟩, _⟩ := I.tuple (aK.iT sm h1)
  obtain ⟨_, _, pl, _⟩ := I.list (sm.seq h2)
  obtain ⟨o', q3, q4, _⟩ := pl.isList
  rw [q1] at q3; cases q3
  rw [q2] at q4
  exact absurd q4 (by decide)
 have dd : ∀ {a : Addr} {kvs : Dc}, Rep X.K F (.ref a) (.cD kvs) -> ∃ o, s.heap.get? a = some o /\ o.cls = .type "dict" := fun {a kvs} h => by
  rw [Rep] at h
  obtain ⟨a', _, q, hq⟩ := h
  cases q
  exact zp I (sm _ _ hq)
 have td : ∀ {a : Addr} {xs : List V} {kvs : Dc}, iG X.K F a xs -> Rep X.K F (.ref a) (.cD kvs) -> False := fun {a xs kvs} h1 h2 => by
  obtain ⟨_, _, ⟨o, q1, q2, _⟩, _⟩ := I.tuple (aK.iT sm h1)
  obtain ⟨o', q3, q4⟩ := dd h2
  rw [q1] at q3; cases q3
  rw [q2] at q4
  exact absurd q4 (by decide)
 have ld : ∀ {a : Addr} {xs : List V} {kvs : Dc}, dW X.K F a xs -> Rep X.K F (.ref a) (.cD kvs) -> False := fun {a xs kvs} h1 h2 => by
  obtain ⟨_, _, pl, _⟩ := I.list (sm.seq h1)
  obtain ⟨o, q1, q2, _⟩ := pl.isList
  obtain ⟨o', q3, q4⟩ := dd h2
  rw [q1] at q3; cases q3
  rw [q2] at q4
  exact absurd q4 (by decide)
 intro n
 induction n with
 | zero =>
   intro d hd v e h1 h2
   cases d with
   | tup _ => simp [cH] at hd
   | lst _ => simp [cH] at hd
   | cD _ => simp [cH] at hd
   | non => exact cZ rfl h1 h2
   | bl k => exact cZ rfl h1 h2
   | int k => exact cZ rfl h1 h2
   | str k => exact cZ rfl h1 h2
 | succ n ih =>
   have all : ∀ {xs : List V} {ds es : List D}, ds.all (cH n) = true -> az X.K F xs ds -> az X.K F xs es -> ds = es := fun {xs ds} => by
    induction ds generalizing xs with
    | nil =>
      intro es _ h1 h2
      rw [h1.eX] at h2
      have := h2.length
      exact (List.eq_nil_of_length_eq_zero this.symm).symm
    | cons d ds ih2 =>
      intro es ha h1 h2
      rw [List.all_cons, Bool.and_eq_true] at ha
      obtain ⟨v, r, rfl, q1, q2⟩ := h1.bY
      cases es with
      | nil => cases h2.eX
      | cons e es =>
        obtain ⟨v', r', q0, q3, q4⟩ := h2.bY
        cases q0
        rw [ih d ha.1 v e q1 q3, ih2 ha.2 q2 q4]
   intro d hd v e h1 h2
   cases d with
   | cD _ => simp [cH] at hd
   | tup ds =>
     have ha : ds.all (cH n) = true := by simpa [cH] using hd
     rw [Rep] at h1
     obtain ⟨a, xs, rfl, z1, z2⟩ := h1
     cases e with
     | tup es =>
       rw [Rep] at h2
       obtain ⟨a', ys, q, w1, w2⟩ := h2
       cases q
       have := I.nH (aK.iT sm z1) (aK.iT sm w1)
       subst this
       rw [all ha z2 w2]
     | lst es => rw [Rep] at h2; obtain ⟨a', ys, q, w1, w2⟩ := h2; cases q; exact (tl z1 w1).elim
     | cD _ => exact (td z1 h2).elim
     | _ => rw [Rep] at h2; cases h2
   | lst ds =>
     have ha : ds.all (cH n) = true := by simpa [cH] using hd
     rw [Rep] at h1
     obtain ⟨a, xs, rfl, z1, z2⟩ := h1
     cases e with
     | lst es =>
       rw [Rep] at h2
       obtain ⟨a', ys, q, w1, w2⟩ := h2
       cases q
       have := I.rB (sm.seq z1) (sm.seq w1)
       subst this
       rw [all ha z2 w2]
     | tup es => rw [Rep] at h2; obtain ⟨a', ys, q, w1, w2⟩ := h2; cases q; exact (tl w1 z1).elim
     | cD _ => exact (ld z1 h2).elim
     | _ => rw [Rep] at h2; cases h2
   | non => exact cZ rfl h1 h2
   | bl k => exact cZ rfl h1 h2
   | int k => exact cZ rfl h1 h2
   | str k => exact cZ rfl h1 h2
theorem vB {A : Around} {s : Shared} {F : Hp} {d e : D} {v u : V} {v' u' : Value} (hd : flat d = true) (he : flat e = true) (h1 : Rep K F v d) (h2 : Rep K F u e) (r1 : RelV v v') (r2 : RelV u u') : SeqAt.EqAt A s v' u' (aW d e) := by
 cases d with
 | tup _ => cases hd
 | lst _ => cases hd
 | cD _ => cases hd
 | non =>
   rw [Rep] at h1; subst h1; cases (show v' = .none from r1)
   cases e with
   | tup _ => cases he
   | lst _ => cases he
   | cD _ => cases he
   | non => rw [Rep] at h2; subst h2; cases (show u' = .none from r2); rw [aW]; exact SeqAt.EqAt.same _
   | bl _ => rw [Rep] at h2; subst h2; cases (show u' = .bool _ from r2); simp only [aW]; exact SeqAt.EqAt.none_bool _
   | int _ => rw [Rep] at h2; subst h2; obtain ⟨t, rfl⟩ := r2; simp only [aW]; exact SeqAt.EqAt.none_int _ _
   | str _ => rw [Rep] at h2; subst h2; obtain ⟨t, rfl⟩ := r2; simp only [aW]; exact SeqAt.EqAt.none_str _ _
 | bl _ =>
   rw [Rep] at h1; subst h1; cases (show v' = .bool _ from r1)
   cases e with
   | tup _ => cases he
   | lst _ => cases he
   | cD _ => cases he
   | non => rw [Rep] at h2; subst h2; cases (show u' = .none from r2); simp only [aW]; exact SeqAt.EqAt.bool_none _
   | bl _ => rw [Rep] at h2; subst h2; cases (show u' = .bool _ from r2); simp only [aW]; exact SeqAt.EqAt.bool_bool _ _
   | int _ => rw [Rep] at h2; subst h2; obtain ⟨t, rfl⟩ := r2; simp only [aW]; exact SeqAt.EqAt.bool_int _ _ _
   | str _ => rw [Rep] at h2; subst h2; obtain ⟨t, rfl⟩ := r2; simp only [aW]; exact SeqAt.EqAt.bool_str _ _ _
 | int _ =>
   rw [Rep] at h1; subst h1; obtain ⟨t0, rfl⟩ := r1
   cases e with
   | tup _ => cases he
   | lst _ => cases he
   | cD _ => cases he
   | non => rw [Rep] at h2; subst h2; cases (show u' = .none from r2); simp only [aW]; exact SeqAt.EqAt.int_none _ _
   | bl _ => rw [Rep] at h2; subst h2; cases (show u' = .bool _ from r2); simp only [aW]; exact SeqAt.EqAt.int_bool _ _ _
   | int _ => rw [Rep] at h2; subst h2; obtain ⟨t, rfl⟩ := r2; simp only [aW]; exact SeqAt.EqAt.int_int _ _ _ _
   | str _ => rw [Rep] at h2; subst h2; obtain ⟨t, rfl⟩ := r2; simp only [aW]; exact SeqAt.EqAt.int_str _ _ _ _
 | str _ =>
   rw [Rep] at h1; subst h1; obtain ⟨t0, rfl⟩ := r1
   cases e with
   | tup _ => cases he
   | lst _ => cases he
   | cD _ => cases he
   | non => rw [Rep] at h2; subst h2; cases (show u' = .none from r2); simp only [aW]; exact SeqAt.EqAt.str_none _ _
   | bl _ => rw [Rep] at h2; subst h2; cases (show u' = .bool _ from r2); simp only [aW]; exact SeqAt.EqAt.str_bool _ _ _
   | int _ => rw [Rep] at h2; subst h2; obtain ⟨t, rfl⟩ := r2; simp only [aW]; exact SeqAt.EqAt.str_int _ _ _ _
   | str _ => rw [Rep] at h2; subst h2; obtain ⟨t, rfl⟩ := r2; simp only [aW]; exact SeqAt.EqAt.str_str _ _ _ _
theorem jD {A : Around} {s : Shared} {F : Hp} {ds : List D} {e : D} {u : V} {u' : Value} {a : Addr} {its : Array Value} (ht : s.heap.IsTuple a its) (hu : A.units < cLine) (he : flat e = true) (h2 : Rep K F u e) (r2 : RelV u u') :
 SeqAt.EqAt A s (.ref a) u' (aW (.tup ds) e) /\ SeqAt.EqAt A s u' (.ref a) (aW e (.tup ds)) := by
 cases e with
 | tup _ => cases he
 | lst _ => cases he
 | cD _ => cases he
 | non => rw [Rep] at h2; subst h2; cases (show u' = .none from r2); simp only [aW]; exact ⟨SeqAt.EqAt.tuple_none ht hu, SeqAt.EqAt.none_tuple ht hu⟩
 | bl _ => rw [Rep] at h2; subst h2; cases (show u' = .bool _ from r2); simp only [aW]; exact ⟨SeqAt.EqAt.tuple_bool _ ht hu, SeqAt.EqAt.bool_tuple _ ht hu⟩
 | int _ => rw [Rep] at h2; subst h2; obtain ⟨t, rfl⟩ := r2; simp only [aW]; exact ⟨SeqAt.EqAt.tuple_int _ _ ht hu, SeqAt.EqAt.int_tuple _ _ ht hu⟩
 | str _ => rw [Rep] at h2; subst h2; obtain ⟨t, rfl⟩ := r2; simp only [aW]; exact ⟨SeqAt.EqAt.tuple_str _ _ ht hu, SeqAt.EqAt.str_tuple _ _ ht hu⟩
theorem jA {A : Around} {s : Shared} {F : Hp} {ds : List D} {e : D} {u : V} {u' : Value} {a : Addr} {its : Array Value} (ht : s.heap.IsList a its) (hu : A.units < cLine) (he : flat e = true) (h2 : Rep K F u e) (r2 : RelV u u') :
 SeqAt.EqAt A s (.ref a) u' (aW (.lst ds) e) /\ SeqAt.EqAt A s u' (.ref a) (aW e (.lst ds)) := by
 cases e with
 | tup _ => cases he
 | lst _ => cases he
 | cD _ => cases he
 | non => rw [Rep] at h2; subst h2; cases (show u' = .none from r2); simp only [aW]; exact ⟨SeqAt.EqAt.list_none ht hu, SeqAt.EqAt.none_list ht hu⟩
 | bl _ => rw [Rep] at h2; subst h2; cases (show u' = .bool _ from r2); simp only [aW]; exact ⟨SeqAt.EqAt.list_bool _ ht hu, SeqAt.EqAt.bool_list _ ht hu⟩
 | int _ => rw [Rep] at h2; subst h2; obtain ⟨t, rfl⟩ := r2; simp only [aW]; exact ⟨SeqAt.EqAt.list_int _ _ ht hu, SeqAt.EqAt.int_list _ _ ht hu⟩
 | str _ => rw [Rep] at h2; subst h2; obtain ⟨t, rfl⟩ := r2; simp only [aW]; exact ⟨SeqAt.EqAt.list_str _ _ ht hu, SeqAt.EqAt.str_list _ _ ht hu⟩
theorem qO {n : Nat} {d : D} (h : cH n d = true) (h0 : n = 0) : flat d = true := by
 subst h0; cases d <;> first | rfl | simp [cH] at h
theorem Uj {X : Cx} {pins : List (Addr × Obj)} {σ : L2.St} {H F : Hp} {s : Shared} (I : L2.Inv X pins σ H s) (sm : aK F H) : ∀ (n : Nat) (A : Around), A.units + n < cLine -> ∀ (d e : D), cH n d = true -> cH n e = true -> ∀ (v u : V) (v' u' : Value),
 Rep X.K F v d -> Rep X.K F u e -> RelV v v' -> RelV u u' -> SeqAt.EqAt A s v' u' (aW d e) := by
 intro n
 induction n with
 | zero =>
   intro A hu d e hd he v u v' u' h1 h2 r1 r2
   exact vB (qO hd rfl) (qO he rfl) h1 h2 r1 r2
 | succ n ih =>
   intro A hu d e hd he v u v' u' h1 h2 r1 r2
   have hu0 : A.units < cLine := by omega
   have hu1 : A.in1.units + n < cLine := by show A.units + 1 + n < cLine; omega
   -- items by place
   have at_ : ∀ {xs ys : List V} {us ws : List Value} {ds es : List D} {j : Nat} (k1 : j < us.toArray.size) (k2 : j < ws.toArray.size), ds.all (cH n) = true -> es.all (cH n) = true -> Vals xs us -> Vals ys ws -> az X.K F xs ds -> az X.K F ys es ->
    SeqAt.EqAt A.in1 s us.toArray[j] ws.toArray[j] (aW (ds.getD j .non) (es.getD j .non)) := fun {xs ys us ws ds es j} k1 k2 a1 a2 v1 v2 p1 p2 => by
    have k1 : j < us.length := by simpa using k1
    have k2 : j < ws.length := by simpa using k2
    have l1 : j < ds.length := by rw [<- p1.length, v1.length]; exact k1
    have l2 : j < es.length := by rw [<- p2.length, v2.length]; exact k2
    obtain ⟨x, g1, g2⟩ := p1.get (show ds[j]? = some ds[j] by simp [l1])
    obtain ⟨y, g3, g4⟩ := p2.get (show es[j]? = some es[j] by simp [l2])
    obtain ⟨x', g5, g6⟩ := v1.get g1
    obtain ⟨y', g7, g8⟩ := v2.get g3
    have e1 : us.toArray[j] = x' := by have := (List.getElem?_eq_some_iff.mp g5).2; simpa using this
    have e2 : ws.toArray[j] = y' := by have := (List.getElem?_eq_some_iff.mp g7).2; simpa using this
    have e3 : ds.getD j .non = ds[j] := by simp [List.getD, l1]
    have e4 : es.getD j .non = es[j] := by simp [List.getD, l2]
    rw [e1, e2, e3, e4]
    exact ih A.in1 hu1 _ _ (List.all_eq_true.mp a1 _ (List.getElem_mem l1)) (List.all_eq_true.mp a2 _ (List.getElem_mem l2)) x y x' y' g2 g4 g6 g8
   -- the same object
   have same : ∀ {a : Addr}, v = .ref a -> u = .ref a -> SeqAt.EqAt A s v' u' (aW d e) := fun {a} q1 q2 => by
    subst q1; subst q2
    have := CP I sm (n + 1) d hd _ e h1 h2
    subst this
    rw [gP]
    cases r1; cases r2
    exact SeqAt.EqAt.same _
   cases d with
   | cD _ => simp [cH] at hd
   | tup ds =>
     have ha : ds.all (cH n) = true := by simpa [cH] using hd
     have h1' := h1
     rw [Rep] at h1'
     obtain ⟨a, xs, rfl, z1, z2⟩ := h1'
     cases r1
     obtain ⟨us, v1, p1, _⟩ := I.tuple (aK.iT sm z1)
     cases e with
     | cD _ => simp [cH] at he
     | tup es =>
       have hb : es.all (cH n) = true := by simpa [cH] using he
       have h2' := h2
       rw [Rep] at h2'
       obtain ⟨b, ys, rfl, w1, w2⟩ := h2'
       by_cases hab : a = b
       . subst hab; exact same rfl rfl
       . cases r2
         obtain ⟨ws, v2, p2, _⟩ := I.tuple (aK.iT sm w1)
         refine .of_refs hab ?_
         have z := SeqAt.RcAt.tuples (A := A) (e := fun j => aW (ds.getD j .non) (es.getD j .non)) p1 p2 hu0 fun j k1 k2 => at_ k1 k2 ha hb v1 v2 z2 w2
         have l1 : us.toArray.size = ds.length := by rw [List.size_toArray, <- v1.length, z2.length]
         have l2 : ws.toArray.size = es.length := by rw [List.size_toArray, <- v2.length, w2.length]
         rw [l1, l2] at z
         have e0 : aW (.tup ds) (.tup es) = ((List.range (min ds.length es.length)).all (fun j => aW (ds.getD j .non) (es.getD j .non)) && ds.length == es.length) := by
          rw [aW]
          by_cases hl : ds.length = es.length
          . rw [dZ hl, hl]; simp
          . rw [gj hl]
            have : (ds.length == es.length) = false := by simpa using hl
            rw [this, Bool.and_false]
         rw [e0]
         exact z
     | lst es =>
       rw [Rep] at h2
       obtain ⟨b, ys, rfl, w1, w2⟩ := h2
       cases r2
       obtain ⟨ws, v2, p2, _⟩ := I.list (sm.seq w1)
       simp only [aW]
       exact SeqAt.EqAt.tuple_list p1 p2.isList hu0
     | non => exact (jD p1 hu0 rfl h2 r2).1
     | bl _ => exact (jD p1 hu0 rfl h2 r2).1
     | int _ => exact (jD p1 hu0 rfl h2 r2).1
     | str _ => exact (jD p1 hu0 rfl h2 r2).1
   | lst ds =>
     have ha : ds.all (cH n) = true := by simpa [cH] using hd
     have h1' := h1
     rw [Rep] at h1'
     obtain ⟨a, xs, rfl, z1, z2⟩ := h1'
     cases r1
     obtain ⟨us, v1, p1, _⟩ := I.list (sm.seq z1)
     cases e with
     | cD _ => simp [cH] at he
     | lst es =>
       have hb : es.all (cH n) = true := by simpa [cH] using he
       have h2' := h2
       rw [Rep] at h2'
       obtain ⟨b, ys, rfl, w1, w2⟩ := h2'
       by_cases hab : a = b
       . subst hab; exact same rfl rfl
       . cases r2
         obtain ⟨ws, v2, p2, _⟩ := I.list (sm.seq w1)
         refine .of_refs hab ?_
         have l1 : us.toArray.size = ds.length := by rw [List.size_toArray, <- v1.length, z2.length]
         have l2 : ws.toArray.size = es.length := by rw [List.size_toArray, <- v2.length, w2.length]
         rw [aW]
         by_cases hl : ds.length = es.length
         . have z := SeqAt.RcAt.lists (A := A) (e := fun j => aW (ds.getD j .non) (es.getD j .non)) p1.isList p2.isList (by rw [l1, l2, hl]) hu0 fun j k1 k2 => at_ k1 k2 ha hb v1 v2 z2 w2
           rw [l1] at z
           rw [dZ hl]
           exact z
         . rw [gj hl]
           exact SeqAt.RcAt.lists_lengths p1.isList p2.isList (by rw [l1, l2]; simpa using hl) hu0
     | tup es =>
       rw [Rep] at h2
       obtain ⟨b, ys, rfl, w1, w2⟩ := h2
       cases r2
       obtain ⟨ws, v2, p2, _⟩ := I.tuple (aK.iT sm w1)
       simp only [aW]
       exact SeqAt.EqAt.list_tuple p1.isList p2 hu0
     | non => exact (jA p1.isList hu0 rfl h2 r2).1
     | bl _ => exact (jA p1.isList hu0 rfl h2 r2).1
     | int _ => exact (jA p1.isList hu0 rfl h2 r2).1
     | str _ => exact (jA p1.isList hu0 rfl h2 r2).1
   | non | bl _ | int _ | str _ =>
     cases e with
     | cD _ => simp [cH] at he
     | tup es =>
       rw [Rep] at h2
       obtain ⟨b, ys, rfl, w1, w2⟩ := h2
       cases r2
       obtain ⟨ws, v2, p2, _⟩ := I.tuple (aK.iT sm w1)
       exact (jD p2 hu0 rfl h1 r1).2
     | lst es =>
       rw [Rep] at h2
       obtain ⟨b, ys, rfl, w1, w2⟩ := h2
       cases r2
       obtain ⟨ws, v2, p2, _⟩ := I.list (sm.seq w1)
       exact (jA p2.isList hu0 rfl h1 r1).2
     | _ => exact vB rfl rfl h1 h2 r1 r2
end
end HH
end
section
namespace HH
open PySem L2 PySem.Spec PyProof.Rows
section
variable {X : Cx} {pins : List (Addr × Obj)} {σ : L2.St} {H F : Hp} {s : Shared} {A : Around}
noncomputable abbrev RC (A : Around) (s : Shared) (v u : Value) (k : Bool) : Prop := SeqAt.RcAt A s v u k /\ SeqAt.RcNeAt A s v u (!k)
inductive Top (X : Cx) (F H : Hp) (s : Shared) : Value -> D -> Prop where
 | non : Top X F H s .none .non
 | bl (b : Bool) : Top X F H s (.bool b) (.bl b)
 | int (i : Int) (t : Tok) : Top X F H s (.int i t) (.int i)
 | str (x : Str) (t : Tok) : Top X F H s (.str x t) (.str x)
 | tup {a : Addr} {us : List Value} {xs : List V} {ds : List D} (ht : s.heap.IsTuple a us.toArray) (hv : Vals xs us) (hr : az X.K F xs ds) : Top X F H s (.ref a) (.tup ds)
 | lst {a : Addr} {us : List Value} {xs : List V} {ds : List D} (ht : s.heap.IsList a us.toArray) (hv : Vals xs us) (hr : az X.K F xs ds) : Top X F H s (.ref a) (.lst ds)
theorem pX (I : L2.Inv X pins σ H s) (sm : aK F H) {v : V} {v' : Value} {d : D} (hd : cH 8 d = true) (h : cU X.K F H v d) (r : RelV v v') : Top X F H s v' d := by
 cases d with
 | cD _ => simp [cH] at hd
 | non => rw [h.non] at r; cases r; exact .non
 | bl b => rw [h.bl] at r; cases r; exact .bl b
 | int i => rw [h.int] at r; obtain ⟨t, rfl⟩ := r; exact .int i t
 | str x => rw [h.str] at r; obtain ⟨t, rfl⟩ := r; exact .str x t
 | tup ds =>
   obtain ⟨a, xs, rfl, h1, h2, _⟩ := h.tup sm
   cases r
   obtain ⟨us, v1, p1, _⟩ := I.tuple h1
   exact .tup p1 v1 h2
 | lst ds =>
   obtain ⟨a, xs, rfl, h1, h2⟩ := h.lst sm
   cases r
   obtain ⟨us, v1, p1, _⟩ := I.list h1
   exact .lst p1.isList v1 h2
theorem Qa (I : L2.Inv X pins σ H s) (sm : aK F H) {n : Nat} (hu : A.units + (n + 1) < cLine) {d e : D} (hd : cH (n + 1) d = true) (he : cH (n + 1) e = true) {v' u' : Value} (h1 : Top X F H s v' d) (h2 : Top X F H s u' e) : RC A s v' u' (aW d e) := by
 have hu0 : A.units < cLine := by omega
 have hu1 : A.in1.units + n < cLine := by show A.units + 1 + n < cLine; omega
 have at_ : ∀ {xs ys : List V} {us ws : List Value} {ds es : List D} {j : Nat} (k1 : j < us.toArray.size) (k2 : j < ws.toArray.size), ds.all (cH n) = true -> es.all (cH n) = true -> Vals xs us -> Vals ys ws -> az X.K F xs ds -> az X.K F ys es ->
  SeqAt.EqAt A.in1 s us.toArray[j] ws.toArray[j] (aW (ds.getD j .non) (es.getD j .non)) := fun {xs ys us ws ds es j} k1 k2 a1 a2 v1 v2 p1 p2 => by
  have k1 : j < us.length := by simpa using k1
  have k2 : j < ws.length := by simpa using k2
  have l1 : j < ds.length := by rw [<- p1.length, v1.length]; exact k1
  have l2 : j < es.length := by rw [<- p2.length, v2.length]; exact k2
  obtain ⟨x, g1, g2⟩ := p1.get (show ds[j]? = some ds[j] by simp [l1])
  obtain ⟨y, g3, g4⟩ := p2.get (show es[j]? = some es[j] by simp [l2])
  obtain ⟨x', g5, g6⟩ := v1.get g1
  obtain ⟨y', g7, g8⟩ := v2.get g3
  have e1 : us.toArray[j] = x' := by have := (List.getElem?_eq_some_iff.mp g5).2; simpa using this
  have e2 : ws.toArray[j] = y' := by have := (List.getElem?_eq_some_iff.mp g7).2; simpa using this
  have e3 : ds.getD j .non = ds[j] := by simp [List.getD, l1]
  have e4 : es.getD j .non = es[j] := by simp [List.getD, l2]
  rw [e1, e2, e3, e4]
  exact Uj I sm n A.in1 hu1 _ _ (List.all_eq_true.mp a1 _ (List.getElem_mem l1)) (List.all_eq_true.mp a2 _ (List.getElem_mem l2)) x y x' y' g2 g4 g6 g8
 cases h1 with
 | non =>
   cases h2 with
   | non => simp only [aW]; exact ⟨SeqAt.RcAt.none_none, SeqAt.RcNeAt.none_none⟩
   | bl b => simp only [aW]; exact ⟨SeqAt.RcAt.none_bool _, SeqAt.RcNeAt.none_bool _⟩
   | int i t => simp only [aW]; exact ⟨SeqAt.RcAt.none_int _ _, SeqAt.RcNeAt.none_int _ _⟩
   | str i t => simp only [aW]; exact ⟨SeqAt.RcAt.none_str _ _, SeqAt.RcNeAt.none_str _ _⟩
   | tup ht _ _ => simp only [aW]; exact ⟨SeqAt.RcAt.none_tuple ht hu0, SeqAt.RcNeAt.none_tuple ht hu0⟩
   | lst ht _ _ => simp only [aW]; exact ⟨SeqAt.RcAt.none_list ht hu0, SeqAt.RcNeAt.none_list ht hu0⟩
 | bl b0 =>
   cases h2 with
   | non => simp only [aW]; exact ⟨SeqAt.RcAt.bool_none _, SeqAt.RcNeAt.bool_none _⟩
   | bl b => simp only [aW]; exact ⟨SeqAt.RcAt.bool_bool _ _, SeqAt.RcNeAt.bool_bool _ _⟩
   | int i t => simp only [aW]; exact ⟨SeqAt.RcAt.bool_int _ _ _, SeqAt.RcNeAt.bool_int _ _ _⟩
   | str i t => simp only [aW]; exact ⟨SeqAt.RcAt.bool_str _ _ _, SeqAt.RcNeAt.bool_str _ _ _⟩
   | tup ht _ _ => simp only [aW]; exact ⟨SeqAt.RcAt.bool_tuple _ ht hu0, SeqAt.RcNeAt.bool_tuple _ ht hu0⟩
   | lst ht _ _ => simp only [aW]; exact ⟨SeqAt.RcAt.bool_list _ ht hu0, SeqAt.RcNeAt.bool_list _ ht hu0⟩
 | int i0 t0 =>
   cases h2 with
   | non => simp only [aW]; exact ⟨SeqAt.RcAt.int_none _ _, SeqAt.RcNeAt.int_none _ _⟩
   | bl b => simp only [aW]; exact ⟨SeqAt.RcAt.int_bool _ _ _, SeqAt.RcNeAt.int_bool _ _ _⟩
   | int i t => simp only [aW]; exact ⟨SeqAt.RcAt.int_int _ _ _ _, SeqAt.RcNeAt.int_int _ _ _ _⟩
   | str i t => simp only [aW]; exact ⟨SeqAt.RcAt.int_str _ _ _ _, SeqAt.RcNeAt.int_str _ _ _ _⟩
   | tup ht _ _ => simp only [aW]; exact ⟨SeqAt.RcAt.int_tuple _ _ ht hu0, SeqAt.RcNeAt.int_tuple _ _ ht hu0⟩
   | lst ht _ _ => simp only [aW]; exact ⟨SeqAt.RcAt.int_list _ _ ht hu0, SeqAt.RcNeAt.int_list _ _ ht hu0⟩
 | str i0 t0 =>
   cases h2 with
   | non => simp only [aW]; exact ⟨SeqAt.RcAt.str_none _ _, SeqAt.RcNeAt.str_none _ _⟩
   | bl b => simp only [aW]; exact ⟨SeqAt.RcAt.str_bool _ _ _, SeqAt.RcNeAt.str_bool _ _ _⟩
   | int i t => simp only [aW]; exact ⟨SeqAt.RcAt.str_int _ _ _ _, SeqAt.RcNeAt.str_int _ _ _ _⟩
   | str i t => simp only [aW]; exact ⟨SeqAt.RcAt.str_str _ _ _ _, SeqAt.RcNeAt.str_str _ _ _ _⟩
   | tup ht _ _ => simp only [aW]; exact ⟨SeqAt.RcAt.str_tuple _ _ ht hu0, SeqAt.RcNeAt.str_tuple _ _ ht hu0⟩
   | lst ht _ _ => simp only [aW]; exact ⟨SeqAt.RcAt.str_list _ _ ht hu0, SeqAt.RcNeAt.str_list _ _ ht hu0⟩
 | @tup a us xs ds ht hv hr =>
   have ha : ds.all (cH n) = true := by simpa [cH] using hd
   cases h2 with
   | non => simp only [aW]; exact ⟨SeqAt.RcAt.tuple_none ht hu0, SeqAt.RcNeAt.tuple_none ht hu0⟩
   | bl b => simp only [aW]; exact ⟨SeqAt.RcAt.tuple_bool _ ht hu0, SeqAt.RcNeAt.tuple_bool _ ht hu0⟩
   | int i t => simp only [aW]; exact ⟨SeqAt.RcAt.tuple_int _ _ ht hu0, SeqAt.RcNeAt.tuple_int _ _ ht hu0⟩
   | str i t => simp only [aW]; exact ⟨SeqAt.RcAt.tuple_str _ _ ht hu0, SeqAt.RcNeAt.tuple_str _ _ ht hu0⟩
   | lst xU _ _ => simp only [aW]; exact ⟨SeqAt.RcAt.tuple_list ht xU hu0, SeqAt.RcNeAt.tuple_list ht xU hu0⟩
   | @tup b ws ys es xU hv2 hr2 =>
     have hb : es.all (cH n) = true := by simpa [cH] using he
     have l1 : us.toArray.size = ds.length := by rw [List.size_toArray, <- hv.length, hr.length]
     have l2 : ws.toArray.size = es.length := by rw [List.size_toArray, <- hv2.length, hr2.length]
     have z1 := SeqAt.RcAt.tuples (A := A) (e := fun j => aW (ds.getD j .non) (es.getD j .non)) ht xU hu0 fun j k1 k2 => at_ k1 k2 ha hb hv hv2 hr hr2
     have z2 := SeqAt.RcNeAt.tuples (A := A) (e := fun j => aW (ds.getD j .non) (es.getD j .non)) ht xU hu0 fun j k1 k2 => at_ k1 k2 ha hb hv hv2 hr hr2
     rw [l1, l2] at z1 z2
     have e0 : aW (.tup ds) (.tup es) = ((List.range (min ds.length es.length)).all (fun j => aW (ds.getD j .non) (es.getD j .non)) && ds.length == es.length) := by
      rw [aW]
      by_cases hl : ds.length = es.length
      . rw [dZ hl, hl]; simp
      . rw [gj hl]
        have : (ds.length == es.length) = false := by simpa using hl
        rw [this, Bool.and_false]
     rw [e0]
     exact ⟨z1, z2⟩
 | @lst a us xs ds ht hv hr =>
   have ha : ds.all (cH n) = true := by simpa [cH] using hd
   cases h2 with
   | non => simp only [aW]; exact ⟨SeqAt.RcAt.list_none ht hu0, SeqAt.RcNeAt.list_none ht hu0⟩
   | bl b => simp only [aW]; exact ⟨SeqAt.RcAt.list_bool _ ht hu0, SeqAt.RcNeAt.list_bool _ ht hu0⟩
   | int i t => simp only [aW]; exact ⟨SeqAt.RcAt.list_int _ _ ht hu0, SeqAt.RcNeAt.list_int _ _ ht hu0⟩
   | str i t => simp only [aW]; exact ⟨SeqAt.RcAt.list_str _ _ ht hu0, SeqAt.RcNeAt.list_str _ _ ht hu0⟩
   | tup xU _ _ => simp only [aW]; exact ⟨SeqAt.RcAt.list_tuple ht xU hu0, SeqAt.RcNeAt.list_tuple ht xU hu0⟩
   | @lst b ws ys es xU hv2 hr2 =>
     have hb : es.all (cH n) = true := by simpa [cH] using he
     have l1 : us.toArray.size = ds.length := by rw [List.size_toArray, <- hv.length, hr.length]
     have l2 : ws.toArray.size = es.length := by rw [List.size_toArray, <- hv2.length, hr2.length]
     rw [show aW (.lst ds) (.lst es) = dI ds es by rw [aW]]
     by_cases hl : ds.length = es.length
     . have z1 := SeqAt.RcAt.lists (A := A) (e := fun j => aW (ds.getD j .non) (es.getD j .non)) ht xU (by rw [l1, l2, hl]) hu0 fun j k1 k2 => at_ k1 k2 ha hb hv hv2 hr hr2
       have z2 := SeqAt.RcNeAt.lists (A := A) (e := fun j => aW (ds.getD j .non) (es.getD j .non)) ht xU (by rw [l1, l2, hl]) hu0 fun j k1 k2 => at_ k1 k2 ha hb hv hv2 hr hr2
       rw [l1] at z1 z2
       rw [dZ hl]
       exact ⟨z1, z2⟩
     . rw [gj hl]
       exact ⟨SeqAt.RcAt.lists_lengths ht xU (by rw [l1, l2]; simpa using hl) hu0, SeqAt.RcNeAt.lists_lengths ht xU (by rw [l1, l2]; simpa using hl) hu0⟩
theorem iJ (hu : X.A.units + 8 < cLine) : fP X (compareOp .Eq) (rD X.K (tL .eq)) := by
 rintro pins s σ H x y v u Q I rx ry ⟨F, d, e, r, sm, px, py, he, k⟩
 obtain ⟨t, e1, e2⟩ := map_some (show (qj d e).map _ = some r from he)
 subst e2
 unfold qj at e1
 obtain ⟨hd, e1⟩ := bh e1
 rw [Bool.and_eq_true] at hd
 subst e1
 exact (Qa I sm (n := 7) hu hd.1 hd.2 (pX I sm hd.1 px rx) (pX I sm hd.2 py ry)).1 _ _ _ _ ⟨.bl _, H, I, rfl, cj.dG sm (nJ _) k⟩
theorem pA (hu : X.A.units + 8 < cLine) : fP X (compareOp .NotEq) (rD X.K (tL .ne)) := by
 rintro pins s σ H x y v u Q I rx ry ⟨F, d, e, r, sm, px, py, he, k⟩
 obtain ⟨t, e1, e2⟩ := map_some (show (pK d e).map _ = some r from he)
 subst e2
 unfold pK at e1
 obtain ⟨hd, e1⟩ := bh e1
 rw [Bool.and_eq_true] at hd
 subst e1
 exact (Qa I sm (n := 7) hu hd.1 hd.2 (pX I sm hd.1 px rx) (pX I sm hd.2 py ry)).2 _ _ _ _ ⟨.bl _, H, I, rfl, cj.dG sm (nJ _) k⟩
end
end HH
end
section
namespace HH
open PySem L2 PySem.Spec PyProof.Rows
section
variable {Pg : Program} {w : World} {K : PySem.W.Frag} {mg : Str -> Option Value} {base : Heap}
theorem dB {x qual : Str} {st : Stmt} {f : Addr} {fd : FuncData} {N ps : List Str} {k n : Nat} {c : Call} {d : Fd} (Fu : lA K x qual st f fd) (S : bj N ps (aD st)) (h1 : d.np = ps.length) (h2 : d.nn = N.length)
 (hb : ∀ (cdv : Value) (A : Around) (outer : List Env) (s : Shared) (H : Hp) (E : XK), gO k (A.deeper (envOfC qual (aD st) s.heap.objs.size f cdv)) -> SB (tZ j6 Pg w K mg base N qual (aD st) f cdv A outer s H E).N7 c n (dH st) d.body) :
 cT Pg w K mg base j6 (k + 1) f fd ps (lr K ps.length (fun args => enter c n d args)) := by
 refine Fu.ok S (fun vs H Q E h => h.1) fun cdv A outer s H vs Q E hr h => ?_
 obtain ⟨hl, F, args, r, args', g, e, q⟩ := h
 refine ⟨_, hb cdv A outer s H E hr, ?_⟩
 replace e : enter c n d args = .ok r args' := e
 unfold enter at e
 split at e
 . rename_i hc
   obtain ⟨c1, c2⟩ := hc
   have hg := g.more (n := d.nn - d.np) (τ := List.replicate (N.length - vs.length) none) (by simp [h1, h2, hl])
   have hla : args.length = d.np := c1
   have go : ∀ {fl : Fl} {ρ' : List Sl}, fc c n d.body (args ++ List.replicate (d.nn - d.np) .aX) = .ok fl ρ' -> (∀ F' σ' H', bB K F (args ++ List.replicate (d.nn - d.np) .aX) (start N vs) H F' ρ' σ' H' -> (match fl with
    | .next => Q .non H'
    | .brk => False
    | .cont => False
    | .ret r => ∀ v, bO K F' ρ' σ' H' (args ++ List.replicate (d.nn - d.np) .aX) (start N vs) H v r -> Q v H')) ->
    Ol K (fc c n d.body) { nx := fun _ H' => Q .non H', rt := Q } (start N vs) H := fun {fl ρ'} z k => ⟨F, _, fl, ρ', hg, z, fun F' σ' H' s => by
    have := k F' σ' H' s
    cases fl <;> exact this⟩
   split at e
   . rename_i ρ' z
     cases e
     refine go z fun F' σ' H' s => ?_
     obtain ⟨z1, z2⟩ := bB.less (m := d.np) hla.symm g (by simp [h1, h2, hl]) s
     exact q .non F' _ H' z1 (show Rep K F' _ _ from Iu)
   . rename_i r' ρ' z
     cases e
     refine go z fun F' σ' H' s v rr => ?_
     obtain ⟨z1, z2⟩ := bB.less (m := d.np) hla.symm g (by simp [h1, h2, hl]) s
     exact q v F' _ H' z1 (z2 v r rr)
   . split at e <;> cases e
 . cases e
structure aJ (Pg : Program) (w : World) (K : PySem.W.Frag) (mg : Str -> Option Value) (base : Heap) (k : Nat) (c : Call) (i : Nat) (x : Str) (np : Nat) : Prop where
 ex : ∃ fa fd qs, cT Pg w K mg base j6 k fa fd qs (lr K qs.length (c i)) /\ mg x = some (.ref fa) /\ PySem.W.keepIn K (.ref fa) = true /\ Binds K fd qs [] /\ qs.length = np
end
section
variable {X : Cx} {c : Call} {n k : Nat} {e a b : Expr} {es : List Expr} {p pa pb : P} {ps : List P} {pos : Pos}
theorem sv (i : Nat) {x : Str} (hN : X.N[i]? = some x := by rfl) (hv : xX X.env.scope x := by first | exact Or.inl rfl | exact Or.inr (Or.inl rfl) | exact Or.inr (Or.inr rfl)) (hd : (x == ("__debug__" : Str)) = false := by rfl) (hcd : (x == ("__classdict__" : Str)) = false := by rfl) : SX X c (.Name x pos) (.var i) := HY hN hv hd hcd
theorem gh {i np : Nat} {x : Str} {p' : Pos} (C : aJ X.prog X.w X.K X.mg X.base k c i x np) (hr : gO k X.A) (ha : SG X c (e :: es) ps) (hg : Gl X x := by rfl) (hl : (e :: es).length = np := by rfl) (hdb : (x == ("__debug__" : Str)) = false := by rfl)
 (he : starEach (e :: es) X.env = (false, eval e X.env) :: starEach es X.env := by rfl) (hpl : (backTo pos (starEach es X.env)).any (·.1) = false := by rfl) (hl2 : ps.length = (e :: es).length := by rfl) : SX X c (.Call (.Name x p') (e :: es) [] pos) (.call i ps) := by
 obtain ⟨fa, fd, qs, h1, h2, h3, h4, h5⟩ := C.ex
 exact Ea h1 hr hg h2 h3 h4 ha (hl.trans h5.symm) hdb he hpl hl2
noncomputable def Gd (names outer : List (Str × NameKind)) (N N' : List Str) (n : Nat) : Bool :=
 (names.all fun y => names.lookup y.1 == some y.2) && (names.all fun y => y.2 != .local || names.lookup y.1 == some .local) && (names.all fun y => y.2 != .free || outer.lookup y.1 == some .cell || outer.lookup y.1 == some .free) && N'.length == N.length + n &&
 ((N.zip N').all fun p => (p.1 == p.2 && names.lookup p.2 == some .free) || (names.lookup p.2 != some .local && names.lookup p.2 != some .cell && names.lookup p.2 != some .free))
theorem yU {scope : Scope} {N' : List Str} (hk : scope.kind = .function) (h : Gd scope.names X.env.scope.names X.N N' n = true) : eE X scope N' n := by
 unfold Gd at h
 simp only [Bool.and_eq_true] at h
 obtain ⟨⟨⟨⟨h1, h2⟩, h3⟩, h4⟩, h5⟩ := h
 refine ⟨hk, fun y hy => eq_of_beq (List.all_eq_true.mp h1 y hy), fun y hy e => ?_, fun y hy e => ?_, by simpa using h4, h5⟩
 . have := List.all_eq_true.mp h2 y hy
   rw [e] at this
   simpa using this
 . have := List.all_eq_true.mp h3 y hy
   rw [e] at this
   simp only [Bool.or_eq_true] at this
   rcases this with (z | z) | z
   . cases z
   . exact .inl (eq_of_beq z)
   . exact .inr (eq_of_beq z)
theorem cI {A : Around} (h : gO k A) : A.units + 8 < cLine := by have := h.un; omega
end
end HH
end
section
namespace HH
open PySem L2 PySem.Spec PyProof.Rows
structure cO (K : PySem.W.Frag) (x : Str) (st : Stmt) : Prop where
 ex : ∃ f fd, PySem.W.nsIn K mainGlobals x = some (some (.ref f)) /\ lA K x x st f fd
section
variable {Pg : Program} {w : World} {K : PySem.W.Frag} {mg : Str -> Option Value} {base h : Heap}
theorem cC {x : Str} {st : Stmt} {f : Addr} {oc : Value} {od an : Option Addr} {osl : Array (Option Value)} {kV doc pm cdv ct : Value} (a : PySem.W.nsIn K mainGlobals x = some (some (.ref f)))
 (l : K.lookup f = some ⟨oc, od, .func (PySem.W.fnOf x x (fO st) (dH st) (aD st) .none kV doc pm an cdv ct), osl⟩)
 (c : PySem.W.codeIn K cdv x = true) (k : PySem.W.keepIn K (.ref f) = true) : cO K x st := ⟨_, _, a, Gv l c k⟩
theorem dz {Γ : Tab} {wl i np : Nat} {x : Str} {st : Stmt} {ps : List Str} (X : K.In h) (G : h.Ns mainGlobals mg) (D : cO K x st) (hp : ps.length = np)
 (hb : ∀ (kV doc pm : Value) (an : Option Addr) (cdv ct : Value) (us : List Value), us.length = ps.length -> bindArgs (PySem.W.fnOf x x (fO st) (dH st) (aD st) .none kV doc pm an cdv ct) ⟨us, []⟩ = pure (ps.zip us)) :
 aJ Pg w K mg base 0 (run Γ wl 0) i x np := by
 obtain ⟨f, fd, a, F⟩ := D.ex
 exact ⟨f, fd, ps, ⟨fun vs H Q E s => s.1, fun A outer s H args us vs Q E hr e b v sp => by obtain ⟨_, F, as, r, as', _, z, _⟩ := sp; cases z⟩, PySem.W.mg_of X G a, F.kp, F.binds hb, hp⟩
theorem dq {Γ : Tab} {wl n i np : Nat} {x : Str} {st : Stmt} {ps : List Str} {d : Fd} (X : K.In h) (G : h.Ns mainGlobals mg) (D : cO K x st) (hp : ps.length = np) (hΓ : Γ i = some d)
 (hb : ∀ (kV doc pm : Value) (an : Option Addr) (cdv ct : Value) (us : List Value), us.length = ps.length -> bindArgs (PySem.W.fnOf x x (fO st) (dH st) (aD st) .none kV doc pm an cdv ct) ⟨us, []⟩ = pure (ps.zip us))
 (ok : ∀ f fd, lA K x x st f fd -> cT Pg w K mg base j6 (n + 1) f fd ps (lr K np (fun args => enter (run Γ wl n) wl d args))) :
 aJ Pg w K mg base (n + 1) (run Γ wl (n + 1)) i x np := by
 obtain ⟨f, fd, a, F⟩ := D.ex
 refine ⟨f, fd, ps, ?_, PySem.W.mg_of X G a, F.kp, F.binds hb, hp⟩
 have e : run Γ wl (n + 1) i = fun args => enter (run Γ wl n) wl d args := by
  funext args
  show (match Γ i with | some d => enter (run Γ wl n) wl d args | none => .stuck) = _
  rw [hΓ]
 rw [e, hp]
 exact ok f fd F
theorem nG {F : Hp} : ∀ ns : List Int, az K F (ns.map V.int) (ns.map D.int)
 | [] => .nil
 | n :: ns => .cons (cA n) (nG ns)
theorem xF {H : Hp} {a : Addr} {ns : List Int} {g : List Sl -> Res R} {as : List Sl} (hS : dW K H a (ns.map V.int)) (hr : g [.val false (.lst (ns.map D.int))] = .ok (.val (.bl true)) as) :
 lr K 1 g [.ref a] H (fun v _ => v = .bl true) fun _ _ _ => False := by
 refine ⟨rfl, H, _, _, as, ⟨.refl _, rfl, fun i b d e => ?_, fun i s ds e e' => ?_, fun i j c h => ?_⟩, hr, fun v F' σ' H' s rr => ?_⟩
 . match i, e with
   | 0, e =>
     cases e
     refine ⟨.ref a, rfl, ?_⟩
     rw [Rep]
     exact ⟨a, _, rfl, hS, nG ns⟩
   | i + 1, e => simp at e
 . match i, e with
   | 0, e => cases e; cases e'
   | i + 1, e => simp at e
 . obtain ⟨⟨s, ds, e, e'⟩, _⟩ := h
   match i, e with
   | 0, e => cases e; cases e'
   | i + 1, e => simp at e
 . have rr : Rep K F' v (.bl true) := rr
   rw [Rep] at rr
   exact rr
end
end HH
end
section
namespace HH
open PySem
noncomputable def Res.sat {α : Type} (Q : α -> List Sl -> Prop) (x : Res α) : Prop := match x with
 | .ok a ρ => Q a ρ
 | .exc _ _ => False
 | .stuck => False
section
variable {α β : Type} {Q Q' : α -> List Sl -> Prop}
@[simp] theorem zq {a : α} {ρ : List Sl} : (Res.ok a ρ).sat Q = Q a ρ := rfl
@[simp] theorem Q8 {k : Nat} {ρ : List Sl} : (Res.exc k ρ : Res α).sat Q = False := rfl
@[simp] theorem Lb : (Res.stuck : Res α).sat Q = False := rfl
theorem bf {x : Res β} {f : β -> List Sl -> Res α} : (x.bind f).sat Q = x.sat fun a ρ => (f a ρ).sat Q := by cases x <;> rfl
@[simp] theorem Rj {p : Prop} [Decidable p] {x y : Res α} : (if p then x else y).sat Q = ((p -> x.sat Q) /\ (¬ p -> y.sat Q)) := by
  by_cases h : p <;> simp [h]
@[simp] theorem nA {a : α} {ρ : List Sl} : (lift (some a) ρ).sat Q = Q a ρ := rfl
@[simp] theorem Be {ρ : List Sl} : (lift (none : Option α) ρ).sat Q = False := rfl
@[simp] theorem BP {p : Prop} [Decidable p] {a : α} {ρ : List Sl} : (lift (if p then some a else none) ρ).sat Q = (p /\ Q a ρ) := by
  by_cases h : p <;> simp [h]
theorem Res.sat.imp {x : Res α} (h : x.sat Q) (k : ∀ a ρ, Q a ρ -> Q' a ρ) : x.sat Q' := by
 cases x with
 | ok a ρ => exact k a ρ h
 | exc _ _ => exact h
 | stuck => exact h
theorem sat_iff {x : Res α} : x.sat Q ↔ ∃ a ρ, x = .ok a ρ /\ Q a ρ := by
 cases x with
 | ok a ρ => exact ⟨fun h => ⟨a, ρ, rfl, h⟩, fun ⟨_, _, e, h⟩ => by cases e; exact h⟩
 | exc _ _ => exact ⟨fun h => h.elim, fun ⟨_, _, e, _⟩ => by cases e⟩
 | stuck => exact ⟨fun h => h.elim, fun ⟨_, _, e, _⟩ => by cases e⟩
end
theorem Ms {α : Type} {x y : Res α} {Q : α -> List Sl -> Prop} (h : x = y) : x.sat Q = y.sat Q := by rw [h]
theorem bind_congr {α β : Type} {x y : Res α} {f : α -> List Sl -> Res β} (h : x = y) : x.bind f = y.bind f := by rw [h]
noncomputable def fr : Sl -> Bool
 | .aX => true
 | .val b _ => !b
 | .own b _ => !b
 | .lent _ => false
 | .eF _ => false
@[simp] theorem V2 : fr .aX = true := rfl
@[simp] theorem T3 {b : Bool} {d : D} : fr (.val b d) = !b := rfl
@[simp] theorem Tq {b : Bool} {d : List D} : fr (.own b d) = !b := rfl
@[simp] theorem Ro {d : List D} : fr (.lent d) = false := rfl
theorem J4 (ρ : List Sl) (i : Nat) (s : Sl) : put ρ i s = match ρ[i]? with | some t => if fr t = true then some (ρ.set i s) else none | none => none := by
 unfold put
 cases h : ρ[i]? with
 | none => rfl
 | some t => cases t with
   | aX => rfl
   | val b d => cases b <;> rfl
   | own b d => cases b <;> rfl
   | lent d => rfl
   | eF m => rfl
theorem yP {Γ : Tab} {w n i : Nat} {d : Fd} {args : List Sl} (h : Γ i = some d) : run Γ w (n + 1) i args = enter (run Γ w n) w d args := by
 rw [run, h]
noncomputable def fin (np : Nat) : Fl -> List Sl -> Option (R × List Sl)
 | .next, ρ => some (.val .non, ρ.take np)
 | .ret r, ρ => some (r, ρ.take np)
 | _, _ => none
noncomputable def eQ (np : Nat) (Q : R -> List Sl -> Prop) (fl : Fl) (ρ : List Sl) : Prop := match fl with | .next => Q (.val .non) (ρ.take np) | .ret r => Q r (ρ.take np) | _ => False
noncomputable def sQ (c : Call) (n : Nat) (r : List S) (Q : Fl -> List Sl -> Prop) (fl : Fl) (ρ : List Sl) : Prop := match fl with | .next => (fc c n r ρ).sat Q | fl => Q fl ρ
noncomputable def fQ (J : List Sl -> Prop) (Q : Fl -> List Sl -> Prop) (fl : Fl) (ρ : List Sl) : Prop := match fl with | .next => J ρ | .cont => J ρ | .brk => Q .next ρ | .ret v => Q (.ret v) ρ
section
variable {np : Nat} {Q : R -> List Sl -> Prop} {ρ : List Sl} {v : R} {c : Call} {n : Nat} {r : List S} {Q' : Fl -> List Sl -> Prop} {J : List Sl -> Prop}
@[simp] theorem R9 : eQ np Q .next ρ = Q (.val .non) (ρ.take np) := rfl
@[simp] theorem T9 : eQ np Q (.ret v) ρ = Q v (ρ.take np) := rfl
@[simp] theorem Tj : eQ np Q .brk ρ = False := rfl
@[simp] theorem R0 : eQ np Q .cont ρ = False := rfl
@[simp] theorem Rt : sQ c n r Q' .next ρ = (fc c n r ρ).sat Q' := rfl
@[simp] theorem Ue : sQ c n r Q' (.ret v) ρ = Q' (.ret v) ρ := rfl
@[simp] theorem Ua : sQ c n r Q' .brk ρ = Q' .brk ρ := rfl
@[simp] theorem RJ : sQ c n r Q' .cont ρ = Q' .cont ρ := rfl
@[simp] theorem RN : fQ J Q' .next ρ = J ρ := rfl
@[simp] theorem R1 : fQ J Q' .cont ρ = J ρ := rfl
@[simp] theorem VR : fQ J Q' .brk ρ = Q' .next ρ := rfl
@[simp] theorem Us : fQ J Q' (.ret v) ρ = Q' (.ret v) ρ := rfl
end
theorem wQ {c : Call} {n : Nat} {d : Fd} {args : List Sl} {Q : R -> List Sl -> Prop} (hl : args.length = d.np) (hd : d.np <= d.nn)
 (h : (fc c n d.body (args ++ List.replicate (d.nn - d.np) .aX)).sat (eQ d.np Q)) : (enter c n d args).sat Q := by
 unfold enter
 rw [if_pos ⟨hl, hd⟩]
 revert h
 cases fc c n d.body (args ++ List.replicate (d.nn - d.np) .aX) with
 | stuck => exact fun h => False.elim h
 | exc _ _ => exact fun h => False.elim h
 | ok fl ρ => cases fl <;> first | exact id | exact fun h => False.elim h
theorem bI {Γ : Tab} {w n i : Nat} {d : Fd} {args : List Sl} {Q : R -> List Sl -> Prop} (hΓ : Γ i = some d) (hl : args.length = d.np) (hd : d.np <= d.nn)
 (h : (fc (run Γ w n) w d.body (args ++ List.replicate (d.nn - d.np) .aX)).sat (eQ d.np Q)) : (run Γ w (n + 1) i args).sat Q := by
 rw [yP hΓ]; exact wQ hl hd h
theorem aa {c : Call} {n : Nat} {s : S} {r : List S} {ρ : List Sl} {Q : Fl -> List Sl -> Prop} (h : (ex c n s ρ).sat (sQ c n r Q)) : (fc c n (s :: r) ρ).sat Q := by
 rw [fc, bf]
 refine h.imp fun fl ρ' q => ?_
 cases fl <;> exact q
theorem aq {c : Call} {n : Nat} {s : S} {r : List S} {ρ : List Sl} {Q : Fl -> List Sl -> Prop} (h : (ex c n s ρ).sat (sQ c n r Q)) : sQ c n (s :: r) Q .next ρ := aa h
@[simp] theorem Rm {c : Call} {n : Nat} {ρ : List Sl} {Q : Fl -> List Sl -> Prop} : (fc c n [] ρ).sat Q = Q .next ρ := by rw [fc]; rfl
theorem pW {c : Call} {n : Nat} {s : S} {r : List S} {ρ : List Sl} {Q : Fl -> List Sl -> Prop} (M : List Sl -> Prop) (h : (ex c n s ρ).sat fun fl ρ' => fl = .next /\ M ρ') (k : ∀ ρ', M ρ' -> (fc c n r ρ').sat Q) : (fc c n (s :: r) ρ).sat Q :=
 aa (h.imp fun fl ρ' ⟨e, q⟩ => by subst e; exact k ρ' q)
theorem dj {is : List Nat} {one : Bool} {body : List Sl -> Res Fl} (J : List D -> List Sl -> Prop) {Q : Fl -> List Sl -> Prop} (hb : ∀ d r ρ, J (d :: r) ρ -> ∃ ρ1, bU ρ is one d = some ρ1 /\ (body ρ1).sat (fQ (J r) Q)) (hq : ∀ ρ, J [] ρ -> Q .next ρ) : ∀ {ds : List D} {ρ : List Sl}, J ds ρ -> (km is one body ds ρ).sat Q
 | [], ρ, j => hq ρ j
 | d :: r, ρ, j => by
   obtain ⟨ρ1, e, h⟩ := hb d r ρ j
   rw [km, e]
   show ((body ρ1).bind _).sat Q
   rw [bf]
   refine h.imp fun fl ρ2 q => ?_
   cases fl with
   | next => exact dj J hb hq q
   | cont => exact dj J hb hq q
   | brk => exact q
   | ret v => exact q
theorem iw {is : List Nat} {one : Bool} {test : List Sl -> Res Bool} {elt : Ev} (J : List Sl -> Prop) (g : D -> Option D) {Q : List D -> List Sl -> Prop} :
 ∀ {ds acc : List D} {ρ : List Sl}, J ρ -> (∀ d, d ∈ ds -> ∀ ρ, J ρ -> ∃ ρ1, bU ρ is one d = some ρ1 /\ (test ρ1).sat fun b ρ2 => if b = true then (elt ρ2).sat fun r ρ3 => g d = some r.d /\ J ρ3 else g d = none /\ J ρ2) -> (∀ ρ, J ρ -> Q (acc ++ ds.filterMap g) ρ) ->
   (turns is one test elt ds acc ρ).sat Q
 | [], acc, ρ, j, h, k => by rw [turns]; simpa using k ρ j
 | d :: r, acc, ρ, j, h, k => by
   obtain ⟨ρ1, e, h1⟩ := h d (by simp) ρ j
   rw [turns, e]
   show ((test ρ1).bind _).sat Q
   rw [bf]
   refine h1.imp fun b ρ2 q => ?_
   cases b with
   | true =>
     rw [if_pos rfl] at q
     rw [if_pos rfl, bf]
     refine q.imp fun x ρ3 ⟨e1, j3⟩ => ?_
     refine iw J g j3 (fun d' hd' => h d' (by simp [hd'])) fun ρ' j' => ?_
     have := k ρ' j'
     rw [List.filterMap_cons, e1] at this
     rw [List.append_assoc]; exact this
   | false =>
     rw [if_neg (by simp)] at q
     rw [if_neg (by simp)]
     refine iw J g q.2 (fun d' hd' => h d' (by simp [hd'])) fun ρ' j' => ?_
     have := k ρ' j'
     rw [List.filterMap_cons, q.1] at this
     exact this
theorem uw {is : List Nat} {one : Bool} {elt : Ev} {c : Call} (J : List Sl -> Prop) (g : D -> D) {Q : List D -> List Sl -> Prop} {ds : List D} {ρ : List Sl} (j : J ρ) (h : ∀ d, d ∈ ds -> ∀ ρ, J ρ -> ∃ ρ1, bU ρ is one d = some ρ1 /\ (elt ρ1).sat fun r ρ3 => g d = r.d /\ J ρ3)
 (k : ∀ ρ, J ρ -> Q (ds.map g) ρ) : (turns is one (m8 c none) elt ds [] ρ).sat Q :=
 iw J (fun d => some (g d)) j (fun d hd ρ j => by
  obtain ⟨ρ1, e, h1⟩ := h d hd ρ j
  refine ⟨ρ1, e, ?_⟩
  rw [m8, zq, if_pos rfl]
  exact h1.imp fun r ρ3 q => ⟨by rw [q.1], q.2⟩) fun ρ j => by simpa using k ρ j
section
variable {ρ l : List Sl} {a : Sl} {i j : Int} {k m : Nat} {b b' : Bool} {s : Str} {d : D} {ds es : List D} {e f : Ev} {x : Option Sl} {c : Call}
@[simp] theorem Jd : bH .int .non = false := rfl
@[simp] theorem Kf : bH .int (.bl b) = true := rfl
@[simp] theorem JR : bH .int (.int i) = true := rfl
@[simp] theorem Gw : bH .int (.str s) = false := rfl
@[simp] theorem G5 : bH .int (.tup ds) = false := rfl
@[simp] theorem HQ : bH .int (.lst ds) = false := rfl
@[simp] theorem Fy : bH .bool .non = false := rfl
@[simp] theorem Ib : bH .bool (.bl b) = true := rfl
@[simp] theorem Ft : bH .bool (.int i) = false := rfl
@[simp] theorem Fq : bH .bool (.str s) = false := rfl
@[simp] theorem Fw : bH .bool (.tup ds) = false := rfl
@[simp] theorem FQ : bH .bool (.lst ds) = false := rfl
@[simp] theorem Gy : bH .str .non = false := rfl
@[simp] theorem Lw : bH .str (.bl b) = false := rfl
@[simp] theorem Gs : bH .str (.int i) = false := rfl
@[simp] theorem JG : bH .str (.str s) = true := rfl
@[simp] theorem HS : bH .str (.tup ds) = false := rfl
@[simp] theorem JS : bH .str (.lst ds) = false := rfl
@[simp] theorem Dg : bH .tuple .non = false := rfl
@[simp] theorem Fx : bH .tuple (.bl b) = false := rfl
@[simp] theorem DN : bH .tuple (.int i) = false := rfl
@[simp] theorem Cp : bH .tuple (.str s) = false := rfl
@[simp] theorem Du : bH .tuple (.tup ds) = true := rfl
@[simp] theorem De : bH .tuple (.lst ds) = false := rfl
@[simp] theorem Fp : bH .list .non = false := rfl
@[simp] theorem JV : bH .list (.bl b) = false := rfl
@[simp] theorem Gf : bH .list (.int i) = false := rfl
@[simp] theorem Ez : bH .list (.str s) = false := rfl
@[simp] theorem FJ : bH .list (.tup ds) = false := rfl
@[simp] theorem FZ : bH .list (.lst ds) = true := rfl
@[simp] theorem Er : bH .none .non = true := rfl
@[simp] theorem Jw : bH .none (.bl b) = false := rfl
@[simp] theorem FW : bH .none (.int i) = false := rfl
@[simp] theorem Es : bH .none (.str s) = false := rfl
@[simp] theorem Fg : bH .none (.tup ds) = false := rfl
@[simp] theorem Ga : bH .none (.lst ds) = false := rfl
@[simp] theorem Lz : iD .non = true := rfl
@[simp] theorem Qf : iD (.bl b) = false := rfl
@[simp] theorem KQ : iD (.int i) = false := rfl
@[simp] theorem Le : iD (.str s) = false := rfl
@[simp] theorem Kl : iD (.tup ds) = false := rfl
@[simp] theorem LC : iD (.lst ds) = false := rfl
@[simp] theorem OJ : flat .non = true := rfl
@[simp] theorem Ri : flat (.bl b) = true := rfl
@[simp] theorem jF : flat (.int i) = true := rfl
@[simp] theorem Nv : flat (.str s) = true := rfl
@[simp] theorem MF : flat (.tup ds) = false := rfl
@[simp] theorem Ni : flat (.lst ds) = false := rfl
@[simp] theorem Vt : (R.val d).d = d := rfl
@[simp] theorem Jl : (R.own ds).d = .lst ds := rfl
@[simp] theorem O6 : wY (.val d) = .val false d := rfl
@[simp] theorem N6 : wY (.own ds) = .own false ds := rfl
@[simp] theorem K3 : sy (.val d) = .dat d := rfl
@[simp] theorem Kg : sy (.own ds) = .tmp ds := rfl
@[simp] theorem R3 : m7 (.int i) = some i := rfl
@[simp] theorem T6 : rY (.bl b) = some b := rfl
@[simp] theorem jM : items (.lst ds) = some ds := rfl
@[simp] theorem oK : items (.tup ds) = some ds := rfl
@[simp] theorem Ia : zP (.tup ds) = some ds := rfl
@[simp] theorem JF : jL (.lst ds) = some ds := rfl
@[simp] theorem Rx : rC .add = mq := rfl
@[simp] theorem Q5 : rC .sub = rW := rfl
@[simp] theorem Q9 : rC .mul = lF := rfl
@[simp] theorem Ql : rC .fdiv = mz := rfl
@[simp] theorem RP : rC .mod = rQ := rfl
@[simp] theorem RV : rC .pow = rG := rfl
@[simp] theorem Lr : mq (.int i) (.int j) = some (.val (.int (i + j))) := rfl
@[simp] theorem Ly : mq (.lst ds) (.lst es) = if ds.length + es.length <= lim then some (.own (ds ++ es)) else none := rfl
@[simp] theorem K6 : mq (.tup ds) (.tup es) = if ds.length + es.length <= lim then some (.val (.tup (ds ++ es))) else none := rfl
@[simp] theorem Lg : rW (.int i) (.int j) = some (.val (.int (i - j))) := rfl
@[simp] theorem Ln : lF (.int i) (.int j) = if ((-18446744073709551616 < i /\ i < 18446744073709551616) \/ (-18446744073709551616 < j /\ j < 18446744073709551616)) then some (.val (.int (i * j))) else none := rfl
@[simp] theorem Ik : mz (.int i) (.int j) = if 0 < j /\ j < 1606938044258990275541962092341162602522202993782792835301376 then some (.val (.int (i / j))) else none := rfl
@[simp] theorem Mj : rQ (.int i) (.int j) = if 0 < j then some (.val (.int (i % j))) else none := rfl
@[simp] theorem LK : rG (.int i) (.int j) = if 0 <= j /\ j <= 1000 /\ i.natAbs < 18446744073709551616 then some (.val (.int (i ^ j.toNat))) else none := rfl
@[simp] theorem Ra : sZ (.lst ds) (.int i) = (at' ds i).map .val := rfl
@[simp] theorem Q7 : sZ (.tup ds) (.int i) = (at' ds i).map .val := rfl
@[simp] theorem NT : CZ (.int i) = some (.val (.int (-i))) := rfl
@[simp] theorem Km : cm .eq (.int i) (.int j) = some (i == j) := rfl
@[simp] theorem Lx : cm .ne (.int i) (.int j) = some (!(i == j)) := rfl
@[simp] theorem Py : cm .eq (.bl b) (.bl b') = some (b == b') := rfl
@[simp] theorem MP : cm .ne (.bl b) (.bl b') = some (!(b == b')) := rfl
@[simp] theorem K9 : cm .lt (.int i) (.int j) = some (decide (i < j)) := rfl
@[simp] theorem Ks : cm .le (.int i) (.int j) = some (decide (i <= j)) := rfl
@[simp] theorem KN : cm .gt (.int i) (.int j) = some (decide (j < i)) := rfl
@[simp] theorem K8 : cm .ge (.int i) (.int j) = some (decide (j <= i)) := rfl
@[simp] theorem VH : cm .Yi d .non = some (iD d) := rfl
@[simp] theorem RQ : cm .Qz d .non = some (!iD d) := rfl
@[simp] theorem Gh : blt .len [.lst ds] = some (.val (.int ds.length)) := rfl
@[simp] theorem Fo : blt .len [.tup ds] = some (.val (.int ds.length)) := rfl
@[simp] theorem Mr : blt .Gm [.lst ds] = if ds.length <= 16777216 then some (.own ds) else none := rfl
@[simp] theorem Bm : blt .list [.lst ds] = some (.own ds) := rfl
@[simp] theorem Bo : blt .list [.tup ds] = some (.own ds) := rfl
@[simp] theorem Bh : blt .tuple [.lst ds] = some (.val (.tup ds)) := rfl
@[simp] theorem Bd : blt .tuple [.tup ds] = some (.val (.tup ds)) := rfl
@[simp] theorem Nk : blt .min2 [.int i, .int j] = some (.val (.int (if j < i then j else i))) := rfl
@[simp] theorem M8 : blt .max2 [.int i, .int j] = some (.val (.int (if i < j then j else i))) := rfl
@[simp] theorem Sg : blt .all [.lst ds] = (ds.mapM rY).map fun bs => .val (.bl (bs.all id)) := rfl
@[simp] theorem RB : blt .any [.lst ds] = (ds.mapM rY).map fun bs => .val (.bl (bs.any id)) := rfl
@[simp] theorem Ld : isVar (.var k) = some k := rfl
@[simp] theorem RZ : pk (a :: l) k = match (a :: l)[k]? with | some (.val _ d) => some d | some (.own _ ds) => some (.lst ds) | some (.lent ds) => some (.lst ds) | _ => none := rfl
@[simp] theorem Ou : FT (a :: l) k = match pk (a :: l) k with | some (.lst ds) => some ds | _ => none := rfl
@[simp] theorem Qi : eV (some k) e ρ = lift (pk ρ k) ρ := rfl
@[simp] theorem NB : eV none e ρ = (e ρ).bind fun r ρ => .ok r.d ρ := rfl
@[simp] theorem Lf {y : Option Nat} : jU (some k) e y f ρ = (lift (pk ρ k) ρ).bind fun _ ρ => (eV y f ρ).bind fun y ρ => (lift (pk ρ k) ρ).bind fun x ρ => .ok (x, y) ρ := rfl
@[simp] theorem Mp {y : Option Nat} : jU none e y f ρ = (eV none e ρ).bind fun x ρ => (eV y f ρ).bind fun y ρ => .ok (x, y) ρ := rfl
@[simp] theorem Mm {es : List D} : dC (.own b ds) (some (.own b' es)) = .own b es := rfl
@[simp] theorem Kh : dC (.own b ds) (some (.val b' d)) = .val b d := rfl
@[simp] theorem yW : dC a none = a := by cases a <;> rfl
@[simp] theorem wJ : dC (.val b d) x = .val b d := by cases x <;> rfl
@[simp] theorem Kz : dC .aX x = .aX := by cases x <;> rfl
@[simp] theorem tR : dC (.lent ds) x = .lent ds := by cases x <;> rfl
@[simp] theorem M3 : bU ρ [k] true d = put ρ k (.val false d) := rfl
@[simp] theorem K4 {is : List Nat} : bU ρ is false (.tup ds) = putAll ρ is ds := by cases is <;> rfl
@[simp] theorem Jc : srcOf none e ρ = (e ρ).bind fun r ρ => lift (items r.d) ρ := rfl
@[simp] theorem iM : srcOf (some k) e (a :: l) = match (a :: l)[k]? with | some (.val _ d) => lift (items d) (a :: l) | some (.own _ ds) => .ok ds ((a :: l).set k (.lent ds)) | some (.lent ds) => .ok ds (a :: l) | _ => .stuck := rfl
@[simp] theorem Fb {ρ' : List Sl} : aR ρ' none ρ = ρ := rfl
@[simp] theorem di : aR (a :: l) (some k) ρ = match (a :: l)[k]? with | some (.own b ds) => ρ.set k (.own b ds) | _ => ρ := rfl
@[simp] theorem Nu {s : Sl} : put (a :: l) k s = match (a :: l)[k]? with | some t => if fr t = true then some ((a :: l).set k s) else none | none => none := J4 ..
@[simp] theorem J3 : putAll ρ [] [] = some ρ := rfl
@[simp] theorem Fv {is : List Nat} : putAll ρ (k :: is) (d :: ds) = (put ρ k (.val false d)).bind fun ρ => putAll ρ is ds := rfl
theorem IK {as : List Arg} {Q : R -> List Sl -> Prop} : (jV c k as ρ).sat Q = match bw ρ as [] with | none => False | some args => (c k args).sat fun r args' => Q r (bR as args' 0 ρ) := by
 unfold jV
 cases bw ρ as [] with
 | none => rfl
 | some args => simp only; cases c k args <;> rfl
end
@[simp] theorem at_0 {α : Type} {a0 : α} {l : List α} : at' (a0 :: l) 0 = some a0 := by
  unfold at' iW; rw [if_pos (by decide), if_pos (by simp only [List.length_cons]; omega)]; rfl
@[simp] theorem at_1 {α : Type} {a0 a1 : α} {l : List α} : at' (a0 :: a1 :: l) 1 = some a1 := by
  unfold at' iW; rw [if_pos (by decide), if_pos (by simp only [List.length_cons]; omega)]; rfl
@[simp] theorem at_2 {α : Type} {a0 a1 a2 : α} {l : List α} : at' (a0 :: a1 :: a2 :: l) 2 = some a2 := by
  unfold at' iW; rw [if_pos (by decide), if_pos (by simp only [List.length_cons]; omega)]; rfl
@[simp] theorem at_3 {α : Type} {a0 a1 a2 a3 : α} {l : List α} : at' (a0 :: a1 :: a2 :: a3 :: l) 3 = some a3 := by
  unfold at' iW; rw [if_pos (by decide), if_pos (by simp only [List.length_cons]; omega)]; rfl
@[simp] theorem at_4 {α : Type} {a0 a1 a2 a3 a4 : α} {l : List α} : at' (a0 :: a1 :: a2 :: a3 :: a4 :: l) 4 = some a4 := by
  unfold at' iW; rw [if_pos (by decide), if_pos (by simp only [List.length_cons]; omega)]; rfl
@[simp] theorem at_5 {α : Type} {a0 a1 a2 a3 a4 a5 : α} {l : List α} : at' (a0 :: a1 :: a2 :: a3 :: a4 :: a5 :: l) 5 = some a5 := by
  unfold at' iW; rw [if_pos (by decide), if_pos (by simp only [List.length_cons]; omega)]; rfl
@[simp] theorem at_6 {α : Type} {a0 a1 a2 a3 a4 a5 a6 : α} {l : List α} : at' (a0 :: a1 :: a2 :: a3 :: a4 :: a5 :: a6 :: l) 6 = some a6 := by
  unfold at' iW; rw [if_pos (by decide), if_pos (by simp only [List.length_cons]; omega)]; rfl
@[simp] theorem at_7 {α : Type} {a0 a1 a2 a3 a4 a5 a6 a7 : α} {l : List α} : at' (a0 :: a1 :: a2 :: a3 :: a4 :: a5 :: a6 :: a7 :: l) 7 = some a7 := by
  unfold at' iW; rw [if_pos (by decide), if_pos (by simp only [List.length_cons]; omega)]; rfl
theorem pB {α : Type} {l : List α} {i : Int} (h : 0 <= i) (h' : i < l.length) : at' l i = l[i.toNat]? := by
 unfold at' iW; rw [if_pos h, if_pos h']; rfl
theorem yN {α : Type} {l : List α} {k : Nat} (h' : k < l.length) : at' l (k : Int) = l[k]? := by
 rw [pB (by omega) (by omega)]; simp
theorem R6 {α : Type} {l : List α} {i : Int} (h : (l.length : Int) <= i) : at' l i = none := by
 unfold at' iW; rw [if_pos (by omega), if_neg (by omega)]; rfl
theorem Qe {p : P} (h : ∀ i, p ≠ .var i) : isVar p = none := by cases p <;> first | rfl | exact absurd rfl (h _)
@[simp] theorem Mt {d : D} : isVar (.con d) = none := rfl
@[simp] theorem G7 {x : Str} {d : D} : isVar (.glob x d) = none := rfl
@[simp] theorem Mf {o : Op} {p q : P} : isVar (.bin o p q) = none := rfl
@[simp] theorem Mi {p : P} : isVar (.neg p) = none := rfl
@[simp] theorem Li {p : P} : isVar (.not p) = none := rfl
@[simp] theorem Kr {p q : P} : isVar (.and p q) = none := rfl
@[simp] theorem Qt {p q : P} : isVar (.or p q) = none := rfl
@[simp] theorem KJ {o : Cm} {p q : P} : isVar (.cmp o p q) = none := rfl
@[simp] theorem Ff {o o' : Cm} {p q r : P} : isVar (.chain o o' p q r) = none := rfl
@[simp] theorem Ku {p q r : P} : isVar (.Yk p q r) = none := rfl
@[simp] theorem K7 {as : List P} : isVar (.tup as) = none := rfl
@[simp] theorem LR {as : List P} : isVar (.lst as) = none := rfl
@[simp] theorem Lk {p q : P} : isVar (.idx p q) = none := rfl
@[simp] theorem Et {p q r : P} : isVar (.slice p q r) = none := rfl
@[simp] theorem Iz {f : Nat} {as : List P} : isVar (.call f as) = none := rfl
@[simp] theorem Lj {b : Ru} {as : List P} : isVar (.blt b as) = none := rfl
@[simp] theorem Hd {ts : List Ty} {p : P} : isVar (.inst ts p) = none := rfl
@[simp] theorem KZ {x : Nat} : isVar (.pop x) = none := rfl
@[simp] theorem Jx {p e : P} {n : Nat} {is : List Nat} {one : Bool} {t : Option P} : isVar (.comp p n is one t e) = none := rfl
@[simp] theorem KH {p q : P} : isVar (.v9 p q) = none := rfl
@[simp] theorem La {p : P} : isVar (.Yl p) = none := rfl
@[simp] theorem Ky {p q : P} : isVar (.zip p q) = none := rfl
@[simp] theorem KR {p : P} : isVar (.rev p) = none := rfl
noncomputable def jf (c : Call) (is : List Nat) (one : Bool) (test : Option P) (elt : P) (ds : List D) (ρ : List Sl) : Res (List D) := turns is one (m8 c test) (ev c elt) ds [] ρ
@[simp] theorem Rf {c : Call} {src elt : P} {n : Nat} {is : List Nat} {one : Bool} {test : Option P} {ρ : List Sl} : ev c (.comp src n is one test elt) ρ = (srcOf (isVar src) (ev c src) ρ).bind fun ds ρ₁ =>
 if ds.length <= lim then (jf c is one test elt ds (ρ₁ ++ List.replicate n .aX)).bind fun xs ρ₂ => .ok (.own xs) (aR ρ (isVar src) (ρ₂.take ρ₁.length)) else .stuck := by rw [ev]; rfl
noncomputable def zM (c : Call) (n : Nat) (t : P) (body : List S) (k : Nat) (ρ : List Sl) : Res Fl := Ab (jC (ev c t)) (fc c n body) k ρ
@[simp] theorem Uy {c : Call} {n : Nat} {t : P} {body : List S} {ρ : List Sl} : ex c n (.whl t body) ρ = zM c n t body n ρ := by rw [ex]; rfl
theorem pD {α β γ : Type} {x : Res β} {f : β -> List Sl -> Res α} {g : α -> List Sl -> Res γ} : (x.bind f).bind g = x.bind fun a ρ => (f a ρ).bind g := by cases x <;> rfl
@[simp] theorem TY {Γ : Tab} {w n i : Nat} {args : List Sl} {α : Type} {f : R -> List Sl -> Res α} {Q : α -> List Sl -> Prop} : ((run Γ w n i args).bind f).sat Q = (run Γ w n i args).sat fun a ρ => (f a ρ).sat Q := bf
@[simp] theorem T4 {Γ : Tab} {w n i : Nat} {args : List Sl} {α β : Type} {f : R -> List Sl -> Res α} {g : α -> List Sl -> Res β} : ((run Γ w n i args).bind f).bind g = (run Γ w n i args).bind fun a ρ => (f a ρ).bind g := pD
@[simp] theorem Q6 {c : Call} {is : List Nat} {one : Bool} {test : Option P} {elt : P} {ds : List D} {ρ : List Sl} {α : Type} {f : List D -> List Sl -> Res α} {Q : α -> List Sl -> Prop} : ((jf c is one test elt ds ρ).bind f).sat Q = (jf c is one test elt ds ρ).sat fun a ρ => (f a ρ).sat Q := bf
@[simp] theorem Rq {c : Call} {is : List Nat} {one : Bool} {test : Option P} {elt : P} {ds : List D} {ρ : List Sl} {α β : Type} {f : List D -> List Sl -> Res α} {g : α -> List Sl -> Res β} : ((jf c is one test elt ds ρ).bind f).bind g = (jf c is one test elt ds ρ).bind fun a ρ => (f a ρ).bind g := pD
@[simp] theorem Vn {is : List Nat} {one : Bool} {b : List Sl -> Res Fl} {ds : List D} {ρ : List Sl} {α : Type} {f : Fl -> List Sl -> Res α} {Q : α -> List Sl -> Prop} : ((km is one b ds ρ).bind f).sat Q = (km is one b ds ρ).sat fun a ρ => (f a ρ).sat Q := bf
@[simp] theorem RK {α β : Type} {p : Prop} [Decidable p] {a : β} {ρ : List Sl} {f : β -> List Sl -> Res α} {Q : α -> List Sl -> Prop} : ((lift (if p then some a else none) ρ).bind f).sat Q = (p /\ (f a ρ).sat Q) := by by_cases h : p <;> simp [h, lift, Res.bind]
@[simp] theorem Rp {α β γ : Type} {p : Prop} [Decidable p] {a : β} {ρ : List Sl} {f : β -> List Sl -> Res α} {g : α -> List Sl -> Res γ} : ((lift (if p then some a else none) ρ).bind f).bind g = (lift (if p then some a else none) ρ).bind fun a ρ => (f a ρ).bind g := pD
@[simp] theorem bb_ite {α β : Type} {p : Prop} [Decidable p] {x y : Res β} {f : β -> List Sl -> Res α} : (if p then x else y).bind f = if p then x.bind f else y.bind f := by by_cases h : p <;> simp [h]
@[simp] theorem Tn {c : Call} {n k : Nat} {t : P} {b : List S} {ρ : List Sl} {α : Type} {f : Fl -> List Sl -> Res α} {Q : α -> List Sl -> Prop} : ((zM c n t b k ρ).bind f).sat Q = (zM c n t b k ρ).sat fun a ρ => (f a ρ).sat Q := bf
@[simp] theorem T8 {α β : Type} {a : α} {ρ : List Sl} {f : α -> List Sl -> Res β} : (Res.ok a ρ).bind f = f a ρ := rfl
@[simp] theorem Ma {α β : Type} {f : α -> List Sl -> Res β} : (Res.stuck : Res α).bind f = .stuck := rfl
@[simp] theorem Qc {α : Type} {a : α} {ρ : List Sl} : lift (some a) ρ = .ok a ρ := rfl
@[simp] theorem Pb {α : Type} {ρ : List Sl} : lift (none : Option α) ρ = .stuck := rfl
noncomputable def wD : List Sl -> Nat -> Sl -> List Sl
 | [], _, _ => []
 | t :: ρ, 0, s => dC t (some s) :: ρ
 | t :: ρ, k + 1, s => t :: wD ρ k s
noncomputable def bk : List Arg -> List Sl -> List Sl -> List Sl
 | .dm k :: as, s :: ss, ρ => bk as ss (wD ρ k s)
 | .dat _ :: as, _ :: ss, ρ => bk as ss ρ
 | .tmp _ :: as, _ :: ss, ρ => bk as ss ρ
 | _, _, ρ => ρ
section
variable {t s : Sl} {ρ ss : List Sl} {k : Nat} {as : List Arg} {d : D} {ds : List D}
@[simp] theorem Xz : wD (t :: ρ) 0 s = dC t (some s) :: ρ := rfl
@[simp] theorem W8 : wD (t :: ρ) (k + 1) s = t :: wD ρ k s := rfl
@[simp] theorem Va : bk (.dm k :: as) (s :: ss) ρ = bk as ss (wD ρ k s) := rfl
@[simp] theorem Uo : bk (.dat d :: as) (s :: ss) ρ = bk as ss ρ := rfl
@[simp] theorem VP : bk (.tmp ds :: as) (s :: ss) ρ = bk as ss ρ := rfl
@[simp] theorem UT : bk [] ss ρ = ρ := rfl
end
theorem uB {s : Sl} : ∀ {ρ : List Sl} {k j : Nat}, (wD ρ k s)[j]? = (ρ[j]?).map fun t => if j = k then dC t (some s) else t
 | [], _, _ => by simp [wD]
 | t :: ρ, 0, 0 => by simp [wD]
 | t :: ρ, 0, j + 1 => by simp [wD]
 | t :: ρ, k + 1, 0 => by simp [wD]
 | t :: ρ, k + 1, j + 1 => by
   have := uB (s := s) (ρ := ρ) (k := k) (j := j)
   simp only [wD, List.getElem?_cons_succ, this]
   congr 1; funext t; simp
theorem rR {as : List Arg} {ss : List Sl} : ∀ {ρ : List Sl} {i j : Nat}, (bR as ss i ρ)[j]? = (ρ[j]?).map fun t => dC t (aO (i + j) as ss)
 | [], _, _ => by simp [bR]
 | t :: ρ, i, 0 => by simp [bR]
 | t :: ρ, i, j + 1 => by
   have := rR (as := as) (ss := ss) (ρ := ρ) (i := i + 1) (j := j)
   simp only [bR, List.getElem?_cons_succ, this]
   rw [show i + 1 + j = i + (j + 1) by omega]
noncomputable def Xp (t : Sl) : Prop := ∀ x, dC t x = t
noncomputable def Jm (ρ : List Sl) : List Arg -> Prop
 | [] => True
 | .dm k :: as => (Arg.dm k ∈ as -> ∀ t, ρ[k]? = some t -> Xp t) /\ Jm ρ as
 | _ :: as => Jm ρ as
theorem lg {ρ : List Sl} : ∀ {as : List Arg} {ρ' : List Sl}, Jm ρ as -> (∀ k, Arg.dm k ∈ as -> ∀ t, ρ'[k]? = some t -> ρ[k]? = some t \/ Xp t) -> Jm ρ' as
 | [], _, _, _ => trivial
 | .dm k :: as, ρ', h, g => ⟨fun hm t ht => by
  rcases g k (by simp) t ht with e | e
  . exact h.1 hm t e
  . exact e, lg h.2 fun j hj => g j (by simp [hj])⟩
 | .dat _ :: as, ρ', h, g => lg (as := as) h fun j hj => g j (by simp [hj])
 | .tmp _ :: as, ρ', h, g => lg (as := as) h fun j hj => g j (by simp [hj])
theorem jg {k : Nat} : ∀ {as : List Arg} {ss : List Sl}, Arg.dm k ∉ as -> aO k as ss = none
 | [], _, _ => by unfold aO; rfl
 | .dm j :: as, [], _ => rfl
 | .dat _ :: as, [], _ => rfl
 | .tmp _ :: as, [], _ => rfl
 | .dm j :: as, s :: ss, h => by
   simp only [List.mem_cons, Arg.dm.injEq, not_or] at h
   rw [aO, if_neg (fun e => h.1 e.symm), jg h.2]
 | .dat _ :: as, s :: ss, h => by
   simp only [List.mem_cons, not_or] at h
   rw [aO, jg h.2]
 | .tmp _ :: as, s :: ss, h => by
   simp only [List.mem_cons, not_or] at h
   rw [aO, jg h.2]
theorem uW : ∀ {as : List Arg} {ss ρ : List Sl}, Jm ρ as -> ∀ j, (bk as ss ρ)[j]? = (ρ[j]?).map fun t => dC t (aO j as ss)
 | [], ss, ρ, _, j => by cases ss <;> simp [bk, aO]
 | .dm k :: as, [], ρ, _, j => by simp [bk, aO]
 | .dat _ :: as, [], ρ, _, j => by simp [bk, aO]
 | .tmp _ :: as, [], ρ, _, j => by simp [bk, aO]
 | .dat _ :: as, s :: ss, ρ, h, j => by rw [bk, aO]; exact uW (as := as) h j
 | .tmp _ :: as, s :: ss, ρ, h, j => by rw [bk, aO]; exact uW (as := as) h j
 | .dm k :: as, s :: ss, ρ, h, j => by
   have h2 : Jm (wD ρ k s) as := lg h.2 fun i hi t ht => by
    rw [uB] at ht
    cases e : ρ[i]? with
    | none => rw [e] at ht; cases ht
    | some t0 =>
      rw [e] at ht
      by_cases c : i = k
      . subst c
        have hs := h.1 hi t0 e
        simp [hs (some s)] at ht
        exact .inl (by rw [ht])
      . simp [c] at ht
        exact .inl (by rw [ht])
   rw [bk, uW h2 j, uB, aO]
   cases e : ρ[j]? with
   | none => rfl
   | some t0 =>
     simp only [Option.map_some]
     by_cases c : j = k
     . subst c
       rw [if_pos rfl, if_pos rfl]
       by_cases hm : Arg.dm j ∈ as
       . have hs := h.1 hm t0 e
         rw [hs (some s), hs]
       . rw [jg hm, yW]
     . rw [if_neg c, if_neg (fun z => c z.symm)]
theorem dJ {ρ : List Sl} {k : Nat} {b : Bool} {ds : List D} (e : ρ[k]? = some (.own b ds)) : ∀ {as : List Arg} {u : List Nat} {r : List Sl}, k ∈ u -> bw ρ as u = some r -> Arg.dm k ∉ as
 | [], _, _, _, _ => by simp
 | .dat _ :: as, u, r, hu, h => by
   simp only [bw, Option.map_eq_some_iff] at h
   obtain ⟨r', h, _⟩ := h
   simp [dJ e hu h]
 | .tmp _ :: as, u, r, hu, h => by
   simp only [bw, Option.map_eq_some_iff] at h
   obtain ⟨r', h, _⟩ := h
   simp [dJ e hu h]
 | .dm i :: as, u, r, hu, h => by
   rw [bw] at h
   have hi : i ≠ k := by
    rintro rfl
    rw [e] at h
    simp [hu] at h
   have : Arg.dm k ∉ as := by
    split at h
    . obtain ⟨r', h, _⟩ := Option.map_eq_some_iff.mp h; exact dJ e hu h
    . split at h
      . cases h
      . obtain ⟨r', h, _⟩ := Option.map_eq_some_iff.mp h; exact dJ e (by simp [hu]) h
    . split at h
      . cases h
      . obtain ⟨r', h, _⟩ := Option.map_eq_some_iff.mp h; exact dJ e (by simp [hu]) h
    . cases h
   simp [this]; exact fun z => hi z.symm
theorem dN {ρ : List Sl} : ∀ {as : List Arg} {u : List Nat} {r : List Sl}, bw ρ as u = some r -> Jm ρ as
 | [], _, _, _ => trivial
 | .dat _ :: as, u, r, h => by
   obtain ⟨r', h, _⟩ := Option.map_eq_some_iff.mp h; exact dN (as := as) h
 | .tmp _ :: as, u, r, h => by
   obtain ⟨r', h, _⟩ := Option.map_eq_some_iff.mp h; exact dN (as := as) h
 | .dm i :: as, u, r, h => by
   rw [bw] at h
   split at h
   . rename_i b d q
     obtain ⟨r', h, _⟩ := Option.map_eq_some_iff.mp h
     exact ⟨fun _ t ht => by rw [q] at ht; cases ht; exact fun x => wJ, dN h⟩
   . rename_i b ds q
     split at h
     . cases h
     . obtain ⟨r', h, _⟩ := Option.map_eq_some_iff.mp h
       exact ⟨fun hm => absurd hm (dJ q (by simp) h), dN h⟩
   . rename_i ds q
     split at h
     . cases h
     . obtain ⟨r', h, _⟩ := Option.map_eq_some_iff.mp h
       exact ⟨fun _ t ht => by rw [q] at ht; cases ht; exact fun x => tR, dN h⟩
   . cases h
theorem M4 {as : List Arg} {ss ρ r : List Sl} {u : List Nat} (h : bw ρ as u = some r) : bR as ss 0 ρ = bk as ss ρ := by
 apply List.ext_getElem?
 intro j
 rw [rR, uW (dN h), Nat.zero_add]
@[simp] theorem Kq {c : Call} {k : Nat} {as : List Arg} {ρ : List Sl} : jV c k as ρ = match bw ρ as [] with | none => .stuck | some args => (c k args).bind fun r args' => .ok r (bk as args' ρ) := by
  unfold jV
  cases e : bw ρ as [] with
  | none => rfl
  | some args => simp only [<- M4 (r := args) e]; cases c k args <;> rfl
theorem dM {c : Call} {is : List Nat} {one : Bool} {elt : P} (J : List Sl -> Prop) (g : D -> D) {Q : List D -> List Sl -> Prop} {ds : List D} {ρ : List Sl} (j : J ρ) (h : ∀ d, d ∈ ds -> ∀ ρ, J ρ -> ∃ ρ1, bU ρ is one d = some ρ1 /\ (ev c elt ρ1).sat fun r ρ3 => g d = r.d /\ J ρ3)
 (k : ∀ ρ, J ρ -> Q (ds.map g) ρ) : (jf c is one none elt ds ρ).sat Q := uw J g j h k
theorem ik {c : Call} {is : List Nat} {one : Bool} {elt t : P} (J : List Sl -> Prop) (g : D -> Option D) {Q : List D -> List Sl -> Prop} {ds : List D} {ρ : List Sl} (j : J ρ)
 (h : ∀ d, d ∈ ds -> ∀ ρ, J ρ -> ∃ ρ1, bU ρ is one d = some ρ1 /\ (ev c t ρ1).sat fun r ρ2 => ∃ b, r.d = .bl b /\ if b = true then (ev c elt ρ2).sat fun r ρ3 => g d = some r.d /\ J ρ3 else g d = none /\ J ρ2) (k : ∀ ρ, J ρ -> Q (ds.filterMap g) ρ) : (jf c is one (some t) elt ds ρ).sat Q :=
 iw J g j (fun d hd ρ j => by
  obtain ⟨ρ1, e, h1⟩ := h d hd ρ j
  refine ⟨ρ1, e, ?_⟩
  rw [m8, jC, bf]
  refine h1.imp fun r ρ2 ⟨b, e, q⟩ => ?_
  rw [e]
  exact q) fun ρ j => by simpa using k ρ j
theorem rP {c : Call} {n : Nat} {t : P} {body : List S} (J : Nat -> List Sl -> Prop) {Q : Fl -> List Sl -> Prop} (h : ∀ m ρ, J m ρ -> (ev c t ρ).sat fun r ρ1 => ∃ b, r.d = .bl b /\ if b = true then (fc c n body ρ1).sat (fQ (fun ρ2 => ∃ m', m' < m /\ J m' ρ2) Q) else Q .next ρ1) : ∀ {k m : Nat} {ρ : List Sl}, m < k -> J m ρ -> (zM c n t body k ρ).sat Q
 | 0, m, ρ, hk, _ => absurd hk (Nat.not_lt_zero _)
 | k + 1, m, ρ, hk, j => by
   unfold zM
   rw [Ab, bf, jC, bf]
   refine (h m ρ j).imp fun r ρ1 ⟨b, e, q⟩ => ?_
   rw [e]
   show (if b = true then _ else _ : Res Fl).sat Q
   cases b with
   | false =>
     rw [if_neg (by simp)] at q
     rw [if_neg (by simp)]; exact q
   | true =>
     rw [if_pos rfl] at q
     rw [if_pos rfl, bf]
     refine q.imp fun fl ρ2 q => ?_
     cases fl with
     | next => obtain ⟨m', hm, j'⟩ := q; exact rP J h (Nat.lt_of_lt_of_le hm (Nat.lt_succ_iff.mp hk)) j'
     | cont => obtain ⟨m', hm, j'⟩ := q; exact rP J h (Nat.lt_of_lt_of_le hm (Nat.lt_succ_iff.mp hk)) j'
     | brk => exact q
     | ret v => exact q
@[simp] theorem W9 : type_of% @HH.ev.eq_1 := @HH.ev.eq_1
@[simp] theorem X3 : type_of% @HH.ev.eq_2 := @HH.ev.eq_2
@[simp] theorem X4 : type_of% @HH.ev.eq_3 := @HH.ev.eq_3
@[simp] theorem XR : type_of% @HH.ev.eq_4 := @HH.ev.eq_4
@[simp] theorem X7 : type_of% @HH.ev.eq_5 := @HH.ev.eq_5
@[simp] theorem W7 : type_of% @HH.ev.eq_6 := @HH.ev.eq_6
@[simp] theorem W5 : type_of% @HH.ev.eq_7 := @HH.ev.eq_7
@[simp] theorem Xx : type_of% @HH.ev.eq_8 := @HH.ev.eq_8
@[simp] theorem Xk : type_of% @HH.ev.eq_9 := @HH.ev.eq_9
@[simp] theorem Up : type_of% @HH.ev.eq_10 := @HH.ev.eq_10
@[simp] theorem Ug : type_of% @HH.ev.eq_11 := @HH.ev.eq_11
@[simp] theorem Vc : type_of% @HH.ev.eq_12 := @HH.ev.eq_12
@[simp] theorem Vr : type_of% @HH.ev.eq_13 := @HH.ev.eq_13
@[simp] theorem Te : type_of% @HH.ev.eq_14 := @HH.ev.eq_14
@[simp] theorem Um : type_of% @HH.ev.eq_15 := @HH.ev.eq_15
@[simp] theorem Tf : type_of% @HH.ev.eq_16 := @HH.ev.eq_16
@[simp] theorem UG : type_of% @HH.ev.eq_17 := @HH.ev.eq_17
@[simp] theorem Vb : type_of% @HH.ev.eq_18 := @HH.ev.eq_18
@[simp] theorem TX : type_of% @HH.ev.eq_19 := @HH.ev.eq_19
@[simp] theorem V5 : type_of% @HH.ev.eq_20 := @HH.ev.eq_20
@[simp] theorem V0 : type_of% @HH.ev.eq_22 := @HH.ev.eq_22
@[simp] theorem V4 : type_of% @HH.ev.eq_23 := @HH.ev.eq_23
@[simp] theorem Ve : type_of% @HH.ev.eq_24 := @HH.ev.eq_24
@[simp] theorem T7 : type_of% @HH.ev.eq_25 := @HH.ev.eq_25
@[simp] theorem Xj : type_of% @HH.ex.eq_1 := @HH.ex.eq_1
@[simp] theorem Xl : type_of% @HH.ex.eq_2 := @HH.ex.eq_2
@[simp] theorem XC : type_of% @HH.ex.eq_3 := @HH.ex.eq_3
@[simp] theorem Xf : type_of% @HH.ex.eq_4 := @HH.ex.eq_4
@[simp] theorem X5 : type_of% @HH.ex.eq_5 := @HH.ex.eq_5
@[simp] theorem X6 : type_of% @HH.ex.eq_6 := @HH.ex.eq_6
@[simp] theorem Xy : type_of% @HH.ex.eq_7 := @HH.ex.eq_7
@[simp] theorem Xh : type_of% @HH.ex.eq_8 := @HH.ex.eq_8
@[simp] theorem XJ : type_of% @HH.ex.eq_9 := @HH.ex.eq_9
@[simp] theorem Vo : type_of% @HH.ex.eq_10 := @HH.ex.eq_10
@[simp] theorem V9 : type_of% @HH.ex.eq_11 := @HH.ex.eq_11
@[simp] theorem Vq : type_of% @HH.ex.eq_12 := @HH.ex.eq_12
@[simp] theorem Wa : type_of% @HH.ex.eq_13 := @HH.ex.eq_13
@[simp] theorem Vs : type_of% @HH.ex.eq_14 := @HH.ex.eq_14
@[simp] theorem Tg : type_of% @HH.ex.eq_15 := @HH.ex.eq_15
@[simp] theorem Ux : type_of% @HH.jC.eq_1 := @HH.jC.eq_1
@[simp] theorem V7 : type_of% @HH.evs.eq_1 := @HH.evs.eq_1
@[simp] theorem V6 : type_of% @HH.evs.eq_2 := @HH.evs.eq_2
@[simp] theorem Vl : type_of% @HH.tU.eq_1 := @HH.tU.eq_1
@[simp] theorem Vx : type_of% @HH.tU.eq_2 := @HH.tU.eq_2
@[simp] theorem UW : type_of% @HH.m8.eq_1 := @HH.m8.eq_1
@[simp] theorem VF : type_of% @HH.m8.eq_2 := @HH.m8.eq_2
@[simp] theorem Vv : type_of% @HH.tL.eq_1 := @HH.tL.eq_1
@[simp] theorem Pk : type_of% @HH.bw.eq_1 := @HH.bw.eq_1
@[simp] theorem Nr : type_of% @HH.bw.eq_2 := @HH.bw.eq_2
@[simp] theorem Nh : type_of% @HH.bw.eq_3 := @HH.bw.eq_3
@[simp] theorem Qu : type_of% @HH.bw.eq_4 := @HH.bw.eq_4
@[simp] theorem M6 : type_of% @HH.bR.eq_1 := @HH.bR.eq_1
@[simp] theorem PQ : type_of% @HH.bR.eq_2 := @HH.bR.eq_2
@[simp] theorem PK : type_of% @HH.aO.eq_1 := @HH.aO.eq_1
@[simp] theorem Nf : type_of% @HH.aO.eq_2 := @HH.aO.eq_2
@[simp] theorem PX : type_of% @HH.aO.eq_3 := @HH.aO.eq_3
@[simp] theorem Oa : type_of% @HH.aO.eq_4 := @HH.aO.eq_4
end HH
end
section
namespace HH
open PySem L2 PySem.Spec PyProof.Rows
section
variable {X : Cx} {c : Call} {a b : Expr} {pa pb : P} {pos : Pos}
theorem qQ : ∀ {ds : List D} {ns : List Int}, ds.mapM m7 = some ns -> ds = ns.map D.int
 | [], ns, h => by simp at h; subst h; rfl
 | d :: ds, ns, h => by
   simp [List.mapM_cons, Option.bind_eq_some_iff] at h
   obtain ⟨i, e1, ms, e2, rfl⟩ := h
   rw [dY e1, qQ e2]; rfl
theorem dR {K : PySem.W.Frag} {F : Hp} : ∀ {ns : List Int} {ys : List V}, az K F ys (ns.map D.int) -> ys = ns.map V.int
 | [], ys, h => by rw [h.eX]; rfl
 | n :: ns, ys, h => by
   obtain ⟨v, r, rfl, h1, t⟩ := h.bY
   rw [Rep] at h1
   rw [h1, dR t]; rfl
theorem BZ {ns : List Int} {us : List Value} (h : Vals (ns.map V.int) us) {i : Nat} {v : Value} (e : us.toArray[i]? = some v) : ∃ t, v = .int (ns.getD i 0) t := by
 have e : us[i]? = some v := by simpa using e
 have hi : i < us.length := (List.getElem?_eq_some_iff.mp e).1
 have hl := h.length
 rw [List.length_map] at hl
 have g : (ns.map V.int)[i]? = some (.int (ns.getD i 0)) := by
  rw [List.getElem?_map, List.getElem?_eq_getElem (by omega)]
  simp [List.getD, show i < ns.length by omega]
 obtain ⟨w, g1, g2⟩ := h.get g
 rw [e] at g1
 cases g1
 exact g2
theorem walked {pins : List (Addr × Obj)} {σ : L2.St} {H : Hp} {s : Shared} {p : Addr} {ys : List V} (I : L2.Inv X pins σ H s) (hc : X.calm = true) (hq : dW X.K H p ys \/ iG X.K H p ys) {Q : Value -> Shared -> Prop} {E : Value -> Shared -> Prop}
 (k : ∀ (it : Addr) (us : List Value) (s₂ : Shared) (St : Nat -> Heap -> Prop), Vals ys us -> Walks X.prog X.w X.A.in1 it [it, p] [it] us.toArray.size (fun i v => us.toArray[i]? = some v) St -> St 0 s₂.heap -> (∀ b ∈ [it, p], b < s₂.heap.objs.size) ->
  (∀ h' tk, (∀ b o, b ∉ [it] -> s₂.heap.get? b = some o -> h'.get? b = some o) -> L2.Inv X pins σ H { s₂ with heap := h', toks := tk }) -> Q (.ref it) s₂) : wpAny (model X.prog X.w) X.A.in1 (pyIter (.ref p)) Q E s := by
 have hh : X.A.in1.handled = none := I.ok.hd hc
 rcases hq with hq | hq
 . obtain ⟨us, rv, pl, hz⟩ := I.list hq
   have pl := pl.isList
   have hlt : p < s.heap.objs.size := by obtain ⟨o, h1, _⟩ := pl; exact Heap.lt_size h1
   refine wpAny_pyIter_list pl (k s.heap.objs.size us _ _ rv (Walks.list hh s.heap.objs.size p (Nat.ne_of_lt hlt) us.toArray) ⟨⟨_, Heap.get?_push_size _ rfl, rfl, rfl⟩, ?_⟩ ?_ fun h' tk kp => ?_)
   . obtain ⟨o, h1, h2⟩ := pl
     exact ⟨o, Heap.get?_push_of_some _ h1, h2⟩
   . intro b hb
     obtain ⟨o, h1, _⟩ := pl
     simp at hb
     rcases hb with rfl | rfl
     . exact Heap.lt_size (Heap.get?_push_size _ rfl)
     . exact Heap.lt_size (Heap.get?_push_of_some _ h1)
   . exact I.kept (fun b o z => kp b o (by simp; exact Nat.ne_of_lt (Heap.lt_size z)) (Heap.get?_push_of_some _ z))
 . obtain ⟨us, rv, pl, hz⟩ := I.tuple hq
   have hlt : p < s.heap.objs.size := by obtain ⟨o, h1, _⟩ := pl; exact Heap.lt_size h1
   refine wpAny_pyIter_tuple pl (k s.heap.objs.size us _ _ rv (Walks.tuple hh s.heap.objs.size p (Nat.ne_of_lt hlt) us.toArray) ⟨⟨_, Heap.get?_push_size _ rfl, rfl, rfl⟩, ?_⟩ ?_ fun h' tk kp => ?_)
   . obtain ⟨o, h1, h2⟩ := pl
     exact ⟨o, Heap.get?_push_of_some _ h1, h2⟩
   . intro b hb
     obtain ⟨o, h1, _⟩ := pl
     simp at hb
     rcases hb with rfl | rfl
     . exact Heap.lt_size (Heap.get?_push_size _ rfl)
     . exact Heap.lt_size (Heap.get?_push_of_some _ h1)
   . exact I.kept (fun b o z => kp b o (by simp; exact Nat.ne_of_lt (Heap.lt_size z)) (Heap.get?_push_of_some _ z))
theorem j4 (ns : List Int) : ∀ k, k <= ns.length -> preSum (fun i => ns.getD i 0) k = (ns.take k).sum
 | 0, _ => by simp [preSum]
 | k + 1, h => by
   rw [preSum, j4 ns k (by omega), List.take_succ, List.sum_append]
   simp [List.getD, show k < ns.length by omega]
theorem NP (hc : X.calm = true) : cV X (.builtin "sum") (Gg X.K fun x => blt .sum [x]) := by
 rintro pins s σ H xs us Q I r ⟨x, hx, F, d, r', sm, px, he, k⟩
 obtain ⟨ns, e1, he⟩ := map_some (show ((items d).bind fun ds => ds.mapM m7).map _ = some r' from he)
 subst he
 obtain ⟨ds, e2, e3⟩ := dw e1
 obtain ⟨p, ys, rfl, hq, rs⟩ := px.items sm e2
 rw [qQ e3] at rs
 have ey := dR rs
 subst hx
 obtain ⟨u, rfl, rx⟩ := r.one
 cases rx
 refine call_sum_walkG (walked I hc hq fun it us s₂ St rv W h0 hl kp => ?_)
 subst ey
 have hlen : us.toArray.size = ns.length := by rw [List.size_toArray, <- rv.length, List.length_map]
 refine ⟨it, _, _, _, _, St, fun i => ns.getD i 0, rfl, W, h0, hl, fun i v e => BZ rv e, fun h' tk t' kk => ?_⟩
 rw [hlen, j4 ns _ (Nat.le_refl _), List.take_length]
 exact ⟨.int _, H, kp h' tk kk, ⟨t', rfl⟩, cj.dG sm (cA _) k⟩
theorem boot_sum : bootBuiltins "sum" = some (.builtin "sum") := by decide +kernel
theorem zu {x : Str} {p' : Pos} (hx : x = "sum") (hc : X.calm = true) (hg : Gl X x) (hm : X.mg x = none) (ha : SX X c a pa) (hs : starEach [a] X.env = (false, eval a X.env) :: starEach [] X.env := by rfl) : SX X c (.Call (.Name x p') [a] [] pos) (.blt .sum [pa]) := by
 subst hx; exact lK (fun h => dh (NP hc) hg hm boot_sum h (he := hs)) ha (fun ρ => by rw [HH.ev]) rfl hs
end
end HH
end
section
namespace HH
open PySem
section
variable {i j : Int} {ds es : List D} {d : D} {b b' : Bool}
@[simp] theorem Rr : rC .shl = yp := rfl
@[simp] theorem Sd : rC .shr = yV := rfl
@[simp] theorem Nz : rC .band = uE := rfl
@[simp] theorem K1 : yp (.int i) (.int j) = if 0 <= j /\ j <= 1000 /\ i.natAbs < 18446744073709551616 then some (.val (.int (i * 2 ^ j.toNat))) else none := rfl
@[simp] theorem Kv : yV (.int i) (.int j) = if 0 <= j then some (.val (.int (i / 2 ^ j.toNat))) else none := rfl
@[simp] theorem JL : uE (.int i) (.int j) = some (.val (.int (Builtin.bitAnd i j))) := rfl
@[simp] theorem KD : lF (.lst ds) (.int i) = if 0 <= i /\ 0 < ds.length /\ ds.length * i.toNat <= lim then some (.own (List.replicate i.toNat ds).flatten) else none := rfl
@[simp] theorem LQ : lF (.tup ds) (.int i) = if 0 <= i /\ 0 < ds.length /\ ds.length * i.toNat <= lim then some (.val (.tup (List.replicate i.toNat ds).flatten)) else none := rfl
@[simp] theorem Uh : cm .Yj (.bl b) (.bl true) = some b := rfl
@[simp] theorem Rc : cm .QB (.bl b) (.bl true) = some (!b) := rfl
@[simp] theorem R4 : blt .sum [.lst ds] = (ds.mapM m7).map fun ns => .val (.int ns.sum) := rfl
@[simp] theorem Qm : blt .QC [.lst ds] = (ds.mapM m7).bind fun ns => ns.min?.map fun i => .val (.int i) := rfl
@[simp] theorem Ow : blt .QD [.lst ds] = (ds.mapM m7).bind fun ns => ns.max?.map fun i => .val (.int i) := rfl
end
@[simp] theorem U7 : type_of% @HH.ex.eq_17 := @HH.ex.eq_17
@[simp] theorem U6 : type_of% @HH.ex.eq_18 := @HH.ex.eq_18
@[simp] theorem TJ : type_of% @HH.ex.eq_19 := @HH.ex.eq_19
@[simp] theorem Vi : type_of% @HH.ex.eq_20 := @HH.ex.eq_20
@[simp] theorem Uz : type_of% @HH.ex.eq_21 := @HH.ex.eq_21
theorem yf {ns : List Int} : (ns.map D.int).mapM m7 = some ns := by
 induction ns with
 | nil => rfl
 | cons n ns ih => simp [ih]
@[simp] theorem Ko {ns : List Int} : ns.mapM (m7 ∘ D.int) = some ns := by
  rw [<- yf (ns := ns), List.mapM_map]
@[simp] theorem Qs {bs : List Bool} : bs.mapM (rY ∘ D.bl) = some bs := by
  induction bs with
  | nil => rfl
  | cons b bs ih => simp [ih]
theorem lC {S : List Int} {i : Int} : ((S.map D.int).any fun y => aW y (.int i)) = S.contains i := by
 induction S with
 | nil => rfl
 | cons s S ih =>
   rw [List.map_cons, List.any_cons, List.contains_cons, ih, aW]
   rw [show (s == i) = (i == s) from Bool.eq_iff_iff.mpr ⟨fun h => by simp at h ⊢; exact h.symm, fun h => by simp at h ⊢; exact h.symm⟩]
theorem jo {S : List Int} : (S.map D.int).all flat = true := by
 rw [List.all_eq_true]; intro d hd; obtain ⟨i, _, rfl⟩ := List.mem_map.mp hd; rfl
theorem VJ {S : List Int} {i : Int} : cm .inn (.int i) (.lst (S.map D.int)) = some (S.contains i) := by
 show nu false _ _ = _
 unfold nu
 simp only [jM, Option.bind_some, jF, jo, Bool.and_true, lC]
 rfl
theorem Vd {S : List Int} {i : Int} : cm .inn (.int i) (.tup (S.map D.int)) = some (S.contains i) := by
 show nu false _ _ = _
 unfold nu
 simp only [oK, Option.bind_some, jF, jo, Bool.and_true, lC]
 rfl
theorem Kw {S : List Int} {i : Int} : cm .Ax (.int i) (.lst (S.map D.int)) = some (!S.contains i) := by
 show nu true _ _ = _
 unfold nu
 simp only [jM, Option.bind_some, jF, jo, Bool.and_true, lC]
 rfl
theorem Lp {S : List Int} {i : Int} : cm .Ax (.int i) (.tup (S.map D.int)) = some (!S.contains i) := by
 show nu true _ _ = _
 unfold nu
 simp only [oK, Option.bind_some, jF, jo, Bool.and_true, lC]
 rfl
theorem kW {n : Nat} {S : List Int} : cH (n + 1) (.lst (S.map D.int)) = true := by
 rw [cH, List.all_eq_true]; intro d hd; obtain ⟨i, _, rfl⟩ := List.mem_map.mp hd; cases n <;> rfl
theorem lL : ∀ {S T : List Int}, dI (S.map D.int) (T.map D.int) = (S == T)
 | [], [] => by simp [dI]
 | [], _ :: _ => by simp [dI]
 | _ :: _, [] => by simp [dI]
 | s :: S, t :: T => by
   rw [List.map_cons, List.map_cons, dI, lL, aW]; rfl
theorem Eb {S T : List Int} : cm .eq (.lst (S.map D.int)) (.lst (T.map D.int)) = some (S == T) := by
 show qj _ _ = _
 unfold qj
 rw [kW, kW, aW, lL]; rfl
theorem Cy {S T : List Int} : cm .ne (.lst (S.map D.int)) (.lst (T.map D.int)) = some (!(S == T)) := by
 show pK _ _ = _
 unfold pK
 rw [kW, kW, aW, lL]; rfl
theorem RG {S : List Int} : cm .eq (.lst (S.map D.int)) (.lst []) = some S.isEmpty := by
 rw [show (.lst [] : D) = .lst (([] : List Int).map D.int) from rfl, Eb]
 cases S <;> rfl
theorem RD {S : List Int} : cm .ne (.lst (S.map D.int)) (.lst []) = some (!S.isEmpty) := by
 rw [show (.lst [] : D) = .lst (([] : List Int).map D.int) from rfl, Cy]
 cases S <;> rfl
theorem pC {α : Type} {l : List α} {x : α} : at' (l ++ [x]) (-1) = some x := by
 unfold at' iW
 rw [if_neg (by decide), if_pos (by simp only [List.length_append, List.length_singleton]; omega)]
 have : (-1 + ((l ++ [x]).length : Int)).toNat = l.length := by simp only [List.length_append, List.length_singleton]; omega
 rw [this]; simp
theorem zG {α : Type} {l : List α} {f : α -> D} {k : Nat} {x : α} (h : l[k]? = some x) : at' (l.map f) (k : Int) = some (f x) := by
 have hk := (List.getElem?_eq_some_iff.mp h).1
 rw [yN (by simpa using hk), List.getElem?_map, h]; rfl
theorem Ht {n k : Nat} (h : k < n) : iW n (k : Int) = some k := by
 unfold iW; rw [if_pos (by omega), if_pos (by omega)]; simp
theorem R7 {α : Type} {l : List α} {i : Int} (h : 0 <= i) (h' : i < l.length) : ∃ x, at' l i = some x /\ x ∈ l := by
 rw [pB h h']
 have hk : i.toNat < l.length := by omega
 exact ⟨l[i.toNat], by simp [hk], List.getElem_mem hk⟩
theorem gA {is : List Nat} {one : Bool} {body : List Sl -> Res Fl} {g : Nat -> D} {N : Nat} (J : Nat -> List Sl -> Prop) {Q : Fl -> List Sl -> Prop} (hb : ∀ i ρ, i < N -> J i ρ -> ∃ ρ1, bU ρ is one (g i) = some ρ1 /\ (body ρ1).sat (fQ (J (i + 1)) Q)) (hq : ∀ ρ, J N ρ -> Q .next ρ) {ρ : List Sl} (h0 : J 0 ρ) : (km is one body ((List.range N).map g) ρ).sat Q := by
 refine dj (fun r ρ => ∃ i, i <= N /\ r = ((List.range N).map g).drop i /\ J i ρ) ?_ ?_ ⟨0, Nat.zero_le _, rfl, h0⟩
 . rintro d r ρ ⟨i, hi, e, j⟩
   have hlt : i < N := by
    rcases Nat.lt_or_ge i N with h | h
    . exact h
    . rw [List.drop_eq_nil_of_le (by simpa using h)] at e; cases e
   rw [List.drop_eq_getElem_cons (by simpa using hlt)] at e
   injection e with e1 e2
   simp at e1
   subst e1
   obtain ⟨ρ1, h1, h2⟩ := hb i ρ hlt j
   refine ⟨ρ1, h1, h2.imp fun fl ρ2 q => ?_⟩
   cases fl with
   | next => exact ⟨i + 1, hlt, e2, q⟩
   | cont => exact ⟨i + 1, hlt, e2, q⟩
   | brk => exact q
   | ret v => exact q
 . rintro ρ ⟨i, hi, e, j⟩
   have : i = N := by
    have hl := congrArg List.length e
    simp at hl
    omega
   subst this
   exact hq ρ j
theorem Lh {c : Call} {is : List Nat} {one : Bool} {elt : P} {t : Option P} (J : List Sl -> Prop) (P : D -> Prop) {Q : List D -> List Sl -> Prop} {ds : List D} {ρ : List Sl} (j : J ρ)
 (h : ∀ d, d ∈ ds -> ∀ ρ, J ρ -> ∃ ρ1, bU ρ is one d = some ρ1 /\ (m8 c t ρ1).sat fun b ρ2 => if b = true then (ev c elt ρ2).sat fun r ρ3 => P r.d /\ J ρ3 else J ρ2) (k : ∀ xs ρ, J ρ -> xs.length <= ds.length -> (∀ x ∈ xs, P x) -> Q xs ρ) : (jf c is one t elt ds ρ).sat Q := by
 suffices hh : ∀ (ds : List D) (acc : List D) (ρ : List Sl), J ρ -> (∀ x ∈ acc, P x) -> (∀ d, d ∈ ds -> ∀ ρ, J ρ -> ∃ ρ1, bU ρ is one d = some ρ1 /\ (m8 c t ρ1).sat fun b ρ2 => if b = true then (ev c elt ρ2).sat fun r ρ3 => P r.d /\ J ρ3 else J ρ2) ->
  (turns is one (m8 c t) (ev c elt) ds acc ρ).sat fun xs ρ => J ρ /\ (∀ x ∈ xs, P x) /\ xs.length <= acc.length + ds.length from
  (hh ds [] ρ j (by simp) h).imp fun xs ρ ⟨q1, q2, q3⟩ => k xs ρ q1 (by simpa using q3) q2
 intro ds
 induction ds with
 | nil => intro acc ρ j ha _; rw [turns]; exact ⟨j, ha, by simp⟩
 | cons d r ih =>
   intro acc ρ j ha h
   obtain ⟨ρ1, e, h1⟩ := h d (by simp) ρ j
   rw [turns, e]
   show ((m8 c t ρ1).bind _).sat _
   rw [bf]
   refine h1.imp fun b ρ2 q => ?_
   cases b with
   | true =>
     rw [if_pos rfl] at q
     rw [if_pos rfl, bf]
     refine q.imp fun x ρ3 ⟨p, j3⟩ => ?_
     refine (ih (acc ++ [x.d]) ρ3 j3 (fun y hy => ?_) fun d' hd' => h d' (by simp [hd'])).imp fun xs ρ ⟨q1, q2, q3⟩ => ⟨q1, q2, by simp at q3 ⊢; omega⟩
     rcases List.mem_append.mp hy with hy | hy
     . exact ha y hy
     . rw [List.mem_singleton.mp hy]; exact p
   | false =>
     rw [if_neg (by simp)] at q
     rw [if_neg (by simp)]
     exact (ih acc ρ2 q ha fun d' hd' => h d' (by simp [hd'])).imp fun xs ρ ⟨q1, q2, q3⟩ => ⟨q1, q2, by simp at q3 ⊢; omega⟩
theorem xn {c : Call} {is : List Nat} {one : Bool} {elt : P} (J : List Sl -> Prop) (P : D -> Prop) {Q : List D -> List Sl -> Prop} {ds : List D} {ρ : List Sl} (j : J ρ)
 (h : ∀ d, d ∈ ds -> ∀ ρ, J ρ -> ∃ ρ1, bU ρ is one d = some ρ1 /\ (ev c elt ρ1).sat fun r ρ3 => P r.d /\ J ρ3) (k : ∀ xs ρ, J ρ -> xs.length = ds.length -> (∀ x ∈ xs, P x) -> Q xs ρ) : (jf c is one none elt ds ρ).sat Q := by
 suffices hh : ∀ (ds : List D) (acc : List D) (ρ : List Sl), J ρ -> (∀ x ∈ acc, P x) -> (∀ d, d ∈ ds -> ∀ ρ, J ρ -> ∃ ρ1, bU ρ is one d = some ρ1 /\ (ev c elt ρ1).sat fun r ρ3 => P r.d /\ J ρ3) ->
  (turns is one (m8 c none) (ev c elt) ds acc ρ).sat fun xs ρ => J ρ /\ (∀ x ∈ xs, P x) /\ xs.length = acc.length + ds.length from
  (hh ds [] ρ j (by simp) h).imp fun xs ρ ⟨q1, q2, q3⟩ => k xs ρ q1 (by simpa using q3) q2
 intro ds
 induction ds with
 | nil => intro acc ρ j ha _; rw [turns]; exact ⟨j, ha, by simp⟩
 | cons d r ih =>
   intro acc ρ j ha h
   obtain ⟨ρ1, e, h1⟩ := h d (by simp) ρ j
   rw [turns, e]
   show ((m8 c none ρ1).bind _).sat _
   rw [m8]
   show ((ev c elt ρ1).bind _).sat _
   rw [bf]
   refine h1.imp fun x ρ3 ⟨p, j3⟩ => ?_
   refine (ih (acc ++ [x.d]) ρ3 j3 (fun y hy => ?_) fun d' hd' => h d' (by simp [hd'])).imp fun xs ρ ⟨q1, q2, q3⟩ => ⟨q1, q2, by simp at q3 ⊢; omega⟩
   rcases List.mem_append.mp hy with hy | hy
   . exact ha y hy
   . rw [List.mem_singleton.mp hy]; exact p
inductive A3 (a b c : Prop) : Prop where
 | mk (ha : a) (hb : b) (hc : c)
inductive A4 (a b c d : Prop) : Prop where
 | mk (ha : a) (hb : b) (hc : c) (hd : d)
inductive A5 (a b c d e : Prop) : Prop where
 | mk (ha : a) (hb : b) (hc : c) (hd : d) (he : e)
inductive A6 (a b c d e f : Prop) : Prop where
 | mk (ha : a) (hb : b) (hc : c) (hd : d) (he : e) (hf : f)
inductive A7 (a b c d e f g : Prop) : Prop where
 | mk (ha : a) (hb : b) (hc : c) (hd : d) (he : e) (hf : f) (hg : g)
inductive A8 (a b c d e f g h : Prop) : Prop where
 | mk (ha : a) (hb : b) (hc : c) (hd : d) (he : e) (hf : f) (hg : g) (hh : h)
inductive A9 (a b c d e f g h i : Prop) : Prop where
 | mk (ha : a) (hb : b) (hc : c) (hd : d) (he : e) (hf : f) (hg : g) (hh : h) (hi : i)
end HH
end
section
namespace HH
open PySem L2 PySem.Spec PyProof.Rows
section
variable {X : Cx} {c : Call} {n : Nat} {e a b d tg : Expr} {p pa pb pd : P} {pos : Pos}
theorem Jk {g : TG} {is : List Nat} (he : SX X c e p) (hg : PG X tg g) (hgo : Br X.K (fun ρ d => bU ρ is false d) g) (hs : swapsWithSole [tg] e pos.line X.env = pure false := by rfl) (hw : swappedStores [tg] e X.env = pure none := by rfl)
 (h1 : (assignEach [tg] X.env).map (·.2) = [assign tg X.env] := by rfl) : SS X c n (.Assign [tg] e pos) (.Wl is p) := by
 refine eY (Aa he.ev hg hs hw h1) ?_
 rintro D σ H ⟨F, ρ, fl, ρ', g0, e, k⟩
 rw [ex] at e
 obtain ⟨r, ρ1, e1, e⟩ := ak e
 refine ⟨F, ρ, r, ρ1, g0, e1, fun v F1 H1 s1 rr => ?_⟩
 obtain ⟨F2, s2, _, rp⟩ := s1.gR rr
 split at e
 . rename_i ds hd
   obtain ⟨ρ2, ρ3, e2, e⟩ := ak e
   cases e
   have zz := aF e2; clear e2; obtain ⟨e2, e3⟩ := zz
   rw [hd] at rp
   exact hgo v (.tup ds) F2 ρ1 _ σ H1 _ s2.gs rp (by show bU ρ1 is false (.tup ds) = _; cases is <;> exact e2) fun σ' s3 => k F2 σ' H1 (s2.trans s3)
 . cases e
end
end HH
end
section
namespace HT
open PySem PySem.Spec PyProof.Rows
section
variable {prog : Program} {w : World} {A : Around} {E : Value -> Shared -> Prop} {s : Shared}
theorem ql {t sl : Addr} {its : Array Value} {vl vu : Value} {lo hi : Option Int} {Q : Value -> Shared -> Prop} (ht : IsTup s.heap t its) (hs : s.heap.IsSliceOf sl vl vu .none) (pl : IsPart vl lo) (pu : IsPart vu hi)
 (h1 : cz its.size 0 lo = 0) (h2 : cz its.size its.size hi = its.size) (h : Q (.ref t) s) : wpAny (model prog w) A (getItem (.ref t) (.ref sl)) Q E s := by
 obtain ⟨os, hos, hcs, hds⟩ := id hs
 have hT : s.TypeIs (.ref sl) "slice" := ⟨os, hos, hcs⟩
 unfold getItem
 try with_reducible refine wpAny_holding ?_
 first | refine wpAny_bind (wpAny_pure ?_) | skip
 refine wpAny_bind (wpAny_sequenceKey ht.typeIs (by decide) (wpAny_bind (wpAny_callSpecial?_slot (name := Str.ofString "__getitem__") ht.typeIs slot_tuple_getitem (wpAny_call_entry slot_tuple_getitem ht.typeIs entry_tuple_getitem ?_ (args_tuple_getitem _ _)))))
 show wpAny _ _ (Builtin.Tuple.tupleItemsOf (.ref t) >>= _) _ _ s
 refine wpAny_bind (tupleItemsOf_ ht (wpAny_bind (wpAny_typeOf hT ?_)))
 rw [if_pos (by decide)]
 refine wpAny_bind (fB hs pl pu ?_)
 have WL : ((((cz its.size 0 lo : Nat) : Int) == 0 && (1 : Int) == 1 && (cz its.size its.size hi - cz its.size 0 lo) == its.size) = true) := by rw [h1, h2]; simp
 show wpAny _ _ (if (((cz its.size 0 lo : Nat) : Int) == 0 && (1 : Int) == 1 && (cz its.size its.size hi - cz its.size 0 lo) == its.size) = true then _ else _) _ _ s
 rw [if_pos WL]
 unfold Builtin.Tuple.tupleIsExact
 refine wpAny_bind (wpAny_bind (wpAny_typeOf ht.typeIs (wpAny_pure ?_)))
 rw [if_pos (by decide)]
 exact wpAny_bind (wpAny_rule (wpAny_pure ⟨_, rfl, wpAny_pure h⟩))
end
end HT
namespace HH
open PySem L2 PySem.Spec PyProof.Rows
noncomputable def VM : Expr -> Bool
 | .Starred _ _ => false
 | _ => true
theorem fW {e : Expr} {es : List Expr} {env : Env} (h : VM e = true) : starEach (e :: es) env = (false, eval e env) :: starEach es env := by
 cases e with
 | Starred a b => cases h
 | _ => rw [starEach]; (intro e p z; cases z)
noncomputable def my : List Int -> List Expr -> Option (List Expr)
 | [], es => some es
 | i :: is, .Constant (.int j) _ _ :: es => if i = j then my is es else none
 | _, _ => none
theorem dD {X : L2.Cx} {c : Call} : ∀ (is : List Int) {es es' : List Expr} {ps' : List P}, my is es = some es' -> SA X c es' ps' -> SA X c es (is.map (fun i => P.con (.int i)) ++ ps')
 | [], es, es', ps', h, r => by cases h; exact r
 | i :: is, [], es', ps', h, r => by cases h
 | i :: is, e :: es, es', ps', h, r => by
   cases e with
   | Constant v k p =>
     cases v with
     | int j =>
       rw [my] at h
       split at h
       . rename_i hij
         subst hij
         exact uT ao (dD is h r) (fW rfl)
       . cases h
     | _ => cases h
   | _ => cases h
theorem o6 {n d : Nat} {o : Option Int} : HT.cz n d o = HH.cz n d o := by
 cases o with
 | none => rfl
 | some v =>
   show (if v < 0 then (v + (n : Int)).toNat else min v.toNat n) = (if 0 <= v then min v.toNat n else (v + n).toNat)
   by_cases h : 0 <= v
   . rw [if_pos h, if_neg (by omega)]
   . rw [if_neg h, if_pos (by omega)]
theorem yz {xs : List V} {lo hi : Option Int} : sI xs lo hi = HH.cut xs lo hi := by
 unfold sI HH.cut; rw [o6, o6]
theorem az.cut {K : PySem.W.Frag} {F : Hp} {ds : List D} {vs : List V} {lo hi : Option Int} (h : az K F vs ds) : az K F (HH.cut vs lo hi) (HH.cut ds lo hi) := by
 unfold HH.cut; rw [h.length]; exact (h.drop _).take _
section
variable {X : Cx} {c : Call} {n : Nat} {e a b : Expr} {p pa pb pl ph : P} {pos p2 : Pos} {lo hi : Option Expr}
noncomputable def Ti (K : PySem.W.Frag) : V -> Option Int -> Option Int -> Hp -> VK -> Prop := fun x lo hi H Q => ∃ F d r, aK F H /\ cU K F H x d /\ Mq d (some lo) (some hi) = some r /\ ∀ v F' H', Ext F H F' H' -> cj K F' H' H v r -> Q v H'
theorem NZ : Q4 X (Ti X.K) := by
 rintro pins s σ H x v vl vu lo hi sl Q I rx hs pl pu ⟨F, d, r, sm, px, he, k⟩
 cases d with
 | lst ds =>
   cases he
   obtain ⟨a, xs, rfl, hq, rs⟩ := px.lst sm
   refine Ce pins s σ H _ v vl vu lo hi sl Q I rx hs pl pu ⟨a, xs, rfl, hq, fun p hp => ?_⟩
   rw [yz]
   exact tW sm rs.cut hp k
 | tup ds =>
   cases he
   obtain ⟨a, xs, rfl, hq, rs, rt⟩ := px.tup sm
   by_cases hw : HT.cz xs.length 0 lo = 0 /\ HT.cz xs.length xs.length hi = xs.length
   . cases rx
     obtain ⟨its, rv, ht, hz⟩ := I.tuple hq
     have hlen : its.toArray.size = xs.length := by rw [List.size_toArray]; exact rv.length.symm
     refine ⟨"tuple", _, slot_tuple_getitem.lookup, ht.typeIs, HT.ql ht hs pl pu (by rw [hlen]; exact hw.1) (by rw [hlen]; exact hw.2) ⟨.ref a, H, I, rfl, ?_⟩⟩
     have hc : HH.cut ds lo hi = ds := by
      unfold HH.cut
      rw [<- rs.length, <- o6, <- o6, hw.1, hw.2]; simp [rs.length]
     rw [hc] at k
     exact cj.dG sm rt k
   . refine Ho pins s σ H _ v vl vu lo hi sl Q I rx hs pl pu ⟨a, xs, rfl, hq, hw, fun p hp => ?_⟩
     rw [yz]
     exact zy sm rs.cut hp k
 | _ => cases he
noncomputable def SO (X : Cx) (c : Call) (o : Option Expr) (p : P) : Prop := ∃ t, PO X o t /\ ∀ {σ : L2.St} {H F : Hp} {ρ ρ' : List Sl} {d : D} {i : Option Int} {Q : Option Int -> Hp -> Prop}, GS X.K F ρ σ H -> eV (isVar p) (HH.ev c p) ρ = .ok d ρ' -> part p d = some i -> (∀ F' H', bB X.K F ρ σ H F' ρ' σ H' -> Q i H') -> t σ H Q
theorem u9 : SO X c none (.con .non) := by
 refine ⟨_, BJ, fun {σ H F ρ ρ' d i Q} g e h k => ?_⟩
 cases (show some none = some i from h)
 have e' : (HH.ev c (.con .non) ρ).bind (fun r ρ => .ok r.d ρ) = .ok d ρ' := e
 clear e
 rw [HH.ev] at e'
 cases e'
 exact k F H (.refl g)
theorem vW (h : SX X c e p) (hn : zE p = false := by rfl) : SO X c (some e) p := by
 obtain ⟨t, h1, h2⟩ := h.eV
 refine ⟨_, Ds h1, fun {σ H F ρ ρ' d i Q} g e hp k => ?_⟩
 unfold part at hp
 rw [hn, if_neg (by decide)] at hp
 obtain ⟨j, e1, e2⟩ := map_some hp
 cases dY e1
 subst e2
 exact h2 g e fun v F' H' s pv => ⟨j, pv.int, k F' H' s⟩
theorem qx {d : D} {x y : Option (Option Int)} {r : R} (h : Mq d x y = some r) : ∃ lo hi, x = some lo /\ y = some hi := by
 cases x with
 | none => cases d <;> cases h
 | some lo => cases y with
   | none => cases d <;> cases h
   | some hi => exact ⟨lo, hi, rfl, rfl⟩
theorem qZ (ha : SX X c a pa) (hl : SO X c lo pl) (hh : SO X c hi ph) : SX X c (.Subscript a (.Slice lo hi none p2) pos) (.slice pa pl ph) := by
 obtain ⟨tl, l1, l2⟩ := hl
 obtain ⟨th, h1, h2⟩ := hh
 cases hv : isVar pa with
 | none =>
   refine ⟨eZ (qJ NZ ha.ev l1 h1) ?_, fun i h => by cases h⟩
   rintro σ H Q ⟨F, ρ, r, ρ', g, e, k⟩
   rw [HH.ev, hv] at e
   obtain ⟨x, ρ1, e1', ea⟩ := ak e; clear e
   have QR : (HH.ev c pa ρ).bind (fun r ρ => .ok r.d ρ) = .ok x ρ1 := e1'
   clear e1'
   obtain ⟨rx, ρ1', e1, e0⟩ := ak QR; clear QR
   cases e0
   obtain ⟨y, ρ2, e2, eb⟩ := ak ea; clear ea
   obtain ⟨z, ρ3, e3, ec⟩ := ak eb; clear eb
   obtain ⟨e, e4⟩ := aF ec; clear ec
   subst e4
   obtain ⟨lo', hi', q1, q2⟩ := qx e
   rw [q1, q2] at e
   refine ⟨F, ρ, rx, _, g, e1, fun v F1 H1 s1 rr => ?_⟩
   obtain ⟨F2, s2, _, rp⟩ := s1.gR rr
   refine l2 s2.gs e2 q1 fun F3 H3 s3 => h2 s3.gs e3 q2 fun F4 H4 s4 => ?_
   have s5 := s2.trans (s3.trans s4)
   refine ⟨F4, _, r, s4.gs.sub, .inl ((rp.mono s3.cW).mono s4.cW), e, fun v F5 H5 x rn => ?_⟩
   exact k v F5 H5 (s5.trans (x.stp s5.gs)) (.later s5 (rn.qM s5.gs))
 | some i =>
   refine ⟨eZ (qJ NZ (ha.var i hv) l1 h1) ?_, fun i h => by cases h⟩
   rintro σ H Q ⟨F, ρ, r, ρ', g, e, k⟩
   rw [HH.ev, hv] at e
   obtain ⟨x0, ρ0, e0', ea⟩ := ak e; clear e
   obtain ⟨e0, xR⟩ := aF e0'; clear e0'
   subst xR
   obtain ⟨y, ρ2, e2, eb⟩ := ak ea; clear ea
   obtain ⟨z, ρ3, e3, ec⟩ := ak eb; clear eb
   obtain ⟨x, ρ4, e5', ed⟩ := ak ec; clear ec
   obtain ⟨e5, e6⟩ := aF e5'; clear e5'
   subst e6
   obtain ⟨e, e4⟩ := aF ed; clear ed
   subst e4
   obtain ⟨lo', hi', q1, q2⟩ := qx e
   rw [q1, q2] at e
   obtain ⟨v, hv1, _⟩ := g.pk e0
   refine ⟨v, hv1, l2 g e2 q1 fun F3 H3 s3 => h2 s3.gs e3 q2 fun F4 H4 s4 => ?_⟩
   have s5 := s3.trans s4
   obtain ⟨v', hv2, pv⟩ := s5.gs.pk e5
   rw [hv1] at hv2; cases hv2
   refine ⟨F4, _, r, s4.gs.sub, pv, e, fun v F5 H5 x rn => ?_⟩
   exact k v F5 H5 (s5.trans (x.stp s5.gs)) (.later s5 (rn.qM s5.gs))
end
end HH
end
section
namespace HH
open PySem
theorem jl : ∀ a b : List Int, aP a b = true -> aP b a = false
 | [], [], h => by simp [aP] at h
 | [], _ :: _, _ => by simp [aP]
 | _ :: _, [], h => by simp [aP] at h
 | x :: a, y :: b, h => by
   simp only [aP, Bool.or_eq_true, decide_eq_true_eq, Bool.and_eq_true] at h
   simp only [aP, Bool.or_eq_false_iff, decide_eq_false_iff_not, Bool.and_eq_false_iff]
   rcases h with h | ⟨h, h'⟩
   . exact ⟨by omega, .inl (by omega)⟩
   . exact ⟨by omega, .inr (jl a b h')⟩
theorem tY : ∀ a b c : List Int, aP b a = false -> aP c b = false -> aP c a = false
 | [], _, c, _, _ => by cases c <;> simp [aP]
 | _ :: _, [], _, h, _ => by simp [aP] at h
 | _ :: _, _ :: _, [], _, h => by simp [aP] at h
 | x :: a, y :: b, z :: c, h1, h2 => by
   simp only [aP, Bool.or_eq_false_iff, decide_eq_false_iff_not, Bool.and_eq_false_iff] at h1 h2 ⊢
   refine ⟨by omega, ?_⟩
   by_cases e : z = x
   . right
     exact tY a b c (h1.2.resolve_left (by omega)) (h2.2.resolve_left (by omega))
   . exact .inl e
theorem qI : ∀ a b : List Int, aP a b = false -> aP b a = false -> a = b
 | [], [], _, _ => rfl
 | [], _ :: _, h, _ => by simp [aP] at h
 | _ :: _, [], _, h => by simp [aP] at h
 | x :: a, y :: b, h1, h2 => by
   simp only [aP, Bool.or_eq_false_iff, decide_eq_false_iff_not, Bool.and_eq_false_iff] at h1 h2
   have e : x = y := by omega
   subst e
   rw [qI a b (h1.2.resolve_left (by simp)) (h2.2.resolve_left (by simp))]
theorem qY : ∀ {xs ys : List D}, xs.all cL = true -> ys.all cL = true -> xs.map dX = ys.map dX -> xs = ys
 | [], [], _, _, _ => rfl
 | [], _ :: _, _, _, h => by simp at h
 | _ :: _, [], _, _, h => by simp at h
 | x :: xs, y :: ys, h1, h2, h => by
   simp only [List.all_cons, Bool.and_eq_true] at h1 h2
   simp only [List.map_cons, List.cons.injEq] at h
   obtain ⟨i, rfl⟩ : ∃ i, x = .int i := by cases x <;> first | exact ⟨_, rfl⟩ | (have q := h1.1; simp [cL] at q; done)
   obtain ⟨j, rfl⟩ : ∃ j, y = .int j := by cases y <;> first | exact ⟨_, rfl⟩ | (have q := h2.1; simp [cL] at q; done)
   rw [qY h1.2 h2.2 h.2, show i = j from h.1]
theorem v7 {x y : D} (h : (cL x = true /\ cL y = true) \/ (kE x = true /\ kE y = true)) (e : bz x = bz y) : x = y := by
 rcases h with ⟨h1, h2⟩ | ⟨h1, h2⟩
 . cases x <;> first | (simp [cL] at h1; done) | skip
   cases y <;> first | (simp [cL] at h2; done) | skip
   simpa [bz] using e
 . cases x <;> first | (simp [kE] at h1; done) | skip
   cases y <;> first | (simp [kE] at h2; done) | skip
   rename_i xs ys
   cases xs <;> first | (simp [kE] at h1; done) | skip
   cases ys <;> first | (simp [kE] at h2; done) | skip
   rw [qY h1 h2 e]
noncomputable def gq (a b : D) : Bool := !aP (bz b) (bz a)
theorem gD (ds : List D) : (gZ ds).Perm ds := List.mergeSort_perm ..
theorem CK (a b c : D) (h1 : gq a b = true) (h2 : gq b c = true) : gq a c = true := by
 simp only [gq, Bool.not_eq_true'] at *
 exact tY _ _ _ h1 h2
theorem yg (a b : D) : (gq a b || gq b a) = true := by
 simp only [gq, Bool.or_eq_true, Bool.not_eq_true']
 cases h : aP (bz b) (bz a) with
 | false => exact .inl rfl
 | true => exact .inr (jl _ _ h)
theorem fU (ds : List D) : (gZ ds).Pairwise fun a b => gq a b = true := List.pairwise_mergeSort CK yg ds
theorem oY {ds : List D} (h : sortable ds = true) : ∀ x ∈ ds, ∀ y ∈ ds, bz x = bz y -> x = y := by
 simp only [sortable, Bool.and_eq_true, Bool.or_eq_true, List.all_eq_true] at h
 intro x hx y hy e
 rcases h.2 with h | h
 . exact v7 (.inl ⟨h x hx, h y hy⟩) e
 . exact v7 (.inr ⟨h x hx, h y hy⟩) e
theorem mH {ds l : List D} (h : sortable ds = true) (p : l.Perm ds) (s : l.Pairwise fun a b => gq a b = true) : l = gZ ds := by
 refine List.Perm.eq_of_pairwise (le := fun a b => gq a b = true) (fun a b ha hb h1 h2 => ?_) s (fU ds) (p.trans (gD ds).symm)
 simp only [gq, Bool.not_eq_true'] at h1 h2
 exact oY h a (p.mem_iff.mp ha) b ((gD ds).mem_iff.mp hb) (qI _ _ h2 h1)
end HH
end
section
namespace HH
open PySem PyProof.Rows
noncomputable abbrev SM := StateT SortSt Sem
noncomputable def W3 : Bool -> Keyed -> Array Keyed -> Nat -> Nat -> Nat -> SM (Option Nat) := sortPriv% PySem.Builtin.gallop
noncomputable def Hz (l : Bool) (k : Keyed) (xs : Array Keyed) (b i : Nat) : SM (Option Bool) :=
 elem' xs (b + i) >>= fun x => if l = true then lt' x k else lt' k x >>= fun o => pure (o.map fun x => !x)
noncomputable def zr (l : Bool) (k : Keyed) (xs : Array Keyed) (b n lo hi : Nat) : SM (Option Nat) :=
 (forIn [0:n] ((none, lo, hi) : Option (Option Nat) × Nat × Nat) fun _ c =>
  if c.2.1 ≥ c.2.2 then pure (.done (none, c.2.1, c.2.2)) else Hz l k xs b (c.2.1 + (c.2.2 - c.2.1) / 2) >>= fun o => match o with
   | some m => if m = true then pure (.yield (none, c.2.1 + (c.2.2 - c.2.1) / 2 + 1, c.2.2)) else pure (.yield (none, c.2.1, c.2.1 + (c.2.2 - c.2.1) / 2))
   | _ => pure (.done (some none, c.2.1, c.2.2))) >>= fun c => match c.1 with
  | some r => pure r
  | none => pure (some c.2.2)
theorem GQ (l : Bool) (k : Keyed) (xs : Array Keyed) (b n h : Nat) : W3 l k xs b n h = Hz l k xs b h >>= fun o => match o with
 | some r => if r = true then
  (forIn [0:n] ((none, 0, 1) : Option (Option Nat) × Nat × Nat) fun _ c =>
   if c.2.2 ≥ n - h then pure (.done (none, c.2.1, c.2.2)) else Hz l k xs b (h + c.2.2) >>= fun o => match o with
    | some m => if (!m) = true then pure (.done (none, c.2.1, c.2.2)) else pure (.yield (none, c.2.2, 2 * c.2.2 + 1))
    | _ => pure (.done (some none, c.2.1, c.2.2))) >>= fun c => match c.1 with
   | some r => pure r
   | none => zr l k xs b n (h + c.2.1 + 1) (h + min c.2.2 (n - h))
  else
   (forIn [0:n] ((none, 0, 1) : Option (Option Nat) × Nat × Nat) fun _ c =>
    if c.2.2 ≥ h + 1 then pure (.done (none, c.2.1, c.2.2)) else Hz l k xs b (h - c.2.2) >>= fun o => match o with
     | some m => if m = true then pure (.done (none, c.2.1, c.2.2)) else pure (.yield (none, c.2.2, 2 * c.2.2 + 1))
     | _ => pure (.done (some none, c.2.1, c.2.2))) >>= fun c => match c.1 with
    | some r => pure r
    | none => zr l k xs b n (h + 1 - min c.2.2 (h + 1)) (h - c.2.1)
 | _ => pure none := by
 unfold zr
 show Hz l k xs b h >>= _ = _
 congr 1
 funext o
 cases o with
 | none => rfl
 | some r =>
   dsimp only
   cases r with
   | true =>
     simp only [if_true]
     congr 1
     funext c
     obtain ⟨c1, c2, c3⟩ := c
     cases c1 with
     | some r => rfl
     | none =>
       dsimp only
       congr 1
       funext c
       obtain ⟨c1, c2, c3⟩ := c
       cases c1 <;> rfl
   | false =>
     simp only [Bool.false_eq_true, if_false]
     congr 1
     funext c
     obtain ⟨c1, c2, c3⟩ := c
     cases c1 with
     | some r => rfl
     | none =>
       dsimp only
       congr 1
       funext c
       obtain ⟨c1, c2, c3⟩ := c
       cases c1 <;> rfl
structure Rk (M : Model) (A : Around) (E : Value -> Shared -> Prop) (s : Shared) (κ : SortKind) (ok : Keyed -> Prop) (K : Keyed -> Int) : Prop where
 lt : ∀ {x y : Keyed} {Q : Option Bool -> SortSt -> Prop} {st : SortSt}, ok x -> ok y -> kindOf st = κ -> Q (some (decide (K x < K y))) st -> wpS M A E s (lt' x y) Q st
section
variable {M : Model} {A : Around} {E : Value -> Shared -> Prop} {s : Shared} {κ : SortKind} {ok : Keyed -> Prop} {K : Keyed -> Int}
noncomputable def it (xs : Array Keyed) (i : Nat) : Keyed := xs.getD i (Value.none, Value.none)
theorem pQ {xs : Array Keyed} {i : Nat} (h : i < xs.size) : xs[i]? = some (it xs i) := by unfold it; simp [Array.getD, h]
theorem cG {xs : Array Keyed} {i : Nat} (h : i < xs.size) : it xs i ∈ xs.toList := by
 have : it xs i = xs[i] := by unfold it; simp [Array.getD, h]
 rw [this]; simp
theorem aV {xs : Array Keyed} {i : Nat} {Q : Keyed -> SortSt -> Prop} {st : SortSt} (h : i < xs.size) (q : Q (it xs i) st) : wpS M A E s (elem' xs i) Q st := by
 rw [elem'_eq, pQ h]; exact wpS_pure q
noncomputable def bb (K : Keyed -> Int) (l : Bool) (k x : Keyed) : Bool := if l = true then decide (K x < K k) else !decide (K k < K x)
theorem pU (R : Rk M A E s κ ok K) {l : Bool} {k : Keyed} {xs : Array Keyed} {b i : Nat} {Q : Option Bool -> SortSt -> Prop} {st : SortSt} (hk : ok k) (hx : ∀ x ∈ xs.toList, ok x) (hi : b + i < xs.size) (hs : kindOf st = κ)
 (q : Q (some (bb K l k (it xs (b + i)))) st) : wpS M A E s (Hz l k xs b i) Q st := by
 unfold Hz
 refine wpS_bind (aV hi ?_)
 have ho := hx _ (cG hi)
 cases l with
 | true => exact R.lt ho hk hs q
 | false => exact wpS_bind (R.lt hk ho hs (wpS_pure q))
noncomputable def Dp (K : Keyed -> Int) (l : Bool) (k : Keyed) (xs : Array Keyed) (b n : Nat) : Prop := ∀ i j, i <= j -> j < n -> bb K l k (it xs (b + j)) = true -> bb K l k (it xs (b + i)) = true
theorem uV (R : Rk M A E s κ ok K) {l : Bool} {k : Keyed} {xs : Array Keyed} {b n lo hi : Nat} {Q : Option Nat -> SortSt -> Prop} {st : SortSt} (hk : ok k) (hx : ∀ x ∈ xs.toList, ok x) (hb : b + n <= xs.size) (hs : kindOf st = κ) (hc : Dp K l k xs b n)
 (h1 : lo <= hi) (h2 : hi <= n) (h3 : ∀ i, i < lo -> bb K l k (it xs (b + i)) = true) (h4 : ∀ i, hi <= i -> i < n -> bb K l k (it xs (b + i)) = false)
 (q : ∀ m, m <= n -> (∀ i, i < m -> bb K l k (it xs (b + i)) = true) -> (∀ i, m <= i -> i < n -> bb K l k (it xs (b + i)) = false) -> Q (some m) st) : wpS M A E s (zr l k xs b n lo hi) Q st := by
 unfold zr
 refine wpS_bind (wpS_mono (wpS_forRange (I := fun x c st' => st' = st /\ ∃ lo hi, c = (none, lo, hi) /\ lo <= hi /\ hi <= n /\ hi - lo <= n - x /\ (∀ i, i < lo -> bb K l k (it xs (b + i)) = true) /\ ∀ i, hi <= i -> i < n -> bb K l k (it xs (b + i)) = false)
  (Q := fun c st' => st' = st /\ ∃ m, c = (none, m, m) /\ m <= n /\ (∀ i, i < m -> bb K l k (it xs (b + i)) = true) /\ ∀ i, m <= i -> i < n -> bb K l k (it xs (b + i)) = false) ?_ ?_ ⟨rfl, lo, hi, rfl, h1, h2, by omega, h3, h4⟩) ?_)
 . rintro x c st' _ hxn ⟨rfl, lo, hi, rfl, a1, a2, a3, a4, a5⟩
   dsimp only
   by_cases e : lo ≥ hi
   . rw [if_pos e]
     have : lo = hi := by omega
     subst this
     exact wpS_pure ⟨rfl, lo, rfl, a2, a4, a5⟩
   . rw [if_neg e]
     refine wpS_bind (pU R hk hx (by omega) hs ?_)
     cases c : bb K l k (it xs (b + (lo + (hi - lo) / 2))) with
     | true =>
       dsimp only
       rw [if_pos rfl]
       exact wpS_pure ⟨rfl, _, _, rfl, by omega, a2, by omega, fun i hi' => hc i (lo + (hi - lo) / 2) (by omega) (by omega) c, a5⟩
     | false =>
       dsimp only
       rw [if_neg (by simp)]
       refine wpS_pure ⟨rfl, _, _, rfl, by omega, by omega, by omega, a4, fun i i1 i2 => ?_⟩
       cases z : bb K l k (it xs (b + i)) with
       | false => rfl
       | true => have := hc (lo + (hi - lo) / 2) i i1 i2 z; rw [c] at this; cases this
 . rintro c st' ⟨rfl, lo, hi, rfl, a1, a2, a3, a4, a5⟩
   have : lo = hi := by omega
   subst this
   exact ⟨rfl, lo, rfl, a2, a4, a5⟩
 . rintro c st' ⟨rfl, m, rfl, a1, a2, a3⟩
   exact wpS_pure (q m a1 a2 a3)
theorem jN (R : Rk M A E s κ ok K) {l : Bool} {k : Keyed} {xs : Array Keyed} {b n h : Nat} {Q : Option Nat -> SortSt -> Prop} {st : SortSt} (hk : ok k) (hx : ∀ x ∈ xs.toList, ok x) (hb : b + n <= xs.size) (hh : h < n) (hs : kindOf st = κ) (hc : Dp K l k xs b n)
 (q : ∀ m, m <= n -> (∀ i, i < m -> bb K l k (it xs (b + i)) = true) -> (∀ i, m <= i -> i < n -> bb K l k (it xs (b + i)) = false) -> Q (some m) st) : wpS M A E s (W3 l k xs b n h) Q st := by
 have up : ∀ {i : Nat}, i < n -> bb K l k (it xs (b + i)) = true -> ∀ j, j <= i -> bb K l k (it xs (b + j)) = true := fun hi c j hj => hc _ _ hj hi c
 have dn : ∀ {i : Nat}, bb K l k (it xs (b + i)) = false -> ∀ j, i <= j -> j < n -> bb K l k (it xs (b + j)) = false := fun {i} c j h1 h2 => by
  cases z : bb K l k (it xs (b + j)) with
  | false => rfl
  | true => have := hc i j h1 h2 z; rw [c] at this; cases this
 rw [GQ]
 refine wpS_bind (pU R hk hx (by omega) hs ?_)
 cases c0 : bb K l k (it xs (b + h)) with
 | true =>
   dsimp only
   rw [if_pos rfl]
   refine wpS_bind (wpS_mono (wpS_forRange (I := fun x c st' => st' = st /\ ∃ a o, c = (none, a, o) /\ x + 1 <= o /\ a < o /\ h + a < n /\ bb K l k (it xs (b + (h + a))) = true)
    (Q := fun c st' => st' = st /\ ∃ a o, c = (none, a, o) /\ a < o /\ h + a < n /\ bb K l k (it xs (b + (h + a))) = true /\ (n - h <= o \/ o < n - h /\ bb K l k (it xs (b + (h + o))) = false)) ?_ ?_ ⟨rfl, 0, 1, rfl, by omega, by omega, by omega, by simpa using c0⟩) ?_)
   . rintro x c st' _ hxn ⟨rfl, a, o, rfl, a1, a2, a3, a4⟩
     dsimp only
     by_cases e : o ≥ n - h
     . rw [if_pos e]; exact wpS_pure ⟨rfl, a, o, rfl, a2, a3, a4, .inl e⟩
     . rw [if_neg e]
       refine wpS_bind (pU R hk hx (by omega) hs ?_)
       cases c : bb K l k (it xs (b + (h + o))) with
       | true =>
         dsimp only
         rw [if_neg (by simp)]
         exact wpS_pure ⟨rfl, _, _, rfl, by omega, by omega, by omega, c⟩
       | false =>
         dsimp only
         rw [if_pos (by simp)]
         exact wpS_pure ⟨rfl, a, o, rfl, a2, a3, a4, .inr ⟨by omega, c⟩⟩
   . rintro c st' ⟨rfl, a, o, rfl, a1, a2, a3, a4⟩
     exact ⟨rfl, a, o, rfl, a2, a3, a4, .inl (by omega)⟩
   . rintro c st' ⟨rfl, a, o, rfl, a2, a3, a4, a5⟩
     dsimp only
     refine uV R hk hx hb hs hc (by omega) (by omega) (fun i hi => up a3 a4 i (by omega)) (fun i h1 h2 => ?_) q
     rcases a5 with z | ⟨z1, z2⟩
     . omega
     . exact dn z2 i (by omega) h2
 | false =>
   dsimp only
   rw [if_neg (by simp)]
   refine wpS_bind (wpS_mono (wpS_forRange (I := fun x c st' => st' = st /\ ∃ a o, c = (none, a, o) /\ x + 1 <= o /\ a < o /\ a <= h /\ bb K l k (it xs (b + (h - a))) = false)
    (Q := fun c st' => st' = st /\ ∃ a o, c = (none, a, o) /\ a < o /\ a <= h /\ bb K l k (it xs (b + (h - a))) = false /\ (h + 1 <= o \/ o < h + 1 /\ bb K l k (it xs (b + (h - o))) = true)) ?_ ?_ ⟨rfl, 0, 1, rfl, by omega, by omega, by omega, by simpa using c0⟩) ?_)
   . rintro x c st' _ hxn ⟨rfl, a, o, rfl, a1, a2, a3, a4⟩
     dsimp only
     by_cases e : o ≥ h + 1
     . rw [if_pos e]; exact wpS_pure ⟨rfl, a, o, rfl, a2, a3, a4, .inl e⟩
     . rw [if_neg e]
       refine wpS_bind (pU R hk hx (by omega) hs ?_)
       cases c : bb K l k (it xs (b + (h - o))) with
       | false =>
         dsimp only
         rw [if_neg (by simp)]
         exact wpS_pure ⟨rfl, _, _, rfl, by omega, by omega, by omega, c⟩
       | true =>
         dsimp only
         rw [if_pos rfl]
         exact wpS_pure ⟨rfl, a, o, rfl, a2, a3, a4, .inr ⟨by omega, c⟩⟩
   . rintro c st' ⟨rfl, a, o, rfl, a1, a2, a3, a4⟩
     exact ⟨rfl, a, o, rfl, a2, a3, a4, .inl (by omega)⟩
   . rintro c st' ⟨rfl, a, o, rfl, a2, a3, a4, a5⟩
     dsimp only
     refine uV R hk hx hb hs hc (by omega) (by omega) (fun i hi => ?_) (fun i h1 h2 => dn a4 i (by omega) h2) q
     rcases a5 with z | ⟨z1, z2⟩
     . omega
     . exact up (by omega) z2 i (by omega)
end
end HH
end
section
namespace HH
open PySem PyProof.Rows
section
variable {K : Keyed -> Int} {T out A B P : List Keyed} {x y z : Keyed}
noncomputable def SL (K : Keyed -> Int) (l : List Keyed) : Prop := l.Pairwise fun x y => K x <= K y
theorem bQ {l k : List Keyed} : SL K (l ++ k) ↔ SL K l /\ SL K k /\ ∀ x ∈ l, ∀ y ∈ k, K x <= K y := List.pairwise_append
theorem Rg {l : List Keyed} (h : SL K (x :: l)) : ∀ y ∈ l, K x <= K y := (List.pairwise_cons.mp h).1
structure MW (K : Keyed -> Int) (T out A B : List Keyed) : Prop where
 perm : (out ++ (A ++ B)).Perm T
 sa : SL K (out ++ A)
 sb : SL K (out ++ B)
theorem MW.PN (w : MW K T out (P ++ A) B) (h : ∀ x ∈ P, ∀ y ∈ B, K x <= K y) : MW K T (out ++ P) A B := by
 refine ⟨by simpa using w.perm, by simpa using w.sa, ?_⟩
 have h1 := bQ.mp w.sb
 have h2 := bQ.mp (show SL K ((out ++ P) ++ A) by simpa using w.sa)
 refine bQ.mpr ⟨h2.1, h1.2.1, fun x hx y hy => ?_⟩
 rcases List.mem_append.mp hx with hx | hx
 . exact h1.2.2 x hx y hy
 . exact h x hx y hy
theorem MW.Oj (w : MW K T out A (P ++ B)) (h : ∀ x ∈ P, ∀ y ∈ A, K x <= K y) : MW K T (out ++ P) A B := by
 have h1 := bQ.mp w.sa
 have h2 := bQ.mp (show SL K ((out ++ P) ++ B) by simpa using w.sb)
 refine ⟨?_, bQ.mpr ⟨h2.1, h1.2.1, fun x hx y hy => ?_⟩, by simpa using w.sb⟩
 . refine List.Perm.trans ?_ w.perm
   rw [List.append_assoc]
   refine List.Perm.append_left out ?_
   rw [<- List.append_assoc, <- List.append_assoc]
   exact List.perm_append_comm.append_right B
 . rcases List.mem_append.mp hx with hx | hx
   . exact h1.2.2 x hx y hy
   . exact h x hx y hy
theorem MW.Tt (w : MW K T out A []) : (out ++ A).Perm T /\ SL K (out ++ A) := ⟨by simpa using w.perm, w.sa⟩
theorem MW.Tv (w : MW K T out [] B) : (out ++ B).Perm T /\ SL K (out ++ B) := ⟨by simpa using w.perm, w.sb⟩
theorem MW.last (w : MW K T out [z] B) (h : ∀ y ∈ B, K y <= K z) : (out ++ B ++ [z]).Perm T /\ SL K (out ++ B ++ [z]) := by
 refine ⟨?_, bQ.mpr ⟨w.sb, List.pairwise_singleton _ _, fun x hx y hy => ?_⟩⟩
 . refine List.Perm.trans ?_ w.perm
   rw [List.append_assoc]
   exact List.Perm.append_left out List.perm_append_comm
 . rw [List.mem_singleton.mp hy]
   rcases List.mem_append.mp hx with hx | hx
   . exact (bQ.mp w.sa).2.2 x hx z (by simp)
   . exact h x hx
theorem oW {a : Array Keyed} {i : Nat} (h : i < a.size) : a.toList.drop i = it a i :: a.toList.drop (i + 1) := by
 have e : it a i = a.toList[i] := by unfold it; simp [Array.getD, h]
 rw [e]; exact List.drop_eq_getElem_cons (by simpa using h)
theorem gM {a : Array Keyed} {i j : Nat} (h : j <= a.size) : (a.extract i j).toList = (a.toList.drop i).take (j - i) := by
 simp [Array.toList_extract, List.extract]
theorem ir {a : Array Keyed} {i : Nat} : (a.extract i a.size).toList = a.toList.drop i := by
 rw [gM (Nat.le_refl _)]; exact List.take_of_length_le (by simp)
theorem iR {a : Array Keyed} {i k : Nat} (h : i + k <= a.size) : a.toList.drop i = (a.extract i (i + k)).toList ++ a.toList.drop (i + k) := by
 rw [gM h, Nat.add_sub_cancel_left]
 rw [show a.toList.drop (i + k) = (a.toList.drop i).drop k by rw [List.drop_drop]]
 exact (List.take_append_drop k _).symm
theorem ext_mem {a : Array Keyed} {i k : Nat} {x : Keyed} (h : i + k <= a.size) (hx : x ∈ (a.extract i (i + k)).toList) : ∃ j, j < k /\ x = it a (i + j) := by
 rw [gM h, Nat.add_sub_cancel_left] at hx
 obtain ⟨j, hj, e⟩ := List.mem_iff_getElem.mp hx
 simp only [List.length_take, List.length_drop, Array.length_toList] at hj
 refine ⟨j, by omega, ?_⟩
 rw [<- e]
 unfold it
 simp [Array.getD, show i + j < a.size by omega]
theorem gB {a : Array Keyed} {i : Nat} {x : Keyed} (hx : x ∈ a.toList.drop i) : ∃ j, i <= j /\ j < a.size /\ x = it a j := by
 obtain ⟨j, hj, e⟩ := List.mem_iff_getElem.mp hx
 simp only [List.length_drop, Array.length_toList] at hj
 refine ⟨i + j, by omega, by omega, ?_⟩
 rw [<- e]
 unfold it
 simp [Array.getD, show i + j < a.size by omega]
noncomputable def qd (K : Keyed -> Int) (a : Array Keyed) : Prop := ∀ i j, i <= j -> j < a.size -> K (it a i) <= K (it a j)
theorem mD {a : Array Keyed} (h : qd K a) : SL K a.toList := by
 unfold SL
 rw [List.pairwise_iff_getElem]
 intro i j hi hj hij
 have := h i j (by omega) (by simpa using hj)
 have hi' : i < a.size := by simpa using hi
 have hj' : j < a.size := by simpa using hj
 unfold it at this
 simpa [Array.getD, hi', hj'] using this
end
section
variable {M : Model} {A : Around} {E : Value -> Shared -> Prop} {s : Shared} {κ : SortKind} {ok : Keyed -> Prop} {K : Keyed -> Int}
structure m6 (st st' : SortSt) : Prop where
 kind : kindOf st' = kindOf st
 arr : arrOf st' = arrOf st
 pend : pendingOf st' = pendingOf st
 fail : failedOf st' = failedOf st
theorem m6.refl (st : SortSt) : m6 st st := ⟨rfl, rfl, rfl, rfl⟩
theorem m6.trans {a b c : SortSt} (h : m6 a b) (k : m6 b c) : m6 a c := ⟨k.kind.trans h.kind, k.arr.trans h.arr, k.pend.trans h.pend, k.fail.trans h.fail⟩
noncomputable def setG : Nat -> SM Unit := sortPriv% PySem.Builtin.setMinGallop
theorem lB {g : Nat} {Q : Unit -> SortSt -> Prop} {st : SortSt} (q : ∀ st', m6 st st' -> Q () st') : wpS M A E s (setG g) Q st := wpS_modify (q _ ⟨rfl, rfl, rfl, rfl⟩)
theorem wp_rule {x : String} {Q : Unit -> SortSt -> Prop} {st : SortSt} (q : Q () st) : wpS M A E s (liftM (rule x) : SM Unit) Q st := wpS_lift (wpAny_rule ⟨rfl, q⟩)
noncomputable def mlo : Array Keyed -> Array Keyed -> SM (Array Keyed) := sortPriv% PySem.Builtin.mergeLo
structure MI (K : Keyed -> Int) (a b out : Array Keyed) (ia ib : Nat) : Prop where
 i1 : ia + 1 < a.size
 i2 : ib < b.size
 w : MW K (a.toList ++ b.toList) out.toList (a.toList.drop ia) (b.toList.drop ib)
structure Fin (K : Keyed -> Int) (a b out : Array Keyed) : Prop where
 perm : out.toList.Perm (a.toList ++ b.toList)
 gZ : SL K out.toList
theorem iu {a b out : Array Keyed} {ia ib : Nat} (h : ib = b.size) (w : MW K (a.toList ++ b.toList) out.toList (a.toList.drop ia) (b.toList.drop ib)) : Fin K a b (out ++ a.extract ia a.size ++ b.extract ib b.size) := by
 have e : b.toList.drop ib = [] := by rw [h]; simp
 rw [e] at w
 obtain ⟨h1, h2⟩ := w.Tt
 refine ⟨?_, ?_⟩ <;> rw [Array.toList_append, Array.toList_append, ir, ir, e, List.append_nil] <;> assumption
theorem wH {a b out : Array Keyed} {ia ib : Nat} (h : ia = a.size) (w : MW K (a.toList ++ b.toList) out.toList (a.toList.drop ia) (b.toList.drop ib)) : Fin K a b (out ++ a.extract ia a.size ++ b.extract ib b.size) := by
 have e : a.toList.drop ia = [] := by rw [h]; simp
 rw [e] at w
 obtain ⟨h1, h2⟩ := w.Tv
 refine ⟨?_, ?_⟩ <;> rw [Array.toList_append, Array.toList_append, ir, ir, e, List.append_nil] <;> assumption
theorem jc {a b out : Array Keyed} {ia ib : Nat} (h : ia + 1 = a.size) (hl : ∀ i, i < b.size -> K (it b i) <= K (it a (a.size - 1))) (w : MW K (a.toList ++ b.toList) out.toList (a.toList.drop ia) (b.toList.drop ib)) : Fin K a b (out ++ b.extract ib b.size ++ a.extract ia a.size) := by
 have e : a.toList.drop ia = [it a ia] := by rw [oW (by omega), h]; simp
 rw [e] at w
 obtain ⟨h1, h2⟩ := w.last fun y hy => by
  obtain ⟨j, _, hj, rfl⟩ := gB hy
  rw [show ia = a.size - 1 by omega]
  exact hl j hj
 refine ⟨?_, ?_⟩ <;> rw [Array.toList_append, Array.toList_append, ir, ir, e] <;> assumption
theorem MW.oU {a b out : Array Keyed} {ia ib : Nat} (h : ia < a.size) (w : MW K (a.toList ++ b.toList) out.toList (a.toList.drop ia) (b.toList.drop ib)) (hb : qd K b) (hk : ib < b.size -> K (it a ia) <= K (it b ib)) : MW K (a.toList ++ b.toList) (out.push (it a ia)).toList (a.toList.drop (ia + 1)) (b.toList.drop ib) := by
 rw [oW h] at w
 rw [Array.toList_push]
 refine MW.PN (P := [it a ia]) w fun x hx y hy => ?_
 rw [List.mem_singleton.mp hx]
 obtain ⟨j, j1, j2, rfl⟩ := gB hy
 exact Int.le_trans (hk (by omega)) (hb _ _ j1 j2)
theorem MW.nY {a b out : Array Keyed} {ia ib : Nat} (h : ib < b.size) (w : MW K (a.toList ++ b.toList) out.toList (a.toList.drop ia) (b.toList.drop ib)) (ha : qd K a) (hk : ia < a.size -> K (it b ib) <= K (it a ia)) : MW K (a.toList ++ b.toList) (out.push (it b ib)).toList (a.toList.drop ia) (b.toList.drop (ib + 1)) := by
 rw [oW h] at w
 rw [Array.toList_push]
 refine MW.Oj (P := [it b ib]) w fun x hx y hy => ?_
 rw [List.mem_singleton.mp hx]
 obtain ⟨j, j1, j2, rfl⟩ := gB hy
 exact Int.le_trans (hk (by omega)) (ha _ _ j1 j2)
theorem MW.yR {a b out : Array Keyed} {ia ib k : Nat} (h : ia + k <= a.size) (w : MW K (a.toList ++ b.toList) out.toList (a.toList.drop ia) (b.toList.drop ib)) (hb : qd K b) (hk : ∀ j, j < k -> ib < b.size -> K (it a (ia + j)) <= K (it b ib)) : MW K (a.toList ++ b.toList) (out ++ a.extract ia (ia + k)).toList (a.toList.drop (ia + k)) (b.toList.drop ib) := by
 rw [iR h] at w
 rw [Array.toList_append]
 refine MW.PN w fun x hx y hy => ?_
 obtain ⟨i, hi, rfl⟩ := ext_mem h hx
 obtain ⟨j, j1, j2, rfl⟩ := gB hy
 exact Int.le_trans (hk i hi (by omega)) (hb _ _ j1 j2)
theorem MW.yw {a b out : Array Keyed} {ia ib k : Nat} (h : ib + k <= b.size) (w : MW K (a.toList ++ b.toList) out.toList (a.toList.drop ia) (b.toList.drop ib)) (ha : qd K a) (hk : ∀ j, j < k -> ia < a.size -> K (it b (ib + j)) <= K (it a ia)) : MW K (a.toList ++ b.toList) (out ++ b.extract ib (ib + k)).toList (a.toList.drop ia) (b.toList.drop (ib + k)) := by
 rw [iR h] at w
 rw [Array.toList_append]
 refine MW.Oj w fun x hx y hy => ?_
 obtain ⟨i, hi, rfl⟩ := ext_mem h hx
 obtain ⟨j, j1, j2, rfl⟩ := gB hy
 exact Int.le_trans (hk i hi (by omega)) (ha _ _ j1 j2)
theorem oZ {l : Bool} {k : Keyed} {a : Array Keyed} {b n : Nat} (h : qd K a) (hn : b + n <= a.size) : Dp K l k a b n := fun i j hij hj c => by
 have := h (b + i) (b + j) (by omega) (by omega)
 unfold bb at *
 cases l with
 | true => simp only [if_true, decide_eq_true_eq] at *; omega
 | false => simp only [Bool.false_eq_true, if_false, Bool.not_eq_true', decide_eq_false_iff_not] at *; omega
end
end HH
end
section
namespace HH
open PySem PyProof.Rows
section
variable {M : Model} {A : Around} {E : Value -> Shared -> Prop} {s : Shared} {κ : SortKind} {ok : Keyed -> Prop} {K : Keyed -> Int}
set_option maxHeartbeats 1000000 in
theorem G6 (R : Rk M A E s κ ok K) {a b : Array Keyed} {Q : Array Keyed -> SortSt -> Prop} {st : SortSt} (ha : ∀ x ∈ a.toList, ok x) (hb : ∀ x ∈ b.toList, ok x) (hs : kindOf st = κ) (ua : qd K a) (ub : qd K b)
 (a1 : 1 <= a.size) (b1 : 1 <= b.size) (h0 : K (it b 0) <= K (it a 0)) (hl : ∀ i, i < b.size -> K (it b i) <= K (it a (a.size - 1))) (q : ∀ out st', Fin K a b out -> m6 st st' -> Q out st') : wpS M A E s (mlo a b) Q st := by
 show wpS M A E s (liftM (rule "list.sort.merge-lo") >>= _) Q st
 refine wpS_bind (wp_rule ?_)
 try dsimp only
 refine wpS_bind (aV (by omega) ?_)
 try dsimp only
 have w0 : MW K (a.toList ++ b.toList) (#[] : Array Keyed).toList (a.toList.drop 0) (b.toList.drop 0) := ⟨by simp, by simpa using mD ua, by simpa using mD ub⟩
 have w1 := w0.nY (by omega) ua (fun _ => h0)
 rw [show (#[] : Array Keyed).push (it b 0) = #[it b 0] from rfl] at w1
 by_cases c1 : 1 = b.size
 . rw [if_pos (by simpa using c1)]
   exact wpS_pure (q _ _ (iu c1 w1) (.refl _))
 rw [if_neg (by simpa using c1)]
 by_cases c2 : 0 + 1 = a.size
 . rw [if_pos (by simpa using c2)]
   exact wpS_pure (q _ _ (jc c2 hl w1) (.refl _))
 rw [if_neg (by simpa using c2)]
 refine wpS_bind (wpS_get ?_)
 try dsimp only
 refine wpS_bind (wpS_mono (wpS_forRange (I := fun x c st' => m6 st st' /\ ∃ out ia ib mg, c = (none, out, ia, ib, mg) /\ MI K a b out ia ib /\ x + 1 <= ia + ib)
  (Q := fun c st' => m6 st st' /\ ∃ out, c.1 = some out /\ Fin K a b out) ?_ ?_ ⟨.refl _, _, 0, 1, _, rfl, ⟨by omega, by omega, w1⟩, by omega⟩) ?_)
 . rintro x c st1 _ hx ⟨s1, out, ia, ib, mg, rfl, mi, hp⟩
   try dsimp only
   refine wpS_bind (wpS_mono (wpS_forRange (I := fun y c st' => m6 st st' /\ ∃ out iC fH ac bc, c = (none, out, iC, fH, ac, bc) /\ MI K a b out iC fH /\ ia + ib + y <= iC + fH)
    (Q := fun c st' => m6 st st' /\ ((∃ out, c.1 = some out /\ Fin K a b out) \/ ∃ out iC fH ac bc, c = (none, out, iC, fH, ac, bc) /\ MI K a b out iC fH /\ ia + ib + 1 <= iC + fH)) ?_ ?_ ⟨s1, out, ia, ib, 0, 0, rfl, mi, by omega⟩) ?_)
   . rintro y c st2 _ hy ⟨s2, out, iC, fH, ac, bc, rfl, mi, hp'⟩
     have i1 := mi.i1
     have i2 := mi.i2
     try dsimp only
     refine wpS_bind (aV i2 (wpS_bind (aV (by omega) (wpS_bind (R.lt (hb _ (cG i2)) (ha _ (cG (by omega))) (s2.kind.trans hs) ?_)))))
     by_cases c : K (it b fH) < K (it a iC)
     . rw [decide_eq_true c]
       try dsimp only
       rw [if_pos rfl]
       refine wpS_bind (aV i2 ?_)
       try dsimp only
       have w := mi.w.nY i2 ua (fun _ => by omega)
       by_cases e : fH + 1 = b.size
       . rw [if_pos (by simpa using e)]
         exact wpS_pure ⟨s2, .inl ⟨_, rfl, iu e w⟩⟩
       . rw [if_neg (by simpa using e)]
         have sS : MI K a b (out.push (it b fH)) iC (fH + 1) := ⟨i1, by omega, w⟩
         split
         . exact wpS_pure ⟨s2, .inr ⟨_, _, _, _, _, rfl, sS, by omega⟩⟩
         . exact wpS_pure ⟨s2, _, _, _, _, _, rfl, sS, by omega⟩
     . rw [decide_eq_false c]
       try dsimp only
       rw [if_neg (by simp)]
       refine wpS_bind (aV (by omega) ?_)
       try dsimp only
       have w := mi.w.oU (by omega) ub (fun _ => by omega)
       by_cases e : iC + 1 + 1 = a.size
       . rw [if_pos (by simpa using e)]
         exact wpS_pure ⟨s2, .inl ⟨_, rfl, jc e hl w⟩⟩
       . rw [if_neg (by simpa using e)]
         have sS : MI K a b (out.push (it a iC)) (iC + 1) fH := ⟨by omega, i2, w⟩
         split
         . exact wpS_pure ⟨s2, .inr ⟨_, _, _, _, _, rfl, sS, by omega⟩⟩
         . exact wpS_pure ⟨s2, _, _, _, _, _, rfl, sS, by omega⟩
   . rintro c st2 ⟨s2, out, iC, fH, ac, bc, rfl, mi, hp'⟩
     exact ⟨s2, .inr ⟨_, _, _, _, _, rfl, mi, by omega⟩⟩
   . rintro c st2 ⟨s2, ⟨out, hc, hf⟩ | ⟨out, iC, fH, ac, bc, rfl, mi, hp'⟩⟩
     . obtain ⟨c1, c2, c3, c4, c5, c6⟩ := c
       cases hc
       exact wpS_pure ⟨s2, out, rfl, hf⟩
     . try dsimp only
       refine wpS_bind (wp_rule ?_)
       refine wpS_bind (wpS_mono (wpS_forRange (I := fun y c st' => m6 st st' /\ ∃ out iC fH mg ac bc, c = (none, out, iC, fH, mg, ac, bc) /\ MI K a b out iC fH /\ ia + ib + 1 <= iC + fH)
        (Q := fun c st' => m6 st st' /\ ((∃ out, c.1 = some out /\ Fin K a b out) \/ ∃ out iC fH mg ac bc, c = (none, out, iC, fH, mg, ac, bc) /\ MI K a b out iC fH /\ ia + ib + 1 <= iC + fH)) ?_ ?_ ⟨s2, out, iC, fH, _, ac, bc, rfl, mi, by omega⟩) ?_)
       . rintro y c st3 _ hy ⟨s3, out, iC, fH, mg, ac, bc, rfl, mi, hp'⟩
         have i1 := mi.i1
         have i2 := mi.i2
         try dsimp only
         by_cases cm : mg > 1
         all_goals first | rw [if_pos cm] | rw [if_neg cm]
         all_goals
          refine wpS_bind (lB fun Bj Kc => ?_)
          have s4 := s3.trans Kc
          refine wpS_bind (aV i2 ?_)
          refine wpS_bind (jN R (hb _ (cG i2)) ha (by omega) (by omega) (s4.kind.trans hs) (oZ ua (by omega)) fun k k1 k2 k3 => ?_)
          have k2' : ∀ j, j < k -> K (it a (iC + j)) <= K (it b fH) := fun j hj => by have := k2 j hj; simp [bb] at this; omega
          have QS : ∀ j, k <= j -> j < a.size - iC -> K (it b fH) <= K (it a (iC + j)) := fun j h1 h2 => by have := k3 j h1 h2; simp [bb] at this; omega
          have two : ∃ mY tu, (mY = if k > 0 then out ++ a.extract iC (iC + k) else out) /\ tu = iC + k /\ MW K (a.toList ++ b.toList) mY.toList (a.toList.drop tu) (b.toList.drop fH) := by
           refine ⟨_, _, rfl, rfl, ?_⟩
           by_cases c : k > 0
           . rw [if_pos c]; exact mi.w.yR (by omega) ub fun j hj _ => k2' j hj
           . rw [if_neg c, show k = 0 by omega]; exact mi.w
          obtain ⟨mY, tu, eo, ei, w⟩ := two
          have k4 : tu < a.size -> K (it b fH) <= K (it a tu) := fun h => by rw [ei]; exact QS k (Nat.le_refl _) (by omega)
          try dsimp only
          have j0 : tu <= a.size := by omega
          rcases Nat.eq_zero_or_pos k with z | c
          rotate_left
          rw [if_pos c] at eo ⊢
          rw [<- eo, <- ei]
          by_cases e1 : tu + 1 = a.size
          . rw [if_pos (by simpa using e1)]
            exact wpS_pure ⟨s4, .inl ⟨_, rfl, jc e1 hl w⟩⟩
          rw [if_neg (by simpa using e1)]
          by_cases e2 : tu = a.size
          . rw [if_pos (by simpa using e2)]
            exact wpS_pure ⟨s4, .inl ⟨_, rfl, wH e2 w⟩⟩
          rw [if_neg (by simpa using e2)]
          rotate_left
          rw [if_neg (by omega)] at eo ⊢
          rw [z, Nat.add_zero] at ei
          rw [<- eo, <- ei]
          all_goals
           have j1 : tu + 1 < a.size := by omega
           refine wpS_bind (aV i2 ?_)
           have w2 := w.nY i2 ua k4
           try dsimp only
           by_cases e3 : fH + 1 = b.size
           . rw [if_pos (by simpa using e3)]
             exact wpS_pure ⟨s4, .inl ⟨_, rfl, iu e3 w2⟩⟩
           rw [if_neg (by simpa using e3)]
           refine wpS_bind (aV (by omega) ?_)
           refine wpS_bind (jN R (ha _ (cG (by omega))) hb (by omega) (by omega) (s4.kind.trans hs) (oZ ub (by omega)) fun m m1 m2 m3 => ?_)
           have m2' : ∀ j, j < m -> K (it b (fH + 1 + j)) <= K (it a tu) := fun j hj => by have := m2 j hj; simp [bb] at this; omega
           have m3' : ∀ j, m <= j -> j < b.size - (fH + 1) -> K (it a tu) <= K (it b (fH + 1 + j)) := fun j h1 h2 => by have := m3 j h1 h2; simp [bb] at this; omega
           have Kd : ∃ p6 Gp, (p6 = if m > 0 then mY.push (it b fH) ++ b.extract (fH + 1) (fH + 1 + m) else mY.push (it b fH)) /\ Gp = fH + 1 + m /\ MW K (a.toList ++ b.toList) p6.toList (a.toList.drop tu) (b.toList.drop Gp) := by
            refine ⟨_, _, rfl, rfl, ?_⟩
            by_cases c : m > 0
            . rw [if_pos c]; exact w2.yw (by omega) ua fun j hj _ => m2' j hj
            . rw [if_neg c, show m = 0 by omega]; exact w2
           obtain ⟨p6, Gp, Eo, SN, w3⟩ := Kd
           have m4 : Gp < b.size -> K (it a tu) <= K (it b Gp) := fun h => by rw [SN]; exact m3' m (Nat.le_refl _) (by omega)
           try dsimp only
           rcases Nat.eq_zero_or_pos m with z2 | c2
           rotate_left
           rw [if_pos c2] at Eo ⊢
           rw [<- Eo, <- SN]
           by_cases e4 : Gp = b.size
           . rw [if_pos (by simpa using e4)]
             exact wpS_pure ⟨s4, .inl ⟨_, rfl, iu e4 w3⟩⟩
           rw [if_neg (by simpa using e4)]
           rotate_left
           rw [if_neg (by omega)] at Eo ⊢
           rw [z2, Nat.add_zero] at SN
           rw [<- Eo, <- SN]
           all_goals
            have j2 : Gp < b.size := by omega
            refine wpS_bind (aV (by omega) ?_)
            have w4 := w3.oU (by omega) ub m4
            try dsimp only
            by_cases e5 : tu + 1 + 1 = a.size
            . rw [if_pos (by simpa using e5)]
              exact wpS_pure ⟨s4, .inl ⟨_, rfl, jc e5 hl w4⟩⟩
            rw [if_neg (by simpa using e5)]
            have sS : MI K a b (p6.push (it a tu)) (tu + 1) Gp := ⟨by omega, j2, w4⟩
            split
            . exact wpS_pure ⟨s4, .inr ⟨_, _, _, _, _, _, rfl, sS, by omega⟩⟩
            . exact wpS_pure ⟨s4, _, _, _, _, _, _, rfl, sS, by omega⟩
       . rintro c st3 ⟨s3, out, iC, fH, mg, ac, bc, rfl, mi, hp'⟩
         exact ⟨s3, .inr ⟨_, _, _, _, _, _, rfl, mi, hp'⟩⟩
       . rintro c st3 ⟨s3, ⟨out, hc, hf⟩ | ⟨out, iC, fH, mg, ac, bc, rfl, mi, hp'⟩⟩
         . obtain ⟨c1, c2, c3, c4, c5, c6, c7⟩ := c
           cases hc
           exact wpS_pure ⟨s3, out, rfl, hf⟩
         . try dsimp only
           exact wpS_bind (lB fun Bj Kc => wpS_pure ⟨s3.trans Kc, _, _, _, _, rfl, mi, by omega⟩)
 . rintro c st1 ⟨s1, out, ia, ib, mg, rfl, mi, hp⟩
   have := mi.i1
   have := mi.i2
   omega
 . rintro c st1 ⟨s1, out, hc, hf⟩
   obtain ⟨c1, c2, c3, c4, c5⟩ := c
   cases hc
   exact wpS_pure (q _ _ hf s1)
end
end HH
end
section
namespace HH
open PySem PyProof.Rows
section
variable {K : Keyed -> Int} {T A B S P : List Keyed} {z : Keyed}
structure MH (K : Keyed -> Int) (T A B S : List Keyed) : Prop where
 perm : (A ++ (B ++ S)).Perm T
 sa : SL K (A ++ S)
 sb : SL K (B ++ S)
theorem MH.PN (w : MH K T (A ++ P) B S) (h : ∀ x ∈ P, ∀ y ∈ B, K y <= K x) : MH K T A B (P ++ S) := by
 have h1 := bQ.mp w.sb
 have h2 := bQ.mp (show SL K (A ++ (P ++ S)) by simpa using w.sa)
 refine ⟨?_, by simpa using w.sa, bQ.mpr ⟨h1.1, h2.2.1, fun x hx y hy => ?_⟩⟩
 . refine List.Perm.trans ?_ w.perm
   rw [List.append_assoc]
   refine List.Perm.append_left A ?_
   rw [<- List.append_assoc, <- List.append_assoc]
   exact List.perm_append_comm.append_right S
 . rcases List.mem_append.mp hy with hy | hy
   . exact h y hy x hx
   . exact h1.2.2 x hx y hy
theorem MH.Oj (w : MH K T A (B ++ P) S) (h : ∀ x ∈ P, ∀ y ∈ A, K y <= K x) : MH K T A B (P ++ S) := by
 have h1 := bQ.mp w.sa
 have h2 := bQ.mp (show SL K (B ++ (P ++ S)) by simpa using w.sb)
 refine ⟨by simpa using w.perm, bQ.mpr ⟨h1.1, h2.2.1, fun x hx y hy => ?_⟩, by simpa using w.sb⟩
 rcases List.mem_append.mp hy with hy | hy
 . exact h y hy x hx
 . exact h1.2.2 x hx y hy
theorem MH.first (w : MH K T A [z] S) (h : ∀ x ∈ A, K z <= K x) : ([z] ++ A ++ S).Perm T /\ SL K ([z] ++ A ++ S) := by
 refine ⟨?_, ?_⟩
 . refine List.Perm.trans ?_ w.perm
   rw [<- List.append_assoc]
   exact List.perm_append_comm.append_right S
 . rw [List.append_assoc]
   refine bQ.mpr ⟨List.pairwise_singleton _ _, w.sa, fun x hx y hy => ?_⟩
   rw [List.mem_singleton.mp hx]
   rcases List.mem_append.mp hy with hy | hy
   . exact h y hy
   . exact (bQ.mp w.sb).2.2 z (by simp) y hy
theorem fu {a : Array Keyed} {n : Nat} (h : n <= a.size) : (a.extract 0 n).toList = a.toList.take n := by rw [gM h]; simp
theorem fL {a : Array Keyed} {i n : Nat} (hi : i <= n) (h : n <= a.size) : a.toList.take n = a.toList.take i ++ (a.extract i n).toList := by
 rw [gM h]
 have e : n = i + (n - i) := by omega
 conv => lhs; rw [e, List.take_add]
theorem pY {a : Array Keyed} {n : Nat} (h0 : 1 <= n) (h : n <= a.size) : a.toList.take n = a.toList.take (n - 1) ++ [it a (n - 1)] := by
 have e : it a (n - 1) = a.toList[n - 1]'(by simp; omega) := by unfold it; simp [Array.getD, show n - 1 < a.size by omega]
 have e2 : n = (n - 1) + 1 := by omega
 conv => lhs; rw [e2]
 rw [List.take_succ_eq_append_getElem (by simp; omega), e]
theorem gG {a : Array Keyed} {n : Nat} {x : Keyed} (h : n <= a.size) (hx : x ∈ a.toList.take n) : ∃ j, j < n /\ x = it a j := by
 obtain ⟨j, hj, e⟩ := List.mem_iff_getElem.mp hx
 simp only [List.length_take, Array.length_toList] at hj
 refine ⟨j, by omega, ?_⟩
 rw [<- e]
 unfold it
 simp [Array.getD, show j < a.size by omega]
theorem lU {a : Array Keyed} {i n : Nat} {x : Keyed} (hi : i <= n) (h : n <= a.size) (hx : x ∈ (a.extract i n).toList) : ∃ j, i <= j /\ j < n /\ x = it a j := by
 obtain ⟨j, hj, e⟩ := ext_mem (a := a) (i := i) (k := n - i) (by omega) (by rw [show i + (n - i) = n by omega]; exact hx)
 exact ⟨i + j, by omega, by omega, e⟩
end
section
variable {M : Model} {A : Around} {E : Value -> Shared -> Prop} {s : Shared} {κ : SortKind} {ok : Keyed -> Prop} {K : Keyed -> Int}
noncomputable def mhi : Array Keyed -> Array Keyed -> SM (Array Keyed) := sortPriv% PySem.Builtin.mergeHi
noncomputable abbrev MV (K : Keyed -> Int) (a b out : Array Keyed) (na nb : Nat) : Prop := MH K (a.toList ++ b.toList) (a.toList.take na) (b.toList.take nb) out.toList.reverse
structure MJ (K : Keyed -> Int) (a b out : Array Keyed) (na nb : Nat) : Prop where
 i1 : 1 <= na
 i2 : 2 <= nb
 i3 : na <= a.size
 i4 : nb <= b.size
 w : MV K a b out na nb
theorem gn {out : Array Keyed} : out.reverse.toList = out.toList.reverse := Array.toList_reverse
theorem pI {a b out : Array Keyed} {na nb : Nat} (h : na = 0) (hb : nb <= b.size) (w : MV K a b out na nb) : Fin K a b (a.extract 0 na ++ b.extract 0 nb ++ out.reverse) := by
 subst h
 have e : (a.extract 0 0 ++ b.extract 0 nb ++ out.reverse).toList = b.toList.take nb ++ out.toList.reverse := by
  rw [Array.toList_append, Array.toList_append, fu (Nat.zero_le _), fu hb, gn]; simp
 exact ⟨by rw [e]; simpa using w.perm, by rw [e]; exact w.sb⟩
theorem JB {a b out : Array Keyed} {na nb : Nat} (h : nb = 0) (ha : na <= a.size) (w : MV K a b out na nb) : Fin K a b (a.extract 0 na ++ b.extract 0 nb ++ out.reverse) := by
 subst h
 have e : (a.extract 0 na ++ b.extract 0 0 ++ out.reverse).toList = a.toList.take na ++ out.toList.reverse := by
  rw [Array.toList_append, Array.toList_append, fu (Nat.zero_le _), fu ha, gn]; simp
 exact ⟨by rw [e]; simpa using w.perm, by rw [e]; exact w.sa⟩
theorem ig {a b out : Array Keyed} {na nb : Nat} (h : nb = 1) (ha : na <= a.size) (hb : nb <= b.size) (ua : qd K a) (h0 : K (it b 0) <= K (it a 0)) (w : MV K a b out na nb) : Fin K a b (b.extract 0 nb ++ a.extract 0 na ++ out.reverse) := by
 subst h
 have e1 : b.toList.take 1 = [it b 0] := by rw [pY (Nat.le_refl 1) hb]; simp
 have e : (b.extract 0 1 ++ a.extract 0 na ++ out.reverse).toList = [it b 0] ++ a.toList.take na ++ out.toList.reverse := by
  rw [Array.toList_append, Array.toList_append, fu hb, fu ha, gn, e1]
 have w' := w
 unfold MV at w'
 rw [e1] at w'
 obtain ⟨h1, h2⟩ := w'.first fun x hx => by
  obtain ⟨j, hj, rfl⟩ := gG ha hx
  exact Int.le_trans h0 (ua 0 j (by omega) (by omega))
 exact ⟨by rw [e]; exact h1, by rw [e]; exact h2⟩
theorem MH.oU {a b out : Array Keyed} {na nb : Nat} (h : 1 <= na) (ha : na <= a.size) (hb : nb <= b.size) (w : MV K a b out na nb) (ub : qd K b) (hk : 1 <= nb -> K (it b (nb - 1)) <= K (it a (na - 1))) : MV K a b (out.push (it a (na - 1))) (na - 1) nb := by
 unfold MV at *
 rw [pY h ha] at w
 rw [Array.toList_push, List.reverse_append]
 refine MH.PN (P := [it a (na - 1)]) w fun x hx y hy => ?_
 rw [List.mem_singleton.mp hx]
 obtain ⟨j, hj, rfl⟩ := gG hb hy
 exact Int.le_trans (ub j (nb - 1) (by omega) (by omega)) (hk (by omega))
theorem MH.nY {a b out : Array Keyed} {na nb : Nat} (h : 1 <= nb) (ha : na <= a.size) (hb : nb <= b.size) (w : MV K a b out na nb) (ua : qd K a) (hk : 1 <= na -> K (it a (na - 1)) <= K (it b (nb - 1))) : MV K a b (out.push (it b (nb - 1))) na (nb - 1) := by
 unfold MV at *
 rw [pY h hb] at w
 rw [Array.toList_push, List.reverse_append]
 refine MH.Oj (P := [it b (nb - 1)]) w fun x hx y hy => ?_
 rw [List.mem_singleton.mp hx]
 obtain ⟨j, hj, rfl⟩ := gG ha hy
 exact Int.le_trans (ua j (na - 1) (by omega) (by omega)) (hk (by omega))
theorem MH.yR {a b out : Array Keyed} {na nb i : Nat} (h : i <= na) (ha : na <= a.size) (hb : nb <= b.size) (w : MV K a b out na nb) (ub : qd K b) (hk : ∀ j, i <= j -> j < na -> 1 <= nb -> K (it b (nb - 1)) <= K (it a j)) : MV K a b (out ++ (a.extract i na).reverse) i nb := by
 unfold MV at *
 rw [fL h ha] at w
 rw [Array.toList_append, List.reverse_append, gn, List.reverse_reverse]
 refine MH.PN w fun x hx y hy => ?_
 obtain ⟨j, j1, j2, rfl⟩ := lU h ha hx
 obtain ⟨l, hl, rfl⟩ := gG hb hy
 exact Int.le_trans (ub l (nb - 1) (by omega) (by omega)) (hk j j1 j2 (by omega))
theorem MH.yw {a b out : Array Keyed} {na nb i : Nat} (h : i <= nb) (ha : na <= a.size) (hb : nb <= b.size) (w : MV K a b out na nb) (ua : qd K a) (hk : ∀ j, i <= j -> j < nb -> 1 <= na -> K (it a (na - 1)) <= K (it b j)) : MV K a b (out ++ (b.extract i nb).reverse) na i := by
 unfold MV at *
 rw [fL h hb] at w
 rw [Array.toList_append, List.reverse_append, gn, List.reverse_reverse]
 refine MH.Oj w fun x hx y hy => ?_
 obtain ⟨j, j1, j2, rfl⟩ := lU h hb hx
 obtain ⟨l, hl, rfl⟩ := gG ha hy
 exact Int.le_trans (ua l (na - 1) (by omega) (by omega)) (hk j j1 j2 (by omega))
set_option maxHeartbeats 1000000 in
theorem HR (R : Rk M A E s κ ok K) {a b : Array Keyed} {Q : Array Keyed -> SortSt -> Prop} {st : SortSt} (ha : ∀ x ∈ a.toList, ok x) (hb : ∀ x ∈ b.toList, ok x) (hs : kindOf st = κ) (ua : qd K a) (ub : qd K b)
 (a1 : 1 <= a.size) (b1 : 1 <= b.size) (h0 : K (it b 0) <= K (it a 0)) (hl : ∀ i, i < b.size -> K (it b i) <= K (it a (a.size - 1))) (q : ∀ out st', Fin K a b out -> m6 st st' -> Q out st') : wpS M A E s (mhi a b) Q st := by
 show wpS M A E s (liftM (rule "list.sort.merge-hi") >>= _) Q st
 refine wpS_bind (wp_rule ?_)
 try dsimp only
 refine wpS_bind (aV (by omega) ?_)
 try dsimp only
 have ta : ∀ c : Array Keyed, c.toList.take c.size = c.toList := fun c => List.take_of_length_le (by simp)
 have w0 : MV K a b #[] a.size b.size := by
  unfold MV
  rw [ta, ta]
  exact ⟨by simp, by simpa using mD ua, by simpa using mD ub⟩
 have w1 := MH.oU a1 (Nat.le_refl _) (Nat.le_refl _) w0 ub (fun _ => hl _ (by omega))
 rw [show (#[] : Array Keyed).push (it a (a.size - 1)) = #[it a (a.size - 1)] from rfl] at w1
 by_cases c1 : a.size - 1 = 0
 . rw [if_pos (by simpa using c1)]
   exact wpS_pure (q _ _ (pI c1 (Nat.le_refl _) w1) (.refl _))
 rw [if_neg (by simpa using c1)]
 by_cases c2 : b.size = 1
 . rw [if_pos (by simpa using c2)]
   exact wpS_pure (q _ _ (ig c2 (by omega) (Nat.le_refl _) ua h0 w1) (.refl _))
 rw [if_neg (by simpa using c2)]
 refine wpS_bind (wpS_get ?_)
 try dsimp only
 refine wpS_bind (wpS_mono (wpS_forRange (I := fun x c st' => m6 st st' /\ ∃ na nb out mg, c = (none, na, nb, out, mg) /\ MJ K a b out na nb /\ x + 1 + na + nb <= a.size + b.size)
  (Q := fun c st' => m6 st st' /\ ∃ out, c.1 = some out /\ Fin K a b out) ?_ ?_ ⟨.refl _, _, _, _, _, rfl, ⟨by omega, by omega, by omega, Nat.le_refl _, w1⟩, by omega⟩) ?_)
 . rintro x c st1 _ hx ⟨s1, na, nb, out, mg, rfl, mi, hp⟩
   try dsimp only
   refine wpS_bind (wpS_mono (wpS_forRange (I := fun y c st' => m6 st st' /\ ∃ iy fJ out ac bc, c = (none, iy, fJ, out, ac, bc) /\ MJ K a b out iy fJ /\ iy + fJ + y <= na + nb)
    (Q := fun c st' => m6 st st' /\ ((∃ out, c.1 = some out /\ Fin K a b out) \/ ∃ iy fJ out ac bc, c = (none, iy, fJ, out, ac, bc) /\ MJ K a b out iy fJ /\ iy + fJ + 1 <= na + nb)) ?_ ?_ ⟨s1, na, nb, out, 0, 0, rfl, mi, by omega⟩) ?_)
   . rintro y c st2 _ hy ⟨s2, iy, fJ, out, ac, bc, rfl, mi, hp'⟩
     obtain ⟨i1, i2, i3, i4, w⟩ := mi
     try dsimp only
     refine wpS_bind (aV (by omega) (wpS_bind (aV (by omega) (wpS_bind (R.lt (hb _ (cG (by omega))) (ha _ (cG (by omega))) (s2.kind.trans hs) ?_)))))
     by_cases c : K (it b (fJ - 1)) < K (it a (iy - 1))
     . rw [decide_eq_true c]
       try dsimp only
       rw [if_pos rfl]
       refine wpS_bind (aV (by omega) ?_)
       try dsimp only
       have w' := MH.oU i1 i3 i4 w ub (fun _ => by omega)
       by_cases e : iy - 1 = 0
       . rw [if_pos (by simpa using e)]
         exact wpS_pure ⟨s2, .inl ⟨_, rfl, pI e i4 w'⟩⟩
       . rw [if_neg (by simpa using e)]
         have sS : MJ K a b (out.push (it a (iy - 1))) (iy - 1) fJ := ⟨by omega, i2, by omega, i4, w'⟩
         split
         . exact wpS_pure ⟨s2, .inr ⟨_, _, _, _, _, rfl, sS, by omega⟩⟩
         . exact wpS_pure ⟨s2, _, _, _, _, _, rfl, sS, by omega⟩
     . rw [decide_eq_false c]
       try dsimp only
       rw [if_neg (by simp)]
       refine wpS_bind (aV (by omega) ?_)
       try dsimp only
       have w' := MH.nY (by omega) i3 i4 w ua (fun _ => by omega)
       by_cases e : fJ - 1 = 1
       . rw [if_pos (by simpa using e)]
         exact wpS_pure ⟨s2, .inl ⟨_, rfl, ig e i3 (by omega) ua h0 w'⟩⟩
       . rw [if_neg (by simpa using e)]
         have sS : MJ K a b (out.push (it b (fJ - 1))) iy (fJ - 1) := ⟨i1, by omega, i3, by omega, w'⟩
         split
         . exact wpS_pure ⟨s2, .inr ⟨_, _, _, _, _, rfl, sS, by omega⟩⟩
         . exact wpS_pure ⟨s2, _, _, _, _, _, rfl, sS, by omega⟩
   . rintro c st2 ⟨s2, iy, fJ, out, ac, bc, rfl, mi, hp'⟩
     exact ⟨s2, .inr ⟨_, _, _, _, _, rfl, mi, by omega⟩⟩
   . rintro c st2 ⟨s2, ⟨out, hc, hf⟩ | ⟨iy, fJ, out, ac, bc, rfl, mi, hp'⟩⟩
     . obtain ⟨c1, c2, c3, c4, c5, c6⟩ := c
       cases hc
       exact wpS_pure ⟨s2, out, rfl, hf⟩
     . try dsimp only
       refine wpS_bind (wp_rule ?_)
       refine wpS_bind (wpS_mono (wpS_forRange (I := fun y c st' => m6 st st' /\ ∃ iy fJ out mg ac bc, c = (none, iy, fJ, out, mg, ac, bc) /\ MJ K a b out iy fJ /\ iy + fJ + 1 <= na + nb)
        (Q := fun c st' => m6 st st' /\ ((∃ out, c.1 = some out /\ Fin K a b out) \/ ∃ iy fJ out mg ac bc, c = (none, iy, fJ, out, mg, ac, bc) /\ MJ K a b out iy fJ /\ iy + fJ + 1 <= na + nb)) ?_ ?_ ⟨s2, iy, fJ, out, _, ac, bc, rfl, mi, by omega⟩) ?_)
       . rintro y c st3 _ hy ⟨s3, iy, fJ, out, mg, ac, bc, rfl, mi, hp'⟩
         obtain ⟨i1, i2, i3, i4, w⟩ := mi
         try dsimp only
         by_cases cm : mg > 1
         all_goals first | rw [if_pos cm] | rw [if_neg cm]
         all_goals
          refine wpS_bind (lB fun Bj Kc => ?_)
          have s4 := s3.trans Kc
          refine wpS_bind (aV (by omega) ?_)
          refine wpS_bind (jN R (hb _ (cG (by omega))) ha (by omega) (by omega) (s4.kind.trans hs) (oZ ua (by omega)) fun k k1 k2 k3 => ?_)
          have k2' : ∀ j, j < k -> K (it a j) <= K (it b (fJ - 1)) := fun j hj => by have := k2 j hj; simp [bb] at this; omega
          have QS : ∀ j, k <= j -> j < iy -> K (it b (fJ - 1)) <= K (it a j) := fun j h1 h2 => by have := k3 j h1 h2; simp [bb] at this; omega
          have two : ∃ mY, (mY = if iy - k > 0 then out ++ (a.extract k iy).reverse else out) /\ MV K a b mY k fJ := by
           refine ⟨_, rfl, ?_⟩
           by_cases c : iy - k > 0
           . rw [if_pos c]; exact MH.yR k1 i3 i4 w ub fun j h1 h2 _ => QS j h1 h2
           . rw [if_neg c, show k = iy by omega]; exact w
          obtain ⟨mY, eo, w1⟩ := two
          try dsimp only
          rcases Nat.eq_zero_or_pos (iy - k) with z | c
          rotate_left
          rw [if_pos c] at eo ⊢
          rw [<- eo]
          by_cases e1 : k = 0
          . rw [if_pos (by simpa using e1)]
            exact wpS_pure ⟨s4, .inl ⟨_, rfl, pI e1 i4 w1⟩⟩
          rw [if_neg (by simpa using e1)]
          rotate_left
          rw [if_neg (by omega)] at eo ⊢
          have hz : k = iy := by omega
          subst hz
          rw [<- eo]
          all_goals
           have j1 : 1 <= k := by omega
           refine wpS_bind (aV (by omega) ?_)
           have w2 := MH.nY (by omega) (by omega) i4 w1 ua (fun _ => k2' _ (by omega))
           try dsimp only
           by_cases e3 : fJ - 1 = 1
           . rw [if_pos (by simpa using e3)]
             exact wpS_pure ⟨s4, .inl ⟨_, rfl, ig e3 (by omega) (by omega) ua h0 w2⟩⟩
           rw [if_neg (by simpa using e3)]
           refine wpS_bind (aV (by omega) ?_)
           refine wpS_bind (jN R (ha _ (cG (by omega))) hb (by omega) (by omega) (s4.kind.trans hs) (oZ ub (by omega)) fun m m1 m2 m3 => ?_)
           have m2' : ∀ j, j < m -> K (it b j) <= K (it a (k - 1)) := fun j hj => by have := m2 j hj; simp [bb] at this; omega
           have m3' : ∀ j, m <= j -> j < fJ - 1 -> K (it a (k - 1)) <= K (it b j) := fun j h1 h2 => by have := m3 j h1 h2; simp [bb] at this; omega
           have Kd : ∃ p6, (p6 = if fJ - 1 - m > 0 then mY.push (it b (fJ - 1)) ++ (b.extract m (fJ - 1)).reverse else mY.push (it b (fJ - 1))) /\ MV K a b p6 k m := by
            refine ⟨_, rfl, ?_⟩
            by_cases c : fJ - 1 - m > 0
            . rw [if_pos c]; exact MH.yw m1 (by omega) (by omega) w2 ua fun j h1 h2 _ => m3' j h1 h2
            . rw [if_neg c, show m = fJ - 1 by omega]; exact w2
           obtain ⟨p6, Eo, w3⟩ := Kd
           try dsimp only
           rcases Nat.eq_zero_or_pos (fJ - 1 - m) with z2 | c2
           rotate_left
           rw [if_pos c2] at Eo ⊢
           rw [<- Eo]
           by_cases e4 : m = 1
           . rw [if_pos (by simpa using e4)]
             exact wpS_pure ⟨s4, .inl ⟨_, rfl, ig e4 (by omega) (by omega) ua h0 w3⟩⟩
           rw [if_neg (by simpa using e4)]
           by_cases e5 : m = 0
           . rw [if_pos (by simpa using e5)]
             exact wpS_pure ⟨s4, .inl ⟨_, rfl, JB e5 (by omega) w3⟩⟩
           rw [if_neg (by simpa using e5)]
           rotate_left
           rw [if_neg (by omega)] at Eo ⊢
           rw [<- Eo]
           have hz2 : m = fJ - 1 := by omega
           rw [<- hz2]
           all_goals
            have j2 : 2 <= m := by omega
            refine wpS_bind (aV (by omega) ?_)
            have w4 := MH.oU j1 (by omega) (by omega) w3 ub (fun _ => m2' _ (by omega))
            try dsimp only
            by_cases e6 : k - 1 = 0
            . rw [if_pos (by simpa using e6)]
              exact wpS_pure ⟨s4, .inl ⟨_, rfl, pI e6 (by omega) w4⟩⟩
            rw [if_neg (by simpa using e6)]
            have sS : MJ K a b (p6.push (it a (k - 1))) (k - 1) m := ⟨by omega, j2, by omega, by omega, w4⟩
            split
            . exact wpS_pure ⟨s4, .inr ⟨_, _, _, _, _, _, rfl, sS, by omega⟩⟩
            . exact wpS_pure ⟨s4, _, _, _, _, _, _, rfl, sS, by omega⟩
       . rintro c st3 ⟨s3, iy, fJ, out, mg, ac, bc, rfl, mi, hp'⟩
         exact ⟨s3, .inr ⟨_, _, _, _, _, _, rfl, mi, hp'⟩⟩
       . rintro c st3 ⟨s3, ⟨out, hc, hf⟩ | ⟨iy, fJ, out, mg, ac, bc, rfl, mi, hp'⟩⟩
         . obtain ⟨c1, c2, c3, c4, c5, c6, c7⟩ := c
           cases hc
           exact wpS_pure ⟨s3, out, rfl, hf⟩
         . try dsimp only
           exact wpS_bind (lB fun Bj Kc => wpS_pure ⟨s3.trans Kc, _, _, _, _, rfl, mi, by omega⟩)
 . rintro c st1 ⟨s1, na, nb, out, mg, rfl, mi, hp⟩
   have := mi.i1
   have := mi.i2
   omega
 . rintro c st1 ⟨s1, out, hc, hf⟩
   obtain ⟨c1, c2, c3, c4, c5⟩ := c
   cases hc
   exact wpS_pure (q _ _ hf s1)
end
end HH
end
section
namespace HH
open PySem PyProof.Rows
section
variable {K : Keyed -> Int}
noncomputable def Seg (K : Keyed -> Int) (xs : Array Keyed) (lo hi : Nat) : Prop := ∀ i j, lo <= i -> i <= j -> j < hi -> K (it xs i) <= K (it xs j)
theorem vO {l : Bool} {k : Keyed} {a : Array Keyed} {b n : Nat} (h : Seg K a b (b + n)) : Dp K l k a b n := fun i j hij hj c => by
 have := h (b + i) (b + j) (by omega) (by omega) (by omega)
 unfold bb at *
 cases l with
 | true => simp only [if_true, decide_eq_true_eq] at *; omega
 | false => simp only [Bool.false_eq_true, if_false, Bool.not_eq_true', decide_eq_false_iff_not] at *; omega
theorem fM {xs : Array Keyed} {i : Nat} : it xs i = xs.toList.getD i (Value.none, Value.none) := by
 unfold it
 by_cases h : i < xs.size
 . simp [Array.getD, h]
 . simp [Array.getD, h]
theorem jP {a : Array Keyed} {i n j : Nat} (h : n <= a.size) (hj : j < n - i) : it (a.extract i n) j = it a (i + j) := by
 have : j < (a.extract i n).size := by simp; omega
 have e : (a.extract i n)[j]? = a[i + j]? := by rw [Array.getElem?_extract, if_pos (by omega)]
 have e1 := pQ this
 have e2 := pQ (show i + j < a.size by omega)
 rw [e, e2] at e1
 injection e1 with e1
 exact e1.symm
theorem pg {a : Array Keyed} {i n : Nat} (h : n <= a.size) (hs : Seg K a i n) : qd K (a.extract i n) := fun u v huv hv => by
 have hsz : (a.extract i n).size = n - i := by simp; omega
 rw [hsz] at hv
 rw [jP h (by omega), jP h hv]
 exact hs _ _ (by omega) (by omega) (by omega)
theorem qD : ∀ (m : List Keyed) (arr : Array Keyed) (o k : Nat), o + k + m.length <= arr.size ->
 ((m.zipIdx k).foldl (fun a x => match x with | (p, j) => a.setIfInBounds (o + j) p) arr).toList = arr.toList.take (o + k) ++ (m ++ arr.toList.drop (o + k + m.length))
 | [], arr, o, k, h => by simp
 | x :: m, arr, o, k, h => by
   have hl : o + k < arr.size := by simp at h; omega
   rw [List.zipIdx_cons, List.foldl_cons]
   have ih := qD m (arr.setIfInBounds (o + k) x) o (k + 1) (by simp at h ⊢; omega)
   rw [ih, Array.toList_setIfInBounds]
   have e1 : (arr.toList.set (o + k) x).take (o + (k + 1)) = arr.toList.take (o + k) ++ [x] := by
    rw [<- Nat.add_assoc, List.take_succ_eq_append_getElem (by simpa using hl), List.take_set_of_le (Nat.le_refl _)]
    simp
   have e2 : (arr.toList.set (o + k) x).drop (o + (k + 1) + m.length) = arr.toList.drop (o + k + (x :: m).length) := by
    rw [List.drop_set_of_lt (by omega)]
    congr 1
    simp; omega
   rw [e1, e2]
   simp
theorem Fin.mem {a b out : Array Keyed} {z : Keyed} (f : Fin K a b out) (h : z ∈ out.toList) : z ∈ a.toList \/ z ∈ b.toList := List.mem_append.mp (f.perm.mem_iff.mp h)
theorem rT {xs : Array Keyed} {P Q S : List Keyed} {lo hi : Nat} (e : xs.toList = P ++ (Q ++ S)) (hl : P.length = lo) (hh : P.length + Q.length = hi) (h : SL K Q) : Seg K xs lo hi := fun i j h1 h2 h3 => by
 rw [fM, fM, e]
 have gi : ∀ n, lo <= n -> n < hi -> (P ++ (Q ++ S)).getD n (Value.none, Value.none) = Q.getD (n - lo) (Value.none, Value.none) := fun n n1 n2 => by
  rw [List.getD_eq_getElem?_getD, List.getD_eq_getElem?_getD, List.getElem?_append_right (by omega), List.getElem?_append_left (by omega), hl]
 rw [gi i h1 (by omega), gi j (by omega) h3]
 by_cases hij : i = j
 . rw [hij]; exact Int.le_refl _
 . have := List.pairwise_iff_getElem.mp h (i - lo) (j - lo) (by omega) (by omega) (by omega)
   simpa [List.getD_eq_getElem?_getD, show i - lo < Q.length by omega, show j - lo < Q.length by omega] using this
end
section
variable {M : Model} {A : Around} {E : Value -> Shared -> Prop} {s : Shared} {κ : SortKind} {ok : Keyed -> Prop} {K : Keyed -> Int}
theorem three {a : Array Keyed} {i n : Nat} (hi : i <= n) (h : n <= a.size) : a.toList = a.toList.take i ++ ((a.extract i n).toList ++ a.toList.drop n) := by
 rw [<- List.append_assoc, <- fL hi h, List.take_append_drop]
theorem Ak {a : Array Keyed} {i n : Nat} (h : n <= a.size) (hs : Seg K a i n) : SL K (a.extract i n).toList := mD (pg h hs)
structure Ml (K : Keyed -> Int) (xs ys : Array Keyed) (lo hi : Nat) : Prop where
 perm : ys.toList.Perm xs.toList
 pre : ys.toList.take lo = xs.toList.take lo
 post : ys.toList.drop hi = xs.toList.drop hi
 seg : Seg K ys lo hi
theorem qG {xs : Array Keyed} {lo hi : Nat} (h : Seg K xs lo hi) : Ml K xs xs lo hi := ⟨.refl _, rfl, rfl, h⟩
theorem IW {xs ys : Array Keyed} {lo u v hi : Nat} {m : List Keyed} (h1 : lo <= u) (h2 : u <= v) (h3 : v <= hi) (h4 : hi <= xs.size) (hy : ys.toList = xs.toList.take u ++ (m ++ xs.toList.drop v)) (hp : m.Perm (xs.extract u v).toList)
 (hs : SL K ((xs.extract lo u).toList ++ (m ++ (xs.extract v hi).toList))) : Ml K xs ys lo hi := by
 have WM : m.length = v - u := by rw [hp.length_eq]; simp; omega
 have el : xs.toList.take u = xs.toList.take lo ++ (xs.extract lo u).toList := fL h1 (by omega)
 have er : xs.toList.drop v = (xs.extract v hi).toList ++ xs.toList.drop hi := by
  have := iR (a := xs) (i := v) (k := hi - v) (by omega)
  rwa [show v + (hi - v) = hi by omega] at this
 have e : ys.toList = xs.toList.take lo ++ (((xs.extract lo u).toList ++ (m ++ (xs.extract v hi).toList)) ++ xs.toList.drop hi) := by
  rw [hy, el, er]; simp
 have hlo : (xs.toList.take lo).length = lo := by simp; omega
 have hmid : ((xs.extract lo u).toList ++ (m ++ (xs.extract v hi).toList)).length = hi - lo := by simp [WM]; omega
 refine ⟨?_, ?_, ?_, rT e hlo (by omega) hs⟩
 . have t := three h2 (show v <= xs.size by omega)
   rw [hy]
   refine List.Perm.trans (List.Perm.append_left _ (List.Perm.append_right _ hp)) (.of_eq t.symm)
 . rw [e, List.take_append_of_le_length (by omega), List.take_of_length_le (by omega)]
 . rw [e, <- List.append_assoc, List.drop_append, List.drop_eq_nil_of_le (by simp only [List.length_append] at *; omega)]
   simp only [List.nil_append, List.length_append] at *
   rw [show hi - ((xs.toList.take lo).length + ((xs.extract lo u).toList.length + (m.length + (xs.extract v hi).toList.length))) = 0 by omega]; rfl
end
end HH
end
section
namespace HH
open PySem PyProof.Rows
section
variable {M : Model} {A : Around} {E : Value -> Shared -> Prop} {s : Shared} {κ : SortKind} {ok : Keyed -> Prop} {K : Keyed -> Int}
theorem Io {st st' : SortSt} {Q : PUnit -> SortSt -> Prop} (h : Q ⟨⟩ st') : wpS M A E s (set st' : SM PUnit) Q st := by
 unfold wpS; rw [StateT.run_set]; exact wpAny_pure ⟨rfl, h⟩
theorem iK {a : Array Keyed} {i n : Nat} {x : Keyed} (hi : i <= n) (h : n <= a.size) (hx : x ∈ (a.extract i n).toList) : ∃ j, i <= j /\ j < n /\ x = it a j := lU hi h hx
theorem HX {arr merged : Array Keyed} {sa u sb v hi : Nat} (h1 : sa <= u) (h2 : u <= sb) (h3 : sb <= v) (h4 : v <= hi) (h5 : hi <= arr.size) (hu : u < sb) (hv : sb < v) (s1 : Seg K arr sa sb) (s2 : Seg K arr sb hi) (f : Fin K (arr.extract u sb) (arr.extract sb v) merged)
 (k2 : ∀ j, sa <= j -> j < u -> K (it arr j) <= K (it arr sb)) (m3 : ∀ j, v <= j -> j < hi -> K (it arr (sb - 1)) <= K (it arr j)) : SL K ((arr.extract sa u).toList ++ (merged.toList ++ (arr.extract v hi).toList)) := by
 have Yu : ∀ z ∈ merged.toList, (∃ j, u <= j /\ j < sb /\ z = it arr j) \/ ∃ j, sb <= j /\ j < v /\ z = it arr j := fun z hz => (f.mem hz).imp (iK h2 (by omega)) (iK h3 (by omega))
 refine bQ.mpr ⟨Ak (by omega) fun i j a b c => s1 i j a b (by omega), bQ.mpr ⟨f.gZ, Ak h5 fun i j a b c => s2 i j (by omega) b c, fun z hz y hy => ?_⟩, fun x hx y hy => ?_⟩
 . obtain ⟨j, j1, j2, rfl⟩ := iK h4 h5 hy
   rcases Yu z hz with ⟨i, i1, i2, rfl⟩ | ⟨i, i1, i2, rfl⟩
   . exact Int.le_trans (s1 i (sb - 1) (by omega) (by omega) (by omega)) (m3 j j1 j2)
   . exact s2 i j (by omega) (by omega) (by omega)
 . obtain ⟨i, i1, i2, rfl⟩ := iK h1 (by omega) hx
   rcases List.mem_append.mp hy with hy | hy
   . rcases Yu y hy with ⟨j, j1, j2, rfl⟩ | ⟨j, j1, j2, rfl⟩
     . exact s1 i j (by omega) (by omega) (by omega)
     . exact Int.le_trans (k2 i i1 i2) (s2 sb j (by omega) (by omega) (by omega))
   . obtain ⟨j, j1, j2, rfl⟩ := iK h4 h5 hy
     exact Int.le_trans (k2 i i1 i2) (s2 sb j (by omega) (by omega) (by omega))
set_option maxHeartbeats 1000000 in
theorem Ja (R : Rk M A E s κ ok K) {i sa na pw sb nb Yv : Nat} {Q : Bool -> SortSt -> Prop} {st : SortSt} (hs : kindOf st = κ) (ho : ∀ x ∈ (arrOf st).toList, ok x) (hf : failedOf st = none) (hi : (pendingOf st)[i]? = some (sa, na, pw)) (hj : (pendingOf st)[i + 1]? = some (sb, nb, Yv))
 (hsb : sb = sa + na) (n1 : 1 <= na) (m1 : 1 <= nb) (hz : sb + nb <= (arrOf st).size) (s1 : Seg K (arrOf st) sa sb) (s2 : Seg K (arrOf st) sb (sb + nb))
 (q : ∀ st', kindOf st' = κ -> failedOf st' = none -> pendingOf st' = ((pendingOf st).setIfInBounds i (sa, na + nb, pw)).eraseIdxIfInBounds (i + 1) -> Ml K (arrOf st) (arrOf st') sa (sb + nb) -> Q true st') : wpS M A E s (mergeAt' i) Q st := by
 obtain ⟨kd, arr, pend, gm, fl⟩ := st
 replace hs : kd = κ := hs
 replace ho : ∀ x ∈ arr.toList, ok x := ho
 replace hf : fl = none := hf
 replace hi : pend[i]? = some (sa, na, pw) := hi
 replace hj : pend[i + 1]? = some (sb, nb, Yv) := hj
 replace hz : sb + nb <= arr.size := hz
 replace s1 : Seg K arr sa sb := s1
 replace s2 : Seg K arr sb (sb + nb) := s2
 replace q : ∀ st', kindOf st' = κ -> failedOf st' = none -> pendingOf st' = (pend.setIfInBounds i (sa, na + nb, pw)).eraseIdxIfInBounds (i + 1) -> Ml K arr (arrOf st') sa (sb + nb) -> Q true st' := q
 show wpS M A E s (get >>= _) Q _
 refine wpS_bind (wpS_get ?_)
 dsimp only
 rw [hi, hj]
 try dsimp only
 refine wpS_bind (Io ?_)
 refine wpS_bind (aV (by omega) ?_)
 refine wpS_bind (jN R (ho _ (cG (by omega))) ho (by omega) (by omega) hs (vO (by rw [<- hsb]; exact s1)) fun k k1 k2 k3 => ?_)
 have k2' : ∀ j, sa <= j -> j < sa + k -> K (it arr j) <= K (it arr sb) := fun j h1 h2 => by
  have := k2 (j - sa) (by omega); rw [show sa + (j - sa) = j by omega] at this; simp [bb] at this; omega
 try dsimp only
 by_cases c1 : na - k = 0
 . rw [if_pos (by simpa using c1)]
   refine wpS_pure (q _ hs hf rfl (qG fun u v u1 u2 u3 => ?_))
   by_cases hv : v < sb
   . exact s1 u v u1 u2 hv
   . by_cases hu : u < sb
     . exact Int.le_trans (k2' u u1 (by omega)) (s2 sb v (by omega) (by omega) u3)
     . exact s2 u v (by omega) u2 u3
 rw [if_neg (by simpa using c1)]
 rw [show sa + k + (na - k) - 1 = sb - 1 by omega]
 refine wpS_bind (aV (by show sb - 1 < arr.size; omega) ?_)
 refine wpS_bind (jN R (ho _ (cG (by omega))) ho (by omega) (by omega) hs (vO s2) fun m m1' m2 m3 => ?_)
 have m2' : ∀ j, sb <= j -> j < sb + m -> K (it arr j) < K (it arr (sb - 1)) := fun j h1 h2 => by
  have := m2 (j - sb) (by omega); rw [show sb + (j - sb) = j by omega] at this; simpa [bb] using this
 have m3' : ∀ j, sb + m <= j -> j < sb + nb -> K (it arr (sb - 1)) <= K (it arr j) := fun j h1 h2 => by
  have := m3 (j - sb) (by omega) (by omega); rw [show sb + (j - sb) = j by omega] at this; simp [bb] at this; omega
 have QS : K (it arr sb) <= K (it arr (sa + k)) := by have := k3 k (Nat.le_refl _) (by omega); simp [bb] at this; omega
 try dsimp only
 by_cases c2 : m = 0
 . rw [if_pos (by simpa using c2)]
   refine wpS_pure (q _ hs hf rfl (qG fun u v u1 u2 u3 => ?_))
   by_cases hv : v < sb
   . exact s1 u v u1 u2 hv
   . by_cases hu : u < sb
     . exact Int.le_trans (s1 u (sb - 1) u1 (by omega) (by omega)) (m3' v (by omega) u3)
     . exact s2 u v (by omega) u2 u3
 rw [if_neg (by simpa using c2)]
 have hxa : (arr.extract (sa + k) sb).size = sb - (sa + k) := by simp; omega
 have hya : (arr.extract sb (sb + m)).size = m := by simp; omega
 have ux : qd K (arr.extract (sa + k) sb) := pg (by omega) fun u v a b c => s1 u v (by omega) b c
 have uy : qd K (arr.extract sb (sb + m)) := pg (by omega) fun u v a b c => s2 u v a b (by omega)
 have ox : ∀ x ∈ (arr.extract (sa + k) sb).toList, ok x := fun x hx => by
  obtain ⟨j, j1, j2, rfl⟩ := iK (by omega) (by omega) hx
  exact ho _ (cG (by omega))
 have oy : ∀ x ∈ (arr.extract sb (sb + m)).toList, ok x := fun x hx => by
  obtain ⟨j, j1, j2, rfl⟩ := iK (by omega) (by omega) hx
  exact ho _ (cG (by omega))
 have Yw : K (it (arr.extract sb (sb + m)) 0) <= K (it (arr.extract (sa + k) sb) 0) := by
  rw [jP (by omega) (by omega), jP (by omega) (by omega)]; exact QS
 have Yx : ∀ j, j < (arr.extract sb (sb + m)).size -> K (it (arr.extract sb (sb + m)) j) <= K (it (arr.extract (sa + k) sb) ((arr.extract (sa + k) sb).size - 1)) := fun j hj => by
  rw [hya] at hj
  rw [hxa, jP (by omega) (by omega), jP (by omega) (by omega), show sa + k + (sb - (sa + k) - 1) = sb - 1 by omega]
  exact Int.le_of_lt (m2' _ (by omega) (by omega))
 have fin : ∀ (merged : Array Keyed) (st' : SortSt), Fin K (arr.extract (sa + k) sb) (arr.extract sb (sb + m)) merged ->
  m6 (SortSt.mk' kd arr ((pend.setIfInBounds i (sa, na + nb, pw)).eraseIdxIfInBounds (i + 1)) gm fl) st' ->
  wpS M A E s ((modify fun s => setArr s (List.foldl (fun a x => match x with | (p, j) => a.setIfInBounds (sa + k + j) p) (arrOf s) merged.toList.zipIdx)) >>= fun _ => get >>= fun s => pure (failedOf s).isNone) Q st' := fun merged st' f sm => by
  refine wpS_bind (wpS_modify (wpS_bind (wpS_get (wpS_pure ?_))))
  have e1 : arrOf st' = arr := sm.arr
  have e2 : failedOf st' = none := sm.fail.trans hf
  have WM : merged.toList.length = sb + m - (sa + k) := by rw [f.perm.length_eq]; simp; omega
  show Q (failedOf st').isNone _
  rw [e2]
  refine q _ (sm.kind.trans hs) e2 sm.pend ?_
  show Ml K arr (List.foldl _ (arrOf st') merged.toList.zipIdx) sa (sb + nb)
  rw [e1]
  have hy := qD merged.toList arr (sa + k) 0 (by omega)
  rw [Nat.add_zero, WM, show sa + k + (sb + m - (sa + k)) = sb + m by omega] at hy
  have he : arr.extract (sa + k) (sb + m) = arr.extract (sa + k) sb ++ arr.extract sb (sb + m) := by
   simp [Array.extract_append_extract]; congr 1 <;> omega
  refine IW (u := sa + k) (v := sb + m) (by omega) (by omega) (by omega) hz hy (f.perm.trans (.of_eq ?_)) (HX (by omega) (by omega) (by omega) (by omega) hz (by omega) (by omega) s1 s2 f k2' m3')
  rw [he, Array.toList_append]
 try dsimp only
 split
 . exact wpS_bind (G6 R ox oy hs ux uy (by omega) (by omega) Yw Yx fun merged st' f sm => fin merged st' f sm)
 . exact wpS_bind (HR R ox oy hs ux uy (by omega) (by omega) Yw Yx fun merged st' f sm => fin merged st' f sm)
end
end HH
end
section
namespace HH
open PySem PyProof.Rows
section
variable {K : Keyed -> Int}
theorem rH {xs : Array Keyed} {i : Nat} : it xs i = (xs[i]?).getD (Value.none, Value.none) := by
 unfold it
 by_cases h : i < xs.size <;> simp [Array.getD, h]
theorem iY {xs : Array Keyed} {i j : Nat} (hj : j <= xs.size) (k : Nat) : it (mirror xs i j ((j - i) / 2)) k = if i <= k /\ k < j then it xs (i + j - 1 - k) else it xs k := by
 rw [rH, getElem?_mirror_all hj]
 split <;> rw [rH]
theorem uf {xs : Array Keyed} {u d : Nat} (hs : u < xs.size) (hd : d <= u) (k : Nat) : it (bubble xs u d) k = if k = u - d then it xs u else if u - d < k /\ k <= u then it xs (k - 1) else it xs k := by
 rw [rH, getElem?_bubble hs d hd]
 by_cases h1 : k = u - d
 . rw [if_pos h1, if_pos h1, rH]
 . rw [if_neg h1, if_neg h1]
   split <;> rw [rH]
structure lz (xs ys : Array Keyed) (lo : Nat) : Prop where
 perm : ys.toList.Perm xs.toList
 pre : ∀ i, i < lo -> it ys i = it xs i
theorem lz.refl (xs : Array Keyed) (lo : Nat) : lz xs xs lo := ⟨.refl _, fun _ _ => rfl⟩
theorem lz.trans {xs ys zs : Array Keyed} {lo : Nat} (a : lz xs ys lo) (b : lz ys zs lo) : lz xs zs lo := ⟨b.perm.trans a.perm, fun i h => (b.pre i h).trans (a.pre i h)⟩
theorem lz.size {xs ys : Array Keyed} {lo : Nat} (h : lz xs ys lo) : ys.size = xs.size := by simpa using h.perm.length_eq
theorem gU {xs : Array Keyed} {lo i j : Nat} (h : lo <= i) (hj : j <= xs.size) : lz xs (mirror xs i j ((j - i) / 2)) lo :=
 ⟨Array.perm_iff_toList_perm.mp (mirror_perm ..), fun k hk => by rw [iY hj, if_neg (by omega)]⟩
theorem Bp {xs : Array Keyed} {lo u d : Nat} (hs : u < xs.size) (hd : d <= u) (h : lo <= u - d) : lz xs (bubble xs u d) lo :=
 ⟨Array.perm_iff_toList_perm.mp (bubble_perm ..), fun k hk => by rw [uf hs hd, if_neg (by omega), if_neg (by omega)]⟩
noncomputable def DG (K : Keyed -> Int) (xs : Array Keyed) (lo hi : Nat) : Prop := ∀ i j, lo <= i -> i <= j -> j < hi -> K (it xs j) <= K (it xs i)
end
section
variable {M : Model} {A : Around} {E : Value -> Shared -> Prop} {s : Shared} {κ : SortKind} {ok : Keyed -> Prop} {K : Keyed -> Int}
structure Sx (κ : SortKind) (ok : Keyed -> Prop) (st : SortSt) (xs : Array Keyed) (st' : SortSt) : Prop where
 kind : kindOf st' = κ
 arr : arrOf st' = xs
 pend : pendingOf st' = pendingOf st
 fail : failedOf st' = none
 ok : ∀ x ∈ xs.toList, ok x
theorem Sx.set {st st' : SortSt} {xs ys : Array Keyed} {lo : Nat} (h : Sx κ ok st xs st') (c : lz xs ys lo) : Sx κ ok st ys (setArr st' ys) := ⟨h.kind, rfl, h.pend, h.fail, fun x hx => h.ok x (c.perm.mem_iff.mp hx)⟩
theorem jj (R : Rk M A E s κ ok K) {st st' : SortSt} {xs : Array Keyed} {i j : Nat} {Q : Option Bool -> SortSt -> Prop} (h : Sx κ ok st xs st') (hi : i < xs.size) (hj : j < xs.size) (q : Q (some (decide (K (it xs i) < K (it xs j)))) st') : wpS M A E s (ltAt' i j) Q st' := by
 rw [ltAt'_eq]
 refine wpS_bind (wpS_get ?_)
 show wpS M A E s (elem' (arrOf st') i >>= fun x => elem' (arrOf st') j >>= fun y => lt' x y) Q st'
 rw [h.arr]
 exact wpS_bind (aV hi (wpS_bind (aV hj (R.lt (h.ok _ (cG hi)) (h.ok _ (cG hj)) h.kind q))))
theorem lW {st st' : SortSt} {xs : Array Keyed} {lo i j : Nat} {Q : Unit -> SortSt -> Prop} (h : Sx κ ok st xs st') (hl : lo <= i) (hj : j <= xs.size) (q : ∀ st2, Sx κ ok st (mirror xs i j ((j - i) / 2)) st2 -> Q () st2) : wpS M A E s (reverseSlice' i j) Q st' := by
 rw [reverseSlice'_eq]
 refine wpS_modify ?_
 rw [h.arr]
 exact q _ (h.set (gU hl hj))
theorem tX (R : Rk M A E s κ ok K) {st st' : SortSt} {xs : Array Keyed} {lo a n : Nat} {Q : Option (Option Nat) × Nat -> SortSt -> Prop} (h : Sx κ ok st xs st') (hn : lo + n <= xs.size) (ha : 1 <= a) (han : a <= n) (hs : Seg K xs lo (lo + a))
 (q : ∀ m, a <= m -> m <= n -> Seg K xs lo (lo + m) -> (m = n \/ K (it xs (lo + m)) < K (it xs (lo + m - 1))) -> Q (none, m) st') :
 wpS M A E s (forIn [a:n] ((none, a) : Option (Option Nat) × Nat) fun _ c => ltAt' (lo + c.2) (lo + c.2 - 1) >>= fun o => match o with
  | some b => if b = true then pure (.done (none, c.2)) else pure (.yield (none, c.2 + 1))
  | _ => pure (.done (some none, c.2))) Q st' := by
 refine wpS_forRange (I := fun x c st2 => st2 = st' /\ c = (none, x) /\ Seg K xs lo (lo + x)) ?_ ?_ ⟨rfl, rfl, hs⟩
 . rintro x c st2 h1 h2 ⟨rfl, rfl, hs'⟩
   try dsimp only
   refine wpS_bind (jj R h (by omega) (by omega) ?_)
   by_cases c : K (it xs (lo + x)) < K (it xs (lo + x - 1))
   . rw [decide_eq_true c]
     try dsimp only
     rw [if_pos rfl]
     exact wpS_pure (q x h1 (by omega) hs' (.inr c))
   . rw [decide_eq_false c]
     try dsimp only
     rw [if_neg (by simp)]
     refine wpS_pure ⟨rfl, rfl, fun i j i1 ij jx => ?_⟩
     by_cases hj : j < lo + x
     . exact hs' i j i1 ij hj
     . have : j = lo + x := by omega
       subst this
       by_cases e : i = lo + x
       . rw [e]; exact Int.le_refl _
       . have := hs' i (lo + x - 1) i1 (by omega) (by omega)
         omega
 . rintro c st2 ⟨rfl, rfl, hs'⟩
   rw [show max a n = n by omega] at hs' ⊢
   exact q n han (Nat.le_refl _) hs' (.inl rfl)
theorem Bv (R : Rk M A E s κ ok K) {st st' : SortSt} {xs : Array Keyed} {lo a n : Nat} {Q : Option (Option Nat) × Nat × Nat -> SortSt -> Prop} (h : Sx κ ok st xs st') (hn : lo + n <= xs.size) (ha : 1 <= a) (han : a <= n) (hs : DG K xs lo (lo + a))
 (q : ∀ ys st2 m e, lz xs ys lo -> Sx κ ok st ys st2 -> a <= m -> m <= n -> DG K ys lo (lo + m) -> e + 1 <= m -> (∀ i, lo + m - (e + 1) <= i -> i < lo + m -> K (it ys i) = K (it ys (lo + m - 1))) -> Q (none, m, e) st2) :
 wpS M A E s (forIn [a:n] ((none, a, 0) : Option (Option Nat) × Nat × Nat) fun _ c => ltAt' (lo + c.2.1) (lo + c.2.1 - 1) >>= fun o => match o with
  | some b => if b = true then
   (if c.2.2 > 0 then reverseSlice' (lo + c.2.1 - (c.2.2 + 1)) (lo + c.2.1) >>= fun _ => pure (.yield (none, c.2.1 + 1, 0)) else pure (.yield (none, c.2.1 + 1, 0)))
   else ltAt' (lo + c.2.1 - 1) (lo + c.2.1) >>= fun o => match o with
    | some b => if b = true then pure (.done (none, c.2.1, c.2.2)) else pure (.yield (none, c.2.1 + 1, c.2.2 + 1))
    | _ => pure (.done (some none, c.2.1, c.2.2))
  | _ => pure (.done (some none, c.2.1, c.2.2))) Q st' := by
 refine wpS_forRange (I := fun x c st2 => ∃ ys e, c = (none, x, e) /\ lz xs ys lo /\ Sx κ ok st ys st2 /\ DG K ys lo (lo + x) /\ e + 1 <= x /\ ∀ i, lo + x - (e + 1) <= i -> i < lo + x -> K (it ys i) = K (it ys (lo + x - 1))) ?_ ?_
  ⟨xs, 0, rfl, .refl _ _, h, hs, by omega, fun i h1 h2 => by rw [show i = lo + a - 1 by omega]⟩
 . rintro x c st2 h1 h2 ⟨ys, e, rfl, hc, hx, hd, he, hq⟩
   have hsz := hc.size
   try dsimp only
   refine wpS_bind (jj R hx (by omega) (by omega) ?_)
   by_cases c : K (it ys (lo + x)) < K (it ys (lo + x - 1))
   . rw [decide_eq_true c]
     try dsimp only
     rw [if_pos rfl]
     have more : ∀ zs : Array Keyed, (∀ i, K (it zs i) = K (it ys i)) -> DG K zs lo (lo + (x + 1)) := fun zs hz i j i1 ij jx => by
      rw [hz, hz]
      by_cases hj : j < lo + x
      . exact hd i j i1 ij hj
      . have : j = lo + x := by omega
        subst this
        by_cases e : i = lo + x
        . rw [e]; exact Int.le_refl _
        . have := hd i (lo + x - 1) i1 (by omega) (by omega)
          omega
     by_cases c2 : e > 0
     . rw [if_pos c2]
       refine wpS_bind (lW (lo := lo) hx (by omega) (by omega) fun st3 h3 => wpS_pure ⟨_, 0, rfl, hc.trans (gU (by omega) (by omega)), h3, more _ fun i => ?_, by omega, fun i h1 h2 => by rw [show i = lo + (x + 1) - 1 by omega]⟩)
       rw [iY (by omega)]
       split
       . rw [hq _ (by omega) (by omega), hq i (by omega) (by omega)]
       . rfl
     . rw [if_neg c2]
       exact wpS_pure ⟨ys, 0, rfl, hc, hx, more ys fun _ => rfl, by omega, fun i h1 h2 => by rw [show i = lo + (x + 1) - 1 by omega]⟩
   . rw [decide_eq_false c]
     try dsimp only
     rw [if_neg (by simp)]
     refine wpS_bind (jj R hx (by omega) (by omega) ?_)
     by_cases c2 : K (it ys (lo + x - 1)) < K (it ys (lo + x))
     . rw [decide_eq_true c2]
       try dsimp only
       rw [if_pos rfl]
       exact wpS_pure (q ys st2 x e hc hx h1 (by omega) hd he hq)
     . rw [decide_eq_false c2]
       try dsimp only
       rw [if_neg (by simp)]
       have Yy : K (it ys (lo + x)) = K (it ys (lo + x - 1)) := by omega
       refine wpS_pure ⟨ys, e + 1, rfl, hc, hx, fun i j i1 ij jx => ?_, by omega, fun i i1 i2 => ?_⟩
       . by_cases hj : j < lo + x
         . exact hd i j i1 ij hj
         . have : j = lo + x := by omega
           subst this
           by_cases e : i = lo + x
           . rw [e]; exact Int.le_refl _
           . rw [Yy]; exact hd i (lo + x - 1) i1 (by omega) (by omega)
       . rw [show lo + (x + 1) - 1 = lo + x by omega]
         by_cases e' : i = lo + x
         . rw [e']
         . rw [Yy]; exact hq i (by omega) (by omega)
 . rintro c st2 ⟨ys, e, rfl, hc, hx, hd, he, hq⟩
   rw [show max a n = n by omega] at *
   exact q ys st2 n e hc hx han (Nat.le_refl _) hd he hq
end
end HH
end
section
namespace HH
open PySem PyProof.Rows
section
variable {M : Model} {A : Around} {E : Value -> Shared -> Prop} {s : Shared} {κ : SortKind} {ok : Keyed -> Prop} {K : Keyed -> Int}
theorem zU {xs : Array Keyed} {lo n : Nat} (hn : lo + n <= xs.size) (h : DG K xs lo (lo + n)) : Seg K (mirror xs lo (lo + n) ((lo + n - lo) / 2)) lo (lo + n) := fun i j i1 ij jn => by
 rw [iY hn, iY hn, if_pos (by omega), if_pos (by omega)]
 exact h _ _ (by omega) (by omega) (by omega)
theorem Af (R : Rk M A E s κ ok K) {st st' : SortSt} {xs : Array Keyed} {lo n : Nat} {Q : Option Nat -> SortSt -> Prop} (h : Sx κ ok st xs st') (hn : lo + n <= xs.size) (h1 : 1 <= n)
 (q : ∀ ys st2 m, lz xs ys lo -> Sx κ ok st ys st2 -> 1 <= m -> m <= n -> Seg K ys lo (lo + m) -> Q (some m) st2) : wpS M A E s (countRun' lo n) Q st' := by
 have one : ∀ ys : Array Keyed, Seg K ys lo (lo + 1) := fun ys i j i1 ij jn => by rw [show i = j by omega]; exact Int.le_refl _
 show wpS M A E s (_ >>= _) Q st'
 refine wpS_bind (tX (a := 1) (n := n) R h hn (Nat.le_refl 1) h1 (one xs) fun m m1 m2 sm hor => ?_)
 dsimp only
 by_cases c1 : m = n
 . rw [if_pos (by simpa using c1)]
   exact wpS_pure (q xs st' m (.refl _ _) h m1 m2 sm)
 rw [if_neg (by simpa using c1)]
 have hlt := hor.resolve_left c1
 by_cases c2 : m > 1
 rw [if_pos c2]
 refine wpS_bind (jj R h (by omega) (by omega) ?_)
 by_cases c3 : K (it xs lo) < K (it xs (lo + m - 1))
 . rw [decide_eq_true c3]
   try dsimp only
   rw [if_pos rfl]
   exact wpS_pure (q xs st' m (.refl _ _) h m1 m2 sm)
 rw [decide_eq_false c3]
 try dsimp only
 rw [if_neg (by simp)]
 have hall : ∀ k, lo <= k -> k < lo + m -> K (it xs k) = K (it xs (lo + m - 1)) := fun k k1 k2 => by
  have a1 := sm lo k (Nat.le_refl _) k1 k2
  have a2 := sm k (lo + m - 1) k1 (by omega) (by omega)
  omega
 refine wpS_bind (lW (lo := lo) h (Nat.le_refl _) (by omega) fun st2 h2 => ?_)
 have hc : lz xs (mirror xs lo (lo + m) ((lo + m - lo) / 2)) lo := gU (Nat.le_refl _) (by omega)
 have hd : DG K (mirror xs lo (lo + m) ((lo + m - lo) / 2)) lo (lo + (m + 1)) := fun i j i1 ij jn => by
  have e : ∀ k, lo <= k -> k < lo + m -> K (it (mirror xs lo (lo + m) ((lo + m - lo) / 2)) k) = K (it xs (lo + m - 1)) := fun k k1 k2 => by
   rw [iY (by omega), if_pos (by omega)]; exact hall _ (by omega) (by omega)
  by_cases hj : j < lo + m
  . rw [e i i1 (by omega), e j (by omega) hj]; exact Int.le_refl _
  . have : j = lo + m := by omega
    subst this
    by_cases e' : i = lo + m
    . rw [e']; exact Int.le_refl _
    . rw [e i i1 (by omega), iY (by omega), if_neg (by omega)]; omega
 generalize mirror xs lo (lo + m) ((lo + m - lo) / 2) = ys at h2 hc hd
 rotate_left
 rw [if_neg c2]
 have hd0 : DG K xs lo (lo + (m + 1)) := fun i j i1 ij jn => by
  by_cases e : i = j
  . rw [e]; exact Int.le_refl _
  . have e1 : i = lo := by omega
    have e2 : j = lo + m := by omega
    rw [e1, e2]
    rw [show lo + m - 1 = lo by omega] at hlt
    omega
 obtain ⟨ys, hc, h2, hd⟩ : ∃ ys, lz xs ys lo /\ Sx κ ok st ys st' /\ DG K ys lo (lo + (m + 1)) := ⟨xs, .refl _ _, h, hd0⟩
 all_goals
  have hsz := hc.size
  refine wpS_bind (wp_rule ?_)
  refine wpS_bind (Bv (a := m + 1) R h2 (by omega) (by omega) (by omega) hd fun zs st3 p e S5 Yz p1 p2 YB he hq => ?_)
  have hsz2 := S5.size
  dsimp only
  by_cases ce : e > 0
  . rw [if_pos ce]
    refine wpS_bind (lW (lo := lo) Yz (by omega) (by omega) fun Bj h4 => ?_)
    have hc4 : lz xs (mirror zs (lo + p - (e + 1)) (lo + p) ((lo + p - (lo + p - (e + 1))) / 2)) lo := hc.trans (S5.trans (gU (by omega) (by omega)))
    have YC : DG K (mirror zs (lo + p - (e + 1)) (lo + p) ((lo + p - (lo + p - (e + 1))) / 2)) lo (lo + p) := fun i j i1 ij jn => by
     have ez : ∀ k, K (it (mirror zs (lo + p - (e + 1)) (lo + p) ((lo + p - (lo + p - (e + 1))) / 2)) k) = K (it zs k) := fun k => by
      rw [iY (by omega)]
      split
      . rw [hq _ (by omega) (by omega), hq k (by omega) (by omega)]
      . rfl
     rw [ez, ez]
     exact YB i j i1 ij jn
    generalize mirror zs (lo + p - (e + 1)) (lo + p) ((lo + p - (lo + p - (e + 1))) / 2) = us at h4 hc4 YC
    have hs4 := hc4.size
    have hc5 : lz us (mirror us lo (lo + p) ((lo + p - lo) / 2)) lo := gU (Nat.le_refl _) (by omega)
    refine wpS_bind (lW (lo := lo) h4 (Nat.le_refl _) (by omega) fun Ej h5 => ?_)
    refine wpS_bind (tX R h5 (by rw [hc5.size]; omega) (by omega) p2 (zU (by omega) YC) fun u u1 u2 su _ => ?_)
    exact wpS_pure (q _ Ej u (hc4.trans hc5) h5 (by omega) u2 su)
  . rw [if_neg ce]
    have hs4 := (hc.trans S5).size
    have hc5 : lz zs (mirror zs lo (lo + p) ((lo + p - lo) / 2)) lo := gU (Nat.le_refl _) (by omega)
    refine wpS_bind (lW (lo := lo) Yz (Nat.le_refl _) (by omega) fun Ej h5 => ?_)
    refine wpS_bind (tX R h5 (by rw [hc5.size]; omega) (by omega) p2 (zU (by omega) YB) fun u u1 u2 su _ => ?_)
    exact wpS_pure (q _ Ej u ((hc.trans S5).trans hc5) h5 (by omega) u2 su)
theorem Jz (R : Rk M A E s κ ok K) {st st' : SortSt} {xs : Array Keyed} {lo n o : Nat} {Q : Bool -> SortSt -> Prop} (h : Sx κ ok st xs st') (hn : lo + n <= xs.size) (ho : o <= n) (hs : Seg K xs lo (lo + o))
 (q : ∀ ys st2, lz xs ys lo -> Sx κ ok st ys st2 -> Seg K ys lo (lo + n) -> Q true st2) : wpS M A E s (binarySort' lo n o) Q st' := by
 show wpS M A E s (_ >>= _) Q st'
 refine wpS_bind (wpS_mono (wpS_forRange (I := fun k c st2 => ∃ ys, c = (none, ()) /\ lz xs ys lo /\ Sx κ ok st ys st2 /\ Seg K ys lo (lo + min k n)) (Q := fun c st2 => ∃ ys, c = (none, ()) /\ lz xs ys lo /\ Sx κ ok st ys st2 /\ Seg K ys lo (lo + n)) ?_ ?_ ?_) ?_)
 . rintro k c st2 k1 k2 ⟨ys, rfl, hc, hx, sg⟩
   rw [show min k n = k by omega] at sg
   have hsz := hc.size
   refine wpS_bind (wpS_mono (wpS_forRange (I := fun x c st3 => st3 = st2 /\ ∃ l r, c = (none, l, r) /\ l <= r /\ r <= k /\ r - l <= k - x /\ (∀ i, lo <= i -> i < lo + l -> K (it ys i) <= K (it ys (lo + k))) /\ ∀ i, lo + r <= i -> i < lo + k -> K (it ys (lo + k)) < K (it ys i))
    (Q := fun c st3 => st3 = st2 /\ ∃ l r, c = (none, l, r) /\ l <= k /\ (∀ i, lo <= i -> i < lo + l -> K (it ys i) <= K (it ys (lo + k))) /\ ∀ i, lo + l <= i -> i < lo + k -> K (it ys (lo + k)) < K (it ys i)) ?_ ?_ ⟨rfl, 0, k, rfl, by omega, by omega, by omega, fun i a b => by omega, fun i a b => by omega⟩) ?_)
   . rintro x c st3 _ xk ⟨rfl, l, r, rfl, a1, a2, a3, a4, a5⟩
     dsimp only
     by_cases e : l ≥ r
     . rw [if_pos e]
       have : l = r := by omega
       subst this
       exact wpS_pure ⟨rfl, l, l, rfl, a2, a4, a5⟩
     . rw [if_neg e]
       refine wpS_bind (jj R hx (by omega) (by omega) ?_)
       by_cases c : K (it ys (lo + k)) < K (it ys (lo + (l + r) / 2))
       . rw [decide_eq_true c]
         dsimp only
         rw [if_pos rfl]
         exact wpS_pure ⟨rfl, _, _, rfl, by omega, by omega, by omega, a4, fun i i1 i2 => Int.lt_of_lt_of_le c (sg _ _ (by omega) i1 i2)⟩
       . rw [decide_eq_false c]
         dsimp only
         rw [if_neg (by simp)]
         exact wpS_pure ⟨rfl, _, _, rfl, by omega, a2, by omega, fun i i1 i2 => Int.le_trans (sg i (lo + (l + r) / 2) i1 (by omega) (by omega)) (Int.not_lt.mp c), a5⟩
   . rintro c st3 ⟨rfl, l, r, rfl, a1, a2, a3, a4, a5⟩
     have : l = r := by omega
     subst this
     exact ⟨rfl, l, l, rfl, a2, a4, a5⟩
   . rintro c st3 ⟨rfl, l, r, rfl, a2, a4, a5⟩
     show wpS M A E s (moveDown' (lo + k) (lo + l) >>= fun _ => pure (ForInStep.yield (none, ()))) _ _
     rw [moveDown'_eq]
     refine wpS_bind (wpS_modify (wpS_pure ?_))
     rw [hx.arr]
     have hb : lz ys (bubble ys (lo + k) (lo + k - (lo + l))) lo := Bp (by omega) (by omega) (by omega)
     refine ⟨_, rfl, hc.trans hb, hx.set hb, fun i j i1 ij jn => ?_⟩
     rw [show min (k + 1) n = k + 1 by omega] at jn
     rw [uf (by omega) (by omega), uf (by omega) (by omega), show lo + k - (lo + k - (lo + l)) = lo + l by omega]
     repeat' split
     all_goals first
      | (exfalso; omega)
      | exact Int.le_refl _
      | exact a4 _ (by omega) (by omega)
      | exact Int.le_of_lt (a5 _ (by omega) (by omega))
      | exact sg _ _ (by omega) (by omega) (by omega)
 . rintro c st2 ⟨ys, hc0, hc, hx, sg⟩
   rw [show min (max (max o 1) n) n = n by omega] at sg
   exact ⟨ys, hc0, hc, hx, sg⟩
 . refine ⟨xs, rfl, .refl _ _, h, fun i j i1 ij jn => ?_⟩
   by_cases e : i = j
   . rw [e]; exact Int.le_refl _
   . exact hs i j i1 ij (by omega)
 . rintro c st2 ⟨ys, rfl, hc, hx, sg⟩
   exact wpS_pure (q ys st2 hc hx sg)
end
end HH
end
section
namespace HH
open PySem PyProof.Rows
noncomputable abbrev Rn := Nat × Nat × Nat
section
variable {K : Keyed -> Int} {xs ys : Array Keyed}
noncomputable def wI (K : Keyed -> Int) (xs : Array Keyed) : Nat -> List Rn -> Nat -> Prop
 | a, [], b => a = b
 | a, r :: l, b => r.1 = a /\ 1 <= r.2.1 /\ Seg K xs a (a + r.2.1) /\ wI K xs (a + r.2.1) l b
theorem eO : ∀ {l k : List Rn} {a b : Nat}, wI K xs a (l ++ k) b ↔ ∃ m, wI K xs a l m /\ wI K xs m k b
 | [], k, a, b => ⟨fun h => ⟨a, rfl, h⟩, fun ⟨m, h1, h2⟩ => by cases (show a = m from h1); exact h2⟩
 | r :: l, k, a, b => by
   rw [List.cons_append]
   constructor
   . rintro ⟨h1, h2, h3, h4⟩
     obtain ⟨m, h5, h6⟩ := eO.mp h4
     exact ⟨m, ⟨h1, h2, h3, h5⟩, h6⟩
   . rintro ⟨m, ⟨h1, h2, h3, h4⟩, h5⟩
     exact ⟨h1, h2, h3, eO.mpr ⟨m, h4, h5⟩⟩
theorem mj : ∀ {l : List Rn} {a b : Nat}, wI K xs a l b -> a + l.length <= b
 | [], a, b, h => by cases (show a = b from h); simp
 | r :: l, a, b, ⟨_, h2, _, h4⟩ => by have := mj h4; simp only [List.length_cons]; omega
theorem qK {lo hi : Nat} (h : ∀ i, lo <= i -> i < hi -> it ys i = it xs i) (s : Seg K xs lo hi) : Seg K ys lo hi := fun i j i1 ij jn => by
 rw [h i i1 (by omega), h j (by omega) jn]; exact s i j i1 ij jn
theorem ji : ∀ {l : List Rn} {a b : Nat}, (∀ i, a <= i -> i < b -> it ys i = it xs i) -> wI K xs a l b -> wI K ys a l b
 | [], _, _, _, h => h
 | r :: l, a, b, e, ⟨h1, h2, h3, h4⟩ => by
   have := mj h4
   exact ⟨h1, h2, qK (fun i i1 i2 => e i i1 (by omega)) h3, ji (fun i i1 i2 => e i (by omega) i2) h4⟩
theorem DP {r r' : Rn} {a b : Nat} (h1 : r'.1 = r.1) (h2 : r'.2.1 = r.2.1) {l : List Rn} (h : wI K xs a (l ++ [r]) b) : wI K xs a (l ++ [r']) b := by
 obtain ⟨m, g1, g2, g3, g4, g5⟩ := eO.mp h
 exact eO.mpr ⟨m, g1, h1.trans g2, by omega, by rw [h2]; exact g4, by rw [h2]; exact g5⟩
theorem Ck {lo : Nat} (h : ys.toList.take lo = xs.toList.take lo) (i : Nat) (hi : i < lo) : it ys i = it xs i := by
 rw [fM, fM, List.getD_eq_getElem?_getD, List.getD_eq_getElem?_getD]
 have e := congrArg (fun l => l[i]?) h
 simp only [List.getElem?_take, hi, if_true] at e
 rw [e]
theorem vA {hi : Nat} (h : ys.toList.drop hi = xs.toList.drop hi) (i : Nat) (h1 : hi <= i) : it ys i = it xs i := by
 rw [fM, fM, List.getD_eq_getElem?_getD, List.getD_eq_getElem?_getD]
 have e := congrArg (fun l => l[i - hi]?) h
 simp only [List.getElem?_drop, show hi + (i - hi) = i by omega] at e
 rw [e]
theorem Bl {l1 l2 : List Rn} {a b : Nat} {r1 r2 : Rn} {p : Nat} (h : wI K xs a (l1 ++ r1 :: r2 :: l2) b) (g : Ml K xs ys r1.1 (r2.1 + r2.2.1)) : wI K ys a (l1 ++ (r1.1, r1.2.1 + r2.2.1, p) :: l2) b := by
 obtain ⟨m, g1, g2, g3, g4, g5, g6, g7, g8⟩ := eO.mp h
 subst g2
 have e := mj g8
 refine eO.mpr ⟨r1.1, ji (fun i i1 i2 => Ck g.pre i i2) g1, rfl, by show 1 <= r1.2.1 + r2.2.1; omega, ?_, ?_⟩
 . show Seg K ys r1.1 (r1.1 + (r1.2.1 + r2.2.1))
   have := g.seg
   rw [g5] at this
   rwa [<- Nat.add_assoc]
 . show wI K ys (r1.1 + (r1.2.1 + r2.2.1)) l2 b
   rw [<- Nat.add_assoc]
   exact ji (fun i i1 i2 => vA g.post i (by rw [g5]; exact i1)) g8
theorem yo {l : List Rn} {i : Nat} (h : i + 1 < l.length) : ∃ l1 r1 r2 l2, l = l1 ++ r1 :: r2 :: l2 /\ l1.length = i := by
 refine ⟨l.take i, l[i], l[i + 1], l.drop (i + 2), ?_, by simp; omega⟩
 rw [<- List.drop_eq_getElem_cons (by omega), <- List.drop_eq_getElem_cons (by omega), List.take_append_drop]
theorem mF : ∀ {l : List Rn}, l ≠ [] -> ∃ k r, l = k ++ [r]
 | [], h => absurd rfl h
 | [r], _ => ⟨[], r, rfl⟩
 | r :: x :: l, _ => by
   obtain ⟨k, q, e⟩ := mF (l := x :: l) (by simp)
   exact ⟨r :: k, q, by rw [e]; rfl⟩
theorem vf (x r1 r2 : Rn) (l2 : List Rn) : ∀ l1 : List Rn, ((l1 ++ r1 :: r2 :: l2).set l1.length x).eraseIdx (l1.length + 1) = l1 ++ x :: l2
 | [] => rfl
 | r :: l1 => by
   show r :: ((l1 ++ r1 :: r2 :: l2).set l1.length x).eraseIdx (l1.length + 1) = r :: (l1 ++ x :: l2)
   rw [vf x r1 r2 l2 l1]
end
section
variable {M : Model} {A : Around} {E : Value -> Shared -> Prop} {s : Shared} {κ : SortKind} {ok : Keyed -> Prop} {K : Keyed -> Int}
structure SR (κ : SortKind) (ok : Keyed -> Prop) (K : Keyed -> Int) (x0 ys : Array Keyed) (l : List Rn) (lo : Nat) (st : SortSt) : Prop where
 kind : kindOf st = κ
 arr : arrOf st = ys
 fail : failedOf st = none
 pend : (pendingOf st).toList = l
 perm : ys.toList.Perm x0.toList
 ok : ∀ x ∈ ys.toList, ok x
 Mw : wI K ys 0 l lo
 le : lo <= ys.size
theorem SR.sx {x0 ys : Array Keyed} {l : List Rn} {lo : Nat} {st : SortSt} (h : SR κ ok K x0 ys l lo st) : Sx κ ok st ys st := ⟨h.kind, h.arr, rfl, h.fail, h.ok⟩
theorem uY (R : Rk M A E s κ ok K) {x0 ys : Array Keyed} {l : List Rn} {lo i : Nat} {st : SortSt} {Q : Bool -> SortSt -> Prop} (h : SR κ ok K x0 ys l lo st) (hi : i + 1 < l.length)
 (q : ∀ zs k st2, SR κ ok K x0 zs k lo st2 -> k.length + 1 = l.length -> (∀ j, lo <= j -> it zs j = it ys j) -> Q true st2) : wpS M A E s (mergeAt' i) Q st := by
 obtain ⟨l1, r1, r2, l2, e, hl⟩ := yo hi
 have hr := h.Mw
 rw [e] at hr
 obtain ⟨m, g1, g2, g3, g4, g5, g6, g7, g8⟩ := eO.mp hr
 have hle := mj g8
 have hz := h.le
 have hp := h.pend
 have ei : (pendingOf st)[i]? = some (r1.1, r1.2.1, r1.2.2) := by rw [<- Array.getElem?_toList, hp, e, <- hl]; simp
 have ej : (pendingOf st)[i + 1]? = some (r2.1, r2.2.1, r2.2.2) := by rw [<- Array.getElem?_toList, hp, e, <- hl]; simp
 refine Ja R h.kind (by rw [h.arr]; exact h.ok) h.fail ei ej (by omega) g3 g6 (by rw [h.arr]; omega) (by rw [h.arr, g2, g5]; exact g4) (by rw [h.arr, g5]; exact g7) fun st2 a1 a2 a3 a4 => ?_
 rw [h.arr] at a4
 have hr2 := Bl (p := r1.2.2) hr a4
 refine q (arrOf st2) (l1 ++ (r1.1, r1.2.1 + r2.2.1, r1.2.2) :: l2) st2 ⟨a1, rfl, a2, ?_, a4.perm.trans h.perm, fun x hx => h.ok x (a4.perm.mem_iff.mp hx), hr2, ?_⟩ (by rw [e]; simp only [List.length_append, List.length_cons]; omega) fun j hj => vA a4.post j (by omega)
 . rw [a3]
   rw [Array.toList_eraseIdxIfInBounds, Array.toList_setIfInBounds, hp, e, <- hl]
   exact vf _ _ _ _ _
 . have := a4.perm.length_eq
   simp only [Array.length_toList] at this
   omega
end
end HH
end
section
namespace HH
open PySem PyProof.Rows
section
variable {M : Model} {A : Around} {E : Value -> Shared -> Prop} {s : Shared} {κ : SortKind} {ok : Keyed -> Prop} {K : Keyed -> Int}
theorem SR.move {x0 ys zs : Array Keyed} {l : List Rn} {lo : Nat} {st st2 : SortSt} (h : SR κ ok K x0 ys l lo st) (c : lz ys zs lo) (x : Sx κ ok st zs st2) : SR κ ok K x0 zs l lo st2 :=
 ⟨x.kind, x.arr, x.fail, by rw [x.pend]; exact h.pend, c.perm.trans h.perm, x.ok, ji (fun i _ i2 => c.pre i i2) h.Mw, by rw [c.size]; exact h.le⟩
theorem qw {r : Rn} {f : Rn -> Rn} : ∀ k : List Rn, (k ++ [r]).modify (k.length + 1 - 1) f = k ++ [f r]
 | [] => rfl
 | x :: k => by
   show x :: (k ++ [r]).modify k.length f = x :: (k ++ [f r])
   rw [<- qw k]; rfl
theorem lG {p : Array Rn} {k : List Rn} {r : Rn} {f : Rn -> Rn} (h : p.toList = k ++ [r]) : (p.modify (p.size - 1) f).toList = k ++ [f r] := by
 have hz : p.size = k.length + 1 := by rw [<- Array.length_toList, h]; simp
 rw [Array.toList_modify, h, hz]
 exact qw k
theorem SR.push {x0 ys : Array Keyed} {l : List Rn} {lo n : Nat} {st : SortSt} (h : SR κ ok K x0 ys l lo st) (h1 : 1 <= n) (h2 : lo + n <= ys.size) (hs : Seg K ys lo (lo + n)) : SR κ ok K x0 ys (l ++ [(lo, n, 0)]) (lo + n) (setPending st ((pendingOf st).push (lo, n, 0))) :=
 ⟨h.kind, h.arr, h.fail, by show ((pendingOf st).push (lo, n, 0)).toList = _; rw [Array.toList_push, h.pend], h.perm, h.ok, eO.mpr ⟨lo, h.Mw, rfl, h1, hs, rfl⟩, h2⟩
theorem SR.pow {x0 ys : Array Keyed} {l : List Rn} {lo pw : Nat} {st : SortSt} (h : SR κ ok K x0 ys l lo st) (hl : l ≠ []) : ∃ k, k ≠ [] /\ SR κ ok K x0 ys k lo (setPending st ((pendingOf st).modify ((pendingOf st).size - 1) fun (a, b, _) => (a, b, pw))) := by
 obtain ⟨k, r, e⟩ := mF hl
 have hr := h.Mw
 have hp := h.pend
 rw [e] at hr hp
 exact ⟨k ++ [(r.1, r.2.1, pw)], by simp, h.kind, h.arr, h.fail, lG hp, h.perm, h.ok, DP (r := r) (r' := (r.1, r.2.1, pw)) rfl rfl hr, h.le⟩
theorem HD {p : Prop} [Decidable p] {a n : Nat} (h : a + 1 < n) : (if p then a - 1 else a) + 1 < n := by split <;> omega
theorem Cr (R : Rk M A E s κ ok K) {x0 : Array Keyed} {Q : Unit -> SortSt -> Prop} {st : SortSt} (h : SR κ ok K x0 x0 [] 0 st)
 (q : ∀ ys st', arrOf st' = ys -> failedOf st' = none -> ys.toList.Perm x0.toList -> Seg K ys 0 ys.size -> Q () st') : wpS M A E s sortRuns' Q st := by
 rw [sortRuns'_eq]
 refine wpS_bind (wpS_get ?_)
 dsimp only
 simp only [h.arr]
 have big : ∀ {ys l lo st}, SR κ ok K x0 ys l lo st -> ys.size = x0.size := fun h => by simpa using h.perm.length_eq
 generalize minRun' x0.size x0.size 0 = mr
 refine wpS_bind (wpS_mono (wpS_forRange (I := fun x c st' => ∃ ys l lo, c = (none, lo) /\ SR κ ok K x0 ys l lo st' /\ x <= lo) (Q := fun c st' => ∃ ys l, c = (none, x0.size) /\ SR κ ok K x0 ys l x0.size st') ?_ ?_ ⟨x0, [], 0, rfl, h, Nat.le_refl _⟩) ?_)
 . rintro x c st1 _ hx ⟨ys, l, lo, rfl, hS, hlo⟩
   have hz := big hS
   have hle := hS.le
   dsimp only
   by_cases c1 : lo ≥ x0.size
   . rw [if_pos c1]
     have : lo = x0.size := by omega
     subst this
     exact wpS_pure ⟨ys, l, rfl, hS⟩
   rw [if_neg c1]
   refine wpS_bind (Af R hS.sx (lo := lo) (n := x0.size - lo) (by omega) (by omega) fun ys1 st2 m ch hx1 m1 m2 sg => ?_)
   have hS1 := hS.move ch hx1
   have hz1 := big hS1
   dsimp only
   by_cases c2 : m < mr
   case' pos =>
    rw [if_pos c2]
    refine wpS_bind (wpS_lift (wpAny_rule ⟨rfl, ?_⟩))
    refine wpS_bind (Jz R hx1 (lo := lo) (n := min (x0.size - lo) mr) (by omega) (by omega) sg fun Gq st3 ch2 hx2 WN => ?_)
    simp only [Bool.not_true, Bool.false_eq_true, if_false]
    replace hS1 := hS.move (ch.trans ch2) hx2
    replace hz1 := big hS1
    replace m1 : 1 <= min (x0.size - lo) mr := by omega
    replace m2 : min (x0.size - lo) mr <= x0.size - lo := by omega
    generalize min (x0.size - lo) mr = n at *
   case' neg =>
    rw [if_neg c2]
    clear ch
    obtain ⟨Gq, hys⟩ : ∃ Gq, Gq = ys1 := ⟨_, rfl⟩
    obtain ⟨st3, hst⟩ : ∃ st3, st3 = st2 := ⟨_, rfl⟩
    obtain ⟨n, hn⟩ : ∃ n, n = m := ⟨_, rfl⟩
    subst hys hst hn
    have WN := sg
   all_goals
    refine wpS_bind (wpS_get ?_)
    cases hb : (pendingOf st3).back? with
    | none =>
      dsimp only
      exact wpS_bind (wpS_modify (wpS_pure ⟨Gq, _, lo + n, rfl, hS1.push m1 (by omega) WN, by omega⟩))
    | some r =>
      obtain ⟨s1, n1, p1⟩ := r
      dsimp only
      have hne : l ≠ [] := by
       rintro rfl
       have : pendingOf st3 = #[] := Array.toList_inj.mp hS1.pend
       rw [this] at hb
       exact nomatch hb
      generalize power' x0.size (2 * s1 + n1) (2 * s1 + n1 + n1 + n) x0.size = pw
      refine wpS_bind (wpS_mono (wpS_forRange (I := fun _ c st' => ∃ ys k, c = (none, ()) /\ k ≠ [] /\ SR κ ok K x0 ys k lo st' /\ ∀ j, lo <= j -> it ys j = it Gq j) (Q := fun c st' => ∃ ys k, c = (none, ()) /\ k ≠ [] /\ SR κ ok K x0 ys k lo st' /\ ∀ j, lo <= j -> it ys j = it Gq j) ?_ (fun _ _ h => h) ⟨Gq, l, rfl, hne, hS1, fun _ _ => rfl⟩) ?_)
      . rintro y c Bj _ _ ⟨WQ, k, rfl, hk, Mx, sm⟩
        refine wpS_bind (wpS_get ?_)
        try dsimp only
        have stop : ∃ ys k, ((none, ()) : Option Unit × Unit) = (none, ()) /\ k ≠ [] /\ SR κ ok K x0 ys k lo Bj /\ ∀ j, lo <= j -> it ys j = it Gq j := ⟨WQ, k, rfl, hk, Mx, sm⟩
        split
        . rename_i older ho
          split
          . exact wpS_pure stop
          . have hp1 : (pendingOf Bj).size > 1 := by
             by_cases hh : (pendingOf Bj).size > 1
             . exact hh
             . rw [if_neg hh] at ho; exact nomatch ho
            have hkl : k.length = (pendingOf Bj).size := by rw [<- Mx.pend]; simp
            refine wpS_bind (uY R Mx (by omega) fun zs k2 Ej WR hk2 sm5 => ?_)
            simp only [Bool.not_true, Bool.false_eq_true, if_false]
            exact wpS_pure ⟨zs, k2, rfl, by rintro rfl; simp at hk2; omega, WR, fun j hj => (sm5 j hj).trans (sm j hj)⟩
        . exact wpS_pure stop
      . rintro c Bj ⟨WQ, k, rfl, hk, Mx, sm⟩
        dsimp only
        obtain ⟨k2, _, hS4⟩ := Mx.pow (pw := pw) hk
        refine wpS_bind (wpS_modify ?_)
        have hz3 := big Mx
        exact wpS_bind (wpS_modify (wpS_pure ⟨WQ, _, lo + n, rfl, hS4.push m1 (by omega) (qK (fun i i1 _ => sm i i1) WN), by omega⟩))
 . rintro c st1 ⟨ys, l, lo, rfl, hS, hlo⟩
   have := hS.le
   have := big hS
   have : lo = x0.size := by omega
   subst this
   exact ⟨ys, l, rfl, hS⟩
 . rintro c st1 ⟨ys, l, rfl, hS⟩
   dsimp only
   have hl := mj hS.Mw
   refine wpS_bind (wpS_mono (wpS_forRange (I := fun x c st' => ∃ ys l, c = (none, ()) /\ SR κ ok K x0 ys l x0.size st' /\ l.length <= max 1 (x0.size - x)) (Q := fun c st' => ∃ ys l, c = (none, ()) /\ SR κ ok K x0 ys l x0.size st' /\ l.length <= 1) ?_ ?_ ⟨ys, l, rfl, hS, by omega⟩) ?_)
   . rintro x c st2 _ hx ⟨zs, k, rfl, hZ, hk⟩
     refine wpS_bind (wpS_get ?_)
     try dsimp only
     have hkl : k.length = (pendingOf st2).size := by rw [<- hZ.pend]; simp
     by_cases c1 : (pendingOf st2).size <= 1
     . rw [if_pos c1]
       exact wpS_pure ⟨zs, k, rfl, hZ, by omega⟩
     rw [if_neg c1]
     refine wpS_bind (uY R hZ (HD (by omega)) fun zs2 k2 Ej WR hk2 _ => ?_)
     simp only [Bool.not_true, Bool.false_eq_true, if_false]
     exact wpS_pure ⟨zs2, k2, rfl, WR, by omega⟩
   . rintro c st2 ⟨zs, k, rfl, hZ, hk⟩
     exact ⟨zs, k, rfl, hZ, by omega⟩
   . rintro c st2 ⟨zs, k, rfl, hZ, hk⟩
     dsimp only
     have hz := big hZ
     refine wpS_pure (q zs st2 hZ.arr hZ.fail hZ.perm ?_)
     match k, hk, hZ.Mw with
     | [], _, e =>
       have e : 0 = x0.size := e
       intro i j _ _ _
       omega
     | [r], _, ⟨_, _, g, e⟩ =>
       have e : 0 + r.2.1 = x0.size := e
       rw [e] at g
       rwa [hz]
end
end HH
end
section
namespace HH
open PySem PySem.W PyProof.Rows PySem.Calls L2 PySem.Spec
theorem xj {α β : Type} {f : α -> β} {l' m : List β} (h : l'.Perm m) : ∀ {l : List α}, m = l.map f -> ∃ k : List α, k.Perm l /\ k.map f = l' := by
 induction h with
 | nil =>
   intro l e
   cases l with
   | nil => exact ⟨[], .refl _, rfl⟩
   | cons _ _ => cases e
 | cons x h ih =>
   intro l e
   cases l with
   | nil => cases e
   | cons a l =>
     obtain ⟨e1, e2⟩ := List.cons.inj e
     obtain ⟨k, h1, h2⟩ := ih e2
     exact ⟨a :: k, h1.cons a, by rw [List.map_cons, h2, e1]⟩
 | swap x y l0 =>
   intro l e
   match l, e with
   | a :: b :: l, e =>
     obtain ⟨e1, e2⟩ := List.cons.inj e
     obtain ⟨e3, e4⟩ := List.cons.inj e2
     exact ⟨b :: a :: l, .swap .., by rw [List.map_cons, List.map_cons, e1, e3, e4]⟩
 | trans h1 h2 ih1 ih2 =>
   intro l e
   obtain ⟨k, p1, e1⟩ := ih2 e
   obtain ⟨k2, p2, e2⟩ := ih1 e1.symm
   exact ⟨k2, p2.trans p1, e2⟩
theorem Ef (a : List Int) : aP a a = false := by
 cases h : aP a a with
 | false => rfl
 | true => rw [jl _ _ h] at h; cases h
theorem yK {a b x : List Int} (h : aP b a = false) (hx : aP x a = true) : aP x b = true := by
 cases e : aP x b with
 | true => rfl
 | false => rw [tY _ _ _ h e] at hx; cases hx
theorem nM {α : Type} {p q : α -> Bool} (h : ∀ x, p x = true -> q x = true) : ∀ {l : List α}, (∃ x, x ∈ l /\ q x = true /\ p x = false) -> l.countP p < l.countP q
 | [], ⟨x, hx, _⟩ => by cases hx
 | y :: l, ⟨x, hx, h1, h2⟩ => by
   rw [List.countP_cons, List.countP_cons]
   have m := List.countP_mono_left (l := l) (p := p) (q := q) fun x _ => h x
   rcases List.mem_cons.mp hx with rfl | hx
   . rw [h1, h2, if_pos rfl, if_neg (by simp)]; omega
   . have := nM h ⟨x, hx, h1, h2⟩
     cases hp : p y with
     | true => rw [h y hp]; omega
     | false => rw [if_neg (by simp)]; omega
noncomputable def HN (ds : List D) (d : D) : Nat := ds.countP fun e => aP (bz e) (bz d)
theorem yO {ds : List D} {d e : D} (hd : d ∈ ds) : decide ((HN ds d : Int) < HN ds e) = aP (bz d) (bz e) := by
 cases h : aP (bz d) (bz e) with
 | true =>
   have := nM (l := ds) (p := fun x => aP (bz x) (bz d)) (q := fun x => aP (bz x) (bz e)) (fun x hx => yK (jl _ _ h) hx) ⟨d, hd, h, Ef _⟩
   rw [decide_eq_true_iff]; unfold HN; omega
 | false =>
   have := List.countP_mono_left (l := ds) (p := fun x => aP (bz x) (bz e)) (q := fun x => aP (bz x) (bz d)) fun x _ hx => yK h hx
   rw [decide_eq_false_iff_not]; unfold HN; omega
open Classical in
noncomputable def Vh (P : Value -> D -> Prop) (ds : List D) (x : Keyed) : Int := if h : ∃ d, d ∈ ds /\ P x.1 d then (HN ds h.choose : Int) else 0
theorem vQ {P : Value -> D -> Prop} {ds : List D} {x : Keyed} {d : D} (fn : ∀ u d e, P u d -> P u e -> bz d = bz e) (hd : d ∈ ds) (hp : P x.1 d) : Vh P ds x = HN ds d := by
 have h : ∃ d, d ∈ ds /\ P x.1 d := ⟨d, hd, hp⟩
 unfold Vh
 rw [dif_pos h]
 unfold HN
 rw [fn _ _ _ h.choose_spec.2 hp]
noncomputable def pick {α : Type} (d : α) (p : List Nat) (l : List α) : List α := p.map fun i => l.getD i d
theorem mR {α : Type} (d : α) (l : List α) : pick d (List.range l.length) l = l := by
 refine List.ext_getElem (by simp [pick]) fun i h1 h2 => ?_
 simp [pick, h2]
theorem jB {α : Type} {d : α} {p : List Nat} {l : List α} {n : Nat} (h : p.Perm (List.range n)) : (pick d p l).length = n := by
 rw [pick, List.length_map, h.length_eq, List.length_range]
theorem il {P : Value -> D -> Prop} : ∀ {us : List Value} {ds : List D}, Paired P us ds -> ∀ i, i < us.length -> P (us.getD i .none) (ds.getD i .non) /\ ds.getD i .non ∈ ds
 | _, _, .cons r _, 0, _ => ⟨by simpa using r, by simp⟩
 | _, _, .cons _ t, i + 1, hi => by
   have := il t i (by simpa using hi)
   exact ⟨by simpa using this.1, by simpa using Or.inr this.2⟩
section
variable {prog : Program} {w : World} {A : Around} {E : Value -> Shared -> Prop} {s : Shared} {vs : List Value} {κ : SortKind} {P : Value -> D -> Prop} {ds : List D}
theorem nF {a : Addr} {n : Nat} {O : PySem.Fin -> Shared -> Prop} (ho : s.heap.get? a = some (seqObj "list" vs.toArray n)) (so : sortable ds = true) (hz : vs.length <= 16777216) (pr : Paired P vs ds) (fn : ∀ u d e, P u d -> P u e -> bz d = bz e)
 (hk : ∀ h', (∀ b o, b ≠ a -> s.heap.get? b = some o -> h'.get? b = some o) -> ∀ C : SortKind -> Shared -> Prop, C κ { s with heap := h' } -> 2 <= vs.length -> wpAny (model prog w) A (keyKind' vs.toArray) C (fun _ _ => False) { s with heap := h' })
 (hl : ∀ h', (∀ b o, b ≠ a -> s.heap.get? b = some o -> h'.get? b = some o) -> ∀ u v d e, P u d -> P v e -> ∀ C : Bool -> Shared -> Prop, C (aP (bz d) (bz e)) { s with heap := h' } -> wpAny (model prog w) A (keyLt' κ u v) C (fun _ _ => False) { s with heap := h' })
 (h : ∀ h' c p, (∀ b o, b ≠ a -> s.heap.get? b = some o -> h'.get? b = some o) -> p.Perm (List.range vs.length) -> pick .non p ds = gZ ds -> h'.get? a = some (seqObj "list" (pick .none p vs).toArray c) -> O (.done (.ret .none)) { s with heap := h' }) :
 wpAny (model prog w) A (Builtin.«list.sort» ⟨[.ref a], []⟩) O E s := by
 have ha : a < s.heap.objs.size := Heap.lt_size ho
 have WT : vs.length = ds.length := Paired.length pr
 obtain ⟨e1, ho1⟩ : ∃ e1, (s.heap.update a (Obj.mapSeq fun _ => (#[] : Array Value))).get? a = some (seqObj "list" #[] e1) := ⟨_, get?_update_seq ho fun _ => #[]⟩
 rw [list_sort_plain]
 refine wpAny_bind (listItems_at ho rfl ?_)
 refine wpAny_bind (listUpdate_at ho rfl ?_ (by rw [List.size_toArray, sizeLine_eq]; omega) (Nat.zero_le _))
 refine wpAny_bind (seqEpoch_at ho1 rfl ?_)
 refine wpAny_bind (wpAny_newTuple ?_ (by show vs.length <= _; rw [sizeLine_eq]; omega))
 refine wpAny_bind (wpAny_newList ?_ (Nat.zero_le _))
 refine wpAny_holding ?_
 generalize hH : (((s.heap.update a (Obj.mapSeq fun _ => (#[] : Array Value))).push { cls := .type "tuple", data := .seq vs.toArray }).push { cls := .type "list", data := .seq #[] } : Heap) = H1
 have QT : H1.get? a = some (seqObj "list" #[] e1) := by rw [<- hH]; exact Heap.get?_push_of_some _ (Heap.get?_push_of_some _ ho1)
 have keep : ∀ b o, b ≠ a -> s.heap.get? b = some o -> H1.get? b = some o := fun b o hb e => by
  rw [<- hH]
  exact Heap.get?_push_of_some _ (Heap.get?_push_of_some _ ((Heap.get?_update_other _ _ (Ne.symm hb)).trans e))
 have fin : ∀ p : List Nat, p.Perm (List.range vs.length) -> pick .non p ds = gZ ds -> O (.done (.ret .none)) { s with heap := H1.update a (Obj.mapSeq fun _ => List.toArray (pick .none p vs)) } := by
  intro p h1 h2
  obtain ⟨c2, hc2⟩ : ∃ c2, (H1.update a (Obj.mapSeq fun _ => List.toArray (pick Value.none p vs))).get? a = some (seqObj "list" (pick Value.none p vs).toArray c2) := ⟨_, get?_update_seq QT fun _ => List.toArray (pick Value.none p vs)⟩
  exact h _ c2 p (fun b o hb e => (Heap.get?_update_other _ _ (Ne.symm hb)).trans (keep b o hb e)) h1 h2 hc2
 show wpAny (model prog w) A _ O E { s with heap := H1 }
 dsimp only
 by_cases h2 : vs.toArray.size < 2
 . rw [if_pos h2, if_pos h2]
   refine wpAny_bind (wpAny_pure ?_)
   rw [StateT.run_pure]
   refine wpAny_bind (wpAny_pure ?_)
   dsimp only
   have eo : (arrOf (SortSt.mk' general' (vs.toArray.zip vs.toArray) #[] 7 none)).map (·.2) = List.toArray (pick Value.none (List.range vs.length) vs) := by
    rw [mR]
    apply Array.toList_inj.mp
    show ((vs.toArray.zip vs.toArray).map (·.2)).toList = vs
    simp [List.map_snd_zip]
   rw [eo]
   refine wpAny_bind (seqEpoch_at QT rfl ?_)
   refine wpAny_bind (listUpdate_at QT rfl ?_ (Nat.zero_le _) (by rw [List.size_toArray, jB (.refl _), sizeLine_eq]; omega))
   simp only [bne_self_eq_false, Bool.false_eq_true, if_false]
   refine wpAny_pure (fin _ (.refl _) ?_)
   rw [WT, mR]
   refine mH so (.refl _) ?_
   match ds, (show ds.length < 2 by simp at h2; omega) with
   | [], _ => exact .nil
   | [_], _ => exact List.pairwise_singleton ..
   | _ :: _ :: _, h2 => simp at h2; omega
 . rw [if_neg h2, if_neg h2]
   have h2' : 2 <= vs.length := by simpa using h2
   refine wpAny_bind (hk H1 keep _ ?_ h2' |> fun q => wpAny_mono q (fun _ _ x => x) fun _ _ x => x.elim)
   have YD : (vs.toArray.zip vs.toArray).toList = (List.range vs.length).map fun i => (vs.getD i Value.none, vs.getD i Value.none) := by
    refine List.ext_getElem (by simp) fun i h1 h2 => ?_
    have : i < vs.length := by simpa using h2
    simp [this]
   have okk : ∀ x ∈ (vs.toArray.zip vs.toArray).toList, ∃ d, d ∈ ds /\ P x.1 d := fun x hx => by
    rw [YD] at hx
    obtain ⟨i, hi, rfl⟩ := List.mem_map.mp hx
    have := il pr i (List.mem_range.mp hi)
    exact ⟨_, this.2, this.1⟩
   have R : Rk (model prog w) A E { s with heap := H1 } κ (fun x => ∃ d, d ∈ ds /\ P x.1 d) (Vh P ds) := ⟨by
    rintro x y Q st ⟨d, d1, d2⟩ ⟨e, e1, e2⟩ hkd hq
    rw [vQ fn d1 d2, vQ fn e1 e2, yO d1] at hq
    rw [lt'_eq]
    refine wpS_bind (wpS_get ?_)
    rw [hkd]
    refine wpS_bind (wpS_lift (wpAny_attempt (wpAny_mono (hl H1 keep x.1 y.1 d e d2 e2 (fun b s' => s' = { s with heap := H1 } /\ b = aP (bz d) (bz e)) ⟨rfl, rfl⟩) ?_ fun _ _ h => h.elim)))
    rintro b s' ⟨rfl, rfl⟩
    exact ⟨rfl, wpS_pure hq⟩⟩
   have run := Cr R (x0 := vs.toArray.zip vs.toArray) (st := SortSt.mk' κ (vs.toArray.zip vs.toArray) #[] 7 none) (Q := fun _ st' => ∃ p : List Nat, p.Perm (List.range vs.length) /\ pick .non p ds = gZ ds /\ (arrOf st').map (·.2) = (pick Value.none p vs).toArray /\ failedOf st' = none)
    ⟨rfl, rfl, rfl, rfl, .refl _, okk, rfl, Nat.zero_le _⟩ fun ys st' e1 e2 e3 e4 => by
     rw [YD] at e3
     obtain ⟨p, p1, p2⟩ := xj e3 rfl
     have hpl : p.length = vs.length := by rw [p1.length_eq, List.length_range]
     have hys : ys.size = vs.length := by rw [<- Array.length_toList, <- p2, List.length_map, hpl]
     refine ⟨p, p1, mH so ?_ ?_, ?_, e2⟩
     . have := p1.map fun i => ds.getD i .non
       rw [WT] at this
       exact this.trans (.of_eq (mR D.non ds))
     . rw [List.pairwise_iff_getElem]
       intro i j hi hj hij
       simp only [pick, List.length_map] at hi hj
       have sg := e4 i j (Nat.zero_le _) (by omega) (by omega)
       have at' : ∀ k (hk : k < p.length), it ys k = (vs.getD p[k] .none, vs.getD p[k] .none) := fun k hk => by
        rw [fM, <- p2]
        simp [hk]
       have inn : ∀ k (hk : k < p.length), p[k] < vs.length := fun k hk => List.mem_range.mp (p1.mem_iff.mp (List.getElem_mem hk))
       rw [at' i hi, at' j hj] at sg
       have a1 := il pr p[i] (inn i hi)
       have a2 := il pr p[j] (inn j hj)
       rw [vQ fn a1.2 a1.1, vQ fn a2.2 a2.1] at sg
       simp only [pick, List.getElem_map, gq, Bool.not_eq_true']
       rw [<- yO a2.2, decide_eq_false_iff_not]
       omega
     . apply Array.toList_inj.mp
       rw [e1, Array.toList_map, <- p2, List.map_map]
       rfl
   refine wpAny_bind (wpAny_mono run ?_ fun _ _ e => e)
   rintro ⟨⟨⟩, st'⟩ s' ⟨rfl, p, p1, p2, hout, hf⟩
   dsimp only
   rw [hout]
   refine wpAny_bind (seqEpoch_at QT rfl ?_)
   refine wpAny_bind (listUpdate_at QT rfl ?_ (Nat.zero_le _) (by rw [List.size_toArray, jB p1, sizeLine_eq]; omega))
   rw [hf]
   simp only [bne_self_eq_false, Bool.false_eq_true, if_false]
   exact wpAny_pure (fin _ p1 p2)
end
end HH
end
section
namespace HH
open PySem L2 PySem.Spec PyProof.Rows PySem.Calls PySem.W
section
variable {prog : Program} {w : World} {A : Around} {E : Value -> Shared -> Prop} {s : Shared} {vs : List Value} {κ : SortKind} {P : Value -> D -> Prop} {ds : List D}
theorem jZ {l : Addr} {Q : Value -> Shared -> Prop} (hl : s.heap.IsList l vs.toArray) (so : sortable ds = true) (hz : vs.length <= 16777216) (pr : Paired P vs ds) (fn : ∀ u d e, P u d -> P u e -> bz d = bz e)
 (hk : ∀ h', (∀ b o, s.heap.get? b = some o -> h'.get? b = some o) -> ∀ C : SortKind -> Shared -> Prop, C κ { s with heap := h' } -> 2 <= vs.length -> wpAny (model prog w) A.in1.in1 (keyKind' vs.toArray) C (fun _ _ => False) { s with heap := h' })
 (hlt : ∀ h', (∀ b o, s.heap.get? b = some o -> h'.get? b = some o) -> ∀ u v d e, P u d -> P v e -> ∀ C : Bool -> Shared -> Prop, C (aP (bz d) (bz e)) { s with heap := h' } -> wpAny (model prog w) A.in1.in1 (keyLt' κ u v) C (fun _ _ => False) { s with heap := h' })
 (h : ∀ h' c p, (∀ b o, s.heap.get? b = some o -> h'.get? b = some o) -> p.Perm (List.range vs.length) -> pick .non p ds = gZ ds -> h'.get? (s.heap.objs.size + 1) = some (seqObj "list" (pick .none p vs).toArray c) -> Q (.ref (s.heap.objs.size + 1)) { s with heap := h' }) :
 wpAny (model prog w) A (call (.builtin "sorted") [.ref l]) Q E s := by
 refine Calls.call_function_entry kind_sorted plain_sorted entry_sorted (args_sorted1 _) ?_
 unfold Builtin.«sorted»
 refine wpAny_bind (m := checkCount "sorted" 1 1 _) (wpAny_pure ?_)
 refine wpAny_bind (collect_list hl ?_ (by rw [sizeLine_eq]; omega))
 refine wpAny_bind (wpAny_newList ?_ (by rw [sizeLine_eq]; omega))
 generalize hH : ((s.heap.push (seqObj "list" #[] 0)).update s.heap.objs.size (Obj.mapSeq (· ++ vs.toArray)) : Heap) = H1
 have hsz : H1.objs.size = s.heap.objs.size + 1 := by rw [<- hH, Heap.size_update, size_push']
 have keep : ∀ b o, s.heap.get? b = some o -> H1.get? b = some o := fun b o q => by
  rw [<- hH, Heap.get?_update_ne _ _ _ _ (Nat.ne_of_lt (Heap.lt_size q))]
  exact Heap.get?_push_of_some _ q
 generalize hG : (H1.push { cls := .type "list", data := .seq vs.toArray } : Heap) = H2
 have ho : H2.get? (s.heap.objs.size + 1) = some (seqObj "list" vs.toArray 0) := by rw [<- hG, <- hsz]; exact Heap.get?_push_size _ rfl
 have mZ : ∀ b o, s.heap.get? b = some o -> H2.get? b = some o := fun b o q => by rw [<- hG]; exact Heap.get?_push_of_some _ (keep b o q)
 have hne : ∀ b o, s.heap.get? b = some o -> b ≠ s.heap.objs.size + 1 := fun b o q => Nat.ne_of_lt (Nat.lt_succ_of_lt (Heap.lt_size q))
 show wpAny _ _ _ _ _ { s with heap := H2 }
 rw [hsz]
 refine wpAny_bind (wpAny_holding (wpAny_call_entry slot_list_sort ⟨_, ho, rfl⟩ entry_list_sort ?body (args_list_sort _)))
 case body =>
  refine nF (s := { s with heap := H2 }) (κ := κ) ho so hz pr fn (fun h' k' C hC h2 => hk h' (fun b o q => k' b o (hne b o q) (mZ b o q)) C hC h2)
   (fun h' k' u v d e hd he C hC => hlt h' (fun b o q => k' b o (hne b o q) (mZ b o q)) u v d e hd he C hC) fun h' c p k' p1 p2 e => ?_
  exact ⟨_, rfl, wpAny_pure ⟨_, rfl, h h' c p (fun b o q => k' b o (hne b o q) (mZ b o q)) p1 p2 e⟩⟩
theorem j7 {b fin : Bool} {Q : Bool -> Shared -> Prop} : ∀ {xs ys : List Value} {is js : List Int} {i : Nat}, IntsAre xs is -> IntsAre ys js -> fin = decide (is.length < js.length) -> Q (aP is js) s -> KatLex prog w A b fin Q (xs.zip ys) i s
 | _, _, _, _, _, .nil, .nil, e, h => by subst e; exact kat_nil (by simpa [aP] using h)
 | _, _, _, _, _, .nil, .cons _ _ _, e, h => by subst e; exact kat_nil (by simpa [aP] using h)
 | _, _, _, _, _, .cons _ _ _, .nil, e, h => by subst e; exact kat_nil (by simpa [aP] using h)
 | _, _, _, _, i, .cons (ns := is) x t r, .cons (ns := js) y u r', e, h => by
   refine kat_cons (wpAny_eqBool_int ?_)
   by_cases q : x = y
   . subst q
     rw [beq_self_eq_true]
     refine kat_yes (j7 r r' (by rw [e]; simp) ?_)
     simpa [aP] using h
   . rw [beq_eq_false_iff_ne.mpr q]
     refine kat_no ?_
     have hx : Q (decide (x < y)) s := by simpa [aP, q] using h
     cases (b && i == 0) with
     | true => exact oneLt_int hx
     | false => exact kat_one _ _ (wpAny_lt_int hx)
noncomputable def kJ (h : Heap) (u : Value) (d : D) : Prop := ∃ a its is, u = .ref a /\ IsTup h a (List.toArray its) /\ IntsAre its is /\ is ≠ [] /\ bz d = is
theorem fG {h h' : Heap} (k : ∀ b o, h.get? b = some o -> h'.get? b = some o) {u : Value} {d : D} (t : kJ h u d) : kJ h' u d := by
 obtain ⟨a, its, is, e, ⟨o, h1, h2⟩, h3⟩ := t
 exact ⟨a, its, is, e, ⟨o, k _ _ h1, h2⟩, h3⟩
theorem jT {h h' : Heap} (k : ∀ b o, h.get? b = some o -> h'.get? b = some o) : ∀ {us : List Value} {ds : List D}, Paired (kJ h) us ds -> Paired (kJ h') us ds
 | _, _, .nil => .nil
 | _, _, .cons r t => .cons (fG k r) (jT k t)
theorem j8 {h : Heap} : ∀ {us : List Value} {ds : List D}, Paired (kJ h) us ds -> ∃ fs, KatTups h us fs /\ fs.length = us.length /\ ∀ f ∈ fs, ∃ n t, f = Value.int n t
 | _, _, .nil => ⟨[], trivial, rfl, by simp⟩
 | _, _, .cons r t => by
   obtain ⟨fs, h1, h2, h3⟩ := j8 t
   obtain ⟨a, its, is, rfl, ⟨o, o1, o2, n, o3⟩, hi, hne, _⟩ := r
   cases hi with
   | nil => exact absurd rfl hne
   | cons x tk r' =>
     refine ⟨.int x tk :: fs, KatTups.cons o1 o2 o3 (by simp) h1, by simp [h2], fun f hf => ?_⟩
     rcases List.mem_cons.mp hf with rfl | hf
     . exact ⟨_, _, rfl⟩
     . exact h3 f hf
theorem oR {ds : List D} (t : Paired (kJ s.heap) vs ds) (h2 : 2 <= vs.length) {C : SortKind -> Shared -> Prop} (hC : C (tuples' (Value.type "int" != Value.type "tuple")) s) : wpAny (model prog w) A (keyKind' vs.toArray) C E s := by
 obtain ⟨fs, h1, h3, h4⟩ := j8 t
 refine kat_kind (T := .type "int") h1 (by omega) (fun v hv => ?_) rfl hC
 obtain ⟨n, t, rfl⟩ := h4 v hv
 exact Looks.now
theorem vZ {x y : Value} {d e : D} (hx : kJ s.heap x d) (hy : kJ s.heap y e) {b : Bool} {C : Bool -> Shared -> Prop} (hC : C (aP (bz d) (bz e)) s) : wpAny (model prog w) A (keyLt' (tuples' b) x y) C E s := by
 obtain ⟨a, its, is, rfl, ⟨o, o1, o2, n, o3⟩, hi, hne, e1⟩ := hx
 obtain ⟨a', its', js, rfl, ⟨o', p1, p2, n', p3⟩, hj, hne', e2⟩ := hy
 refine kat_lt o1 o3 p1 p3 ?_
 rw [e1, e2] at hC
 refine j7 (is := is) (js := js) (by simpa using hi) (by simpa using hj) ?_ hC
 rw [List.size_toArray, List.size_toArray, IntsAre.length hi, IntsAre.length hj]
end
theorem wK {xs : List V} {us : List Value} (h : Vals xs us) (i : Nat) : RelV (xs.getD i .non) (us.getD i .none) := by
 have hl := h.length
 by_cases hi : i < xs.length
 . obtain ⟨u, e, r⟩ := h.get (i := i) (x := xs[i]) (List.getElem?_eq_getElem hi)
   have e1 : xs.getD i .non = xs[i] := by simp [hi]
   have e2 : us.getD i .none = u := by simp [e]
   rw [e1, e2]; exact r
 . have e1 : xs.getD i .non = .non := by simp [Nat.le_of_not_lt hi]
   have e2 : us.getD i .none = .none := by simp [show us.length <= i by omega]
   rw [e1, e2]; rfl
theorem rJ {f : Nat -> V} {g : Nat -> Value} (h : ∀ i, RelV (f i) (g i)) : ∀ l : List Nat, Vals (l.map f) (l.map g)
 | [] => .nil
 | i :: l => .cons (h i) (rJ h l)
theorem rE {p : List Nat} {xs : List V} {us : List Value} (h : Vals xs us) : Vals (pick .non p xs) (pick .none p us) := rJ (wK h) _
theorem rm {K : PySem.W.Frag} {F : Hp} {f : Nat -> V} {g : Nat -> D} (h : ∀ i, Rep K F (f i) (g i)) : ∀ l : List Nat, az K F (l.map f) (l.map g)
 | [] => .nil
 | i :: l => .cons (h i) (rm h l)
theorem rZ {K : PySem.W.Frag} {F : Hp} {p : List Nat} {xs : List V} {ds : List D} (h : az K F xs ds) : az K F (pick .non p xs) (pick .non p ds) := rm (fun i => by
 have hl := h.length
 by_cases hi : i < ds.length
 . obtain ⟨u, e, r⟩ := h.get (i := i) (d := ds[i]) (List.getElem?_eq_getElem hi)
   have e1 : ds.getD i .non = ds[i] := by simp [hi]
   have e2 : xs.getD i .non = u := by simp [e]
   rw [e1, e2]; exact r
 . have e1 : ds.getD i .non = .non := by simp [Nat.le_of_not_lt hi]
   have e2 : xs.getD i .non = .non := by simp [show xs.length <= i by omega]
   rw [e1, e2, Rep]) _
noncomputable def zg (u : Value) (d : D) : Prop := ∃ n t, u = .int n t /\ bz d = [n]
theorem Dj (u : Value) (d e : D) : zg u d -> zg u e -> bz d = bz e := fun ⟨n, t, h1, h2⟩ ⟨m, t', h3, h4⟩ => by
 rw [h1] at h3
 cases h3
 rw [h2, h4]
theorem Ca {prog : Program} {w : World} {A : Around} {E : Value -> Shared -> Prop} {s : Shared} {x y : Value} {d e : D} (hx : zg x d) (hy : zg y e) {C : Bool -> Shared -> Prop} (hC : C (aP (bz d) (bz e)) s) : wpAny (model prog w) A (keyLt' oneType' x y) C E s := by
 obtain ⟨n, t, rfl, k1⟩ := hx
 obtain ⟨m, t', rfl, k2⟩ := hy
 refine kat_lt_int ?_
 rw [k1, k2, show aP [n] [m] = decide (n < m) by simp [aP]] at hC
 exact hC
theorem Fz : ∀ {us : List Value} {ns : List Int}, IntsAre us ns -> Paired zg us (ns.map D.int)
 | _, _, .nil => .nil
 | _, _, .cons n t r => .cons ⟨n, t, rfl, rfl⟩ (Fz r)
theorem zL {us : List Value} : ∀ {ns ms : List Int}, IntsAre us ns -> IntsAre us ms -> ns = ms := by
 induction us with
 | nil => intro ns ms h1 h2; cases h1; cases h2; rfl
 | cons u us ih =>
   intro ns ms h1 h2
   cases h1 with
   | cons n t r => cases h2 with
     | cons m t' r' => rw [ih r r']
theorem vR {h : Heap} (u : Value) (d e : D) : kJ h u d -> kJ h u e -> bz d = bz e := fun ⟨a, its, is, h1, ⟨o, o1, o2, n, o3⟩, h3, _, h4⟩ ⟨b, jts, js, g1, ⟨o', p1, p2, m, p3⟩, g3, _, g4⟩ => by
 rw [h1] at g1
 cases g1
 rw [o1] at p1
 cases p1
 rw [o3] at p3
 cases p3
 rw [h4, g4, zL h3 g3]
theorem all_ints : ∀ {ds : List D}, ds.all cL = true -> ds = (ds.map dX).map D.int
 | [], _ => rfl
 | d :: ds, h => by
   simp only [List.all_cons, Bool.and_eq_true] at h
   cases d <;> first | (have q := h.1; simp [cL] at q; done) | skip
   rw [List.map_cons, List.map_cons, <- all_ints h.2]; rfl
theorem intsAre_of : ∀ {ns : List Int} {us : List Value}, Vals (ns.map V.int) us -> IntsAre us ns
 | [], _, .nil => .nil
 | n :: ns, _, .cons r t => by
   obtain ⟨tk, rfl⟩ := r
   exact .cons n tk (intsAre_of t)
section
variable {X : Cx} {c : Call} {a : Expr} {pa : P} {pos : Pos}
theorem pG {pins : List (Addr × Obj)} {σ : L2.St} {F H : Hp} {s : Shared} (I : L2.Inv X pins σ H s) (sm : aK F H) : ∀ {ds : List D} {ys : List V} {us : List Value}, az X.K F ys ds -> Vals ys us -> ds.all kE = true -> Paired (kJ s.heap) us ds
 | [], ys, us, h, v, _ => by rw [h.eX] at v; cases v; exact .nil
 | d :: ds, ys, us, h, v, o => by
   obtain ⟨y, r, rfl, h1, h2⟩ := h.bY
   simp only [List.all_cons, Bool.and_eq_true] at o
   cases v with
   | cons v1 v2 =>
     refine .cons ?_ (pG I sm h2 v2 o.2)
     cases d <;> first | (have q := o.1; simp [kE] at q; done) | skip
     rename_i ds'
     cases ds' with
     | nil => exact absurd o.1 (by simp [kE])
     | cons x xs =>
       obtain ⟨ad, zs, rfl, hq, rs, _⟩ := cU.tup sm (.inl h1)
       cases v1
       obtain ⟨its, rv, it, _⟩ := I.tuple hq
       rw [all_ints o.1] at rs
       rw [dR rs] at rv
       exact ⟨ad, its, _, rfl, it, intsAre_of rv, by simp, rfl⟩
theorem zN : cV X (.builtin "sorted") (Gg X.K fun x => blt .sorted [x]) := by
 rintro pins s σ H xs us Q I r ⟨x, hx, F, d, r', sm, px, he, k⟩
 have zz := dw (show (jL d).bind (fun ds => if sortable ds then some (.own (gZ ds)) else none) = some r' from he); clear he; obtain ⟨ds, e2, he⟩ := zz
 cases d with
 | lst ds' =>
   cases e2
   obtain ⟨p, ys, rfl, hq, rs⟩ := px.lst sm
   subst hx
   obtain ⟨u, rfl, rx⟩ := r.one
   cases rx
   obtain ⟨its, rv, pl, hz⟩ := I.list hq
   by_cases so : sortable ds = true
   . rw [if_pos so] at he
     cases he
     have hl : its.length = ds.length := by rw [<- rv.length, rs.length]
     have so' := so
     simp only [sortable, Bool.and_eq_true, Bool.or_eq_true, decide_eq_true_eq] at so'
     have fin : ∀ h' c p, (∀ b o, s.heap.get? b = some o -> h'.get? b = some o) -> p.Perm (List.range its.length) -> pick .non p ds = gZ ds -> h'.get? (s.heap.objs.size + 1) = some (seqObj "list" (pick .none p its).toArray c) -> EP X pins σ Q (.ref (s.heap.objs.size + 1)) { s with heap := h' } := by
      intro h' c p kp p1 p2 e
      refine ⟨.ref (s.heap.objs.size + 1), _, I.laid (t' := s.toks) (o := .lst (pick .non p ys)) (h' := h') kp (Nat.le_succ _) ⟨by rw [jB p1, <- rv.length]; exact hz, pick .none p its, c, rE rv, e⟩, rfl, ?_⟩
      have WW : az X.K F (pick .non p ys) (gZ ds) := by rw [<- p2]; exact rZ rs
      exact tW sm WW (I.hok.fresh (Nat.le_succ _)) k
     rcases so'.2 with oi | ot
     . have rs' := rs
       rw [all_ints oi] at rs'
       have ia : IntsAre its (ds.map dX) := intsAre_of (by rw [<- dR rs']; exact rv)
       refine jZ (vs := its) (κ := oneType') pl.isList so (by omega) (by have := Fz ia; rwa [<- all_ints oi] at this) Dj (fun h' kp C hC h2 => ?_) (fun h' kp u v d e hd he C hC => ?_) fin
       . match its, ia, h2 with
         | v1 :: v2 :: rest, ia, _ =>
           rw [keyKind_ints ia]
           exact wpAny_pure hC
       . exact Ca hd he hC
     . have tt := pG I sm rs rv ot
       refine jZ (vs := its) (κ := tuples' (Value.type "int" != Value.type "tuple")) pl.isList so (by omega) tt vR (fun h' kp C hC h2 => oR (s := { s with heap := h' }) (jT kp tt) h2 hC) (fun h' kp u v d e hd he C hC => ?_) fin
       exact vZ (s := { s with heap := h' }) (fG kp hd) (fG kp he) hC
   . rw [if_neg so] at he; cases he
 | _ => cases e2
theorem boot_sorted : bootBuiltins "sorted" = some (.builtin "sorted") := by decide +kernel
theorem n8 {x : Str} {p' : Pos} (hx : x = "sorted") (hg : Gl X x) (hm : X.mg x = none) (ha : SX X c a pa) (hs : starEach [a] X.env = (false, eval a X.env) :: starEach [] X.env := by rfl) : SX X c (.Call (.Name x p') [a] [] pos) (.blt .sorted [pa]) := by
 subst hx; exact lK (fun h => dh zN hg hm boot_sorted h (he := hs)) ha (fun ρ => by rw [HH.ev]) rfl hs
end
end HH
end
section
namespace HH
open PySem L2 PySem.Spec PyProof.Rows PySem.Calls
theorem ug (l b : Addr) (items items2 : List Value) (n n2 : Nat) (dd dd2 : Option Addr) (sl sl2 : Array (Option Value)) (is js : List Int) (hi : IntsAre items is) (hj : IntsAre items2 js) :
 Meets (Builtin.«tuple.__lt__» ⟨[.ref l, .ref b], []⟩)
  (fun A R s => s.heap.get? l = some { cls := .type "tuple", dict := dd, data := .seq items.toArray n, slots := sl } /\ s.heap.get? b = some { cls := .type "tuple", dict := dd2, data := .seq items2.toArray n2, slots := sl2 } /\
   R (.ok (.ret (.bool (aP is js)))) s) :=
 .of_wp fun prog w A R s h => by
  obtain ⟨hp, g, d, tk, os⟩ := s; obtain ⟨hl, hb, h⟩ := h
  have f2 := AutoSeq1.sub_tuple_tuple
  wp_walk using wpAny_loadPart' hl, wpAny_loadPart' hb, wpAny_forIn_list _ (fun rest b s' => b.1 = none /\ s' = ⟨hp, g, d, tk, os⟩ /\ ∃ xs ys is' Mz, rest = xs.zip ys /\ IntsAre xs is' /\ IntsAre ys Mz /\ decide (items.length < items2.length) = decide (is'.length < Mz.length) /\
   R (.ok (.ret (.bool (aP is' Mz)))) ⟨hp, g, d, tk, os⟩) _
  case turn =>
   rintro ⟨y, x⟩ rest b s' ⟨hb', rfl, xs, ys, is', Mz, hz, h1, h2, h3, hR⟩
   cases h1 with
   | nil => cases hz
   | cons p t h1 =>
     cases h2 with
     | nil => cases hz
     | cons q u h2 =>
       injection hz with hyx hrest
       cases hyx
       refine wpAny_bind (wpAny_eqBool_int ?_)
       by_cases e : p = q
       . subst e
         rw [beq_self_eq_true]
         wp_walk
         exact ⟨rfl, rfl, _, _, _, _, hrest, h1, h2, by rw [h3]; simp, by simpa [aP] using hR⟩
       . rw [beq_eq_false_iff_ne.mpr e]
         have hR' : R (.ok (.ret (.bool (decide (p < q))))) ⟨hp, g, d, tk, os⟩ := by simpa [aP, e] using hR
         simp only [Bool.not_false, if_true]
         refine wpAny_bind (wpAny_rule ?_)
         refine wpAny_bind (show wpAny (model prog w) A.in1 (compareOp .Lt (Value.int p t) (Value.int q u)) _ _ _ from wpAny_lt_int ?_)
         refine wpAny_bind (wpAny_pure ?_)
         exact wpAny_pure (wpAny_pure ⟨_, rfl, hR'⟩)
  case fin =>
   rintro ⟨b1, b2⟩ s' ⟨hb', rfl, xs, ys, is', Mz, hz, h1, h2, h3, hR⟩
   simp only at hb'
   subst hb'
   have e : aP is' Mz = decide (items.length < items2.length) := by
    rw [h3]
    cases h1 with
    | nil => cases h2 <;> simp [aP]
    | cons _ _ _ => cases h2 with
      | nil => simp [aP]
      | cons _ _ _ => cases hz
   rw [e] at hR
   wp_walk
   exact ⟨_, rfl, by simpa [Builtin.Tuple.tupleCompareSizes] using hR⟩
  case h =>
   exact ⟨rfl, rfl, items, items2, is, js, by simp, hi, hj, by rw [IntsAre.length hi, IntsAre.length hj], h⟩
section
variable {X : Cx}
theorem Hy (hu : X.A.units + 8 < cLine) : fP X (compareOp .Lt) (rD X.K (tL .lt)) := by
 rintro pins s σ H x y v u Q I rx ry ⟨F, d, e, r, sm, px, py, he, k⟩
 obtain ⟨t, e1, e2⟩ := map_some (show (MN d e).map _ = some r from he)
 subst e2
 cases d with
 | int i => cases e with
   | int j => exact J1 pins s σ H x y v u Q I rx ry ⟨F, .int i, .int j, _, sm, px, py, by have e2 : Bf (fun i j => decide (i < j)) (.int i) (.int j) = some t := e1; simp only [e2]; rfl, k⟩
   | _ => cases e1
 | tup xs => cases e with
   | tup ys =>
     obtain ⟨hc, e1⟩ := bh (show (if (xs.all cL && ys.all cL) = true then some (aP (xs.map dX) (ys.map dX)) else none) = some t from e1)
     rw [Bool.and_eq_true] at hc
     obtain ⟨a, vs, rfl, h1, h2, _⟩ := px.tup sm
     obtain ⟨b, ws, rfl, h3, h4, _⟩ := py.tup sm
     cases rx; cases ry
     obtain ⟨its, rv, it, _⟩ := I.tuple h1
     obtain ⟨its2, YF, it2, _⟩ := I.tuple h3
     rw [all_ints hc.1] at h2
     rw [all_ints hc.2] at h4
     rw [dR h2] at rv
     rw [dR h4] at YF
     have i1 := intsAre_of rv
     have i2 := intsAre_of YF
     obtain ⟨⟨cls, dd, data, sl⟩, ho, hc1, n, hd⟩ := it
     obtain ⟨⟨cls2, dd2, data2, sl2⟩, ho2, hc2, n2, hd2⟩ := it2
     simp only at hc1 hd hc2 hd2
     subst hc1 hd hc2 hd2
     refine (show wpAny (model X.prog X.w) X.A (richCompare .Lt (.ref a) (.ref b)) _ _ s from richCompare_meets_room (op := .Lt) ⟨_, ho, rfl⟩ ⟨_, ho2, rfl⟩ PySem.F.slot_tuple_lt PySem.F.entry_tuple_lt (PySem.F.args_tuple_lt_2 _ _) (ug a b its its2 n n2 dd dd2 sl sl2 _ _ i1 i2)
      ⟨ho, ho2, show Value.bool _ ≠ Value.notImplemented /\ _ from ⟨(fun x => nomatch x), ⟨.bl t, H, I, by rw [<- e1]; rfl, cj.dG sm (nJ _) k⟩⟩⟩ (by omega))
   | _ => cases e1
 | _ => cases e1
end
end HH
end
section
namespace L2
open PySem PySem.Spec PyProof.Rows
end L2
namespace L2
open PySem PySem.Spec PyProof.Rows
end L2
namespace L2
open PySem PySem.Spec PyProof.Rows
end L2
namespace L2
open PySem PySem.Spec PyProof.Rows
end L2
namespace L2
open PySem PySem.Spec PyProof.Rows
end L2
namespace L2
open PySem PySem.Spec PyProof.Rows
end L2
namespace L2
open PySem PySem.Spec PyProof.Rows
end L2
namespace L2
open PySem PySem.Spec PyProof.Rows
end L2
namespace L2
open PySem PySem.Spec PyProof.Rows
end L2
namespace L2
open PySem PySem.Spec PyProof.Rows
end L2
namespace L2
open PySem PySem.Spec PyProof.Rows
section
variable {κ : Type} [DecidableEq κ]
noncomputable def kO (kvs : List (κ × V)) (k : κ) : Option V := (kvs.find? fun kv => decide (kv.1 = k)).map (·.2)
noncomputable def putK (kvs : List (κ × V)) (k : κ) (v : V) : List (κ × V) :=
 if (kvs.any fun kv => decide (kv.1 = k)) = true then kvs.map (fun kv => if kv.1 = k then (kv.1, v) else kv) else kvs ++ [(k, v)]
theorem lM {p : κ × V} {r : List (κ × V)} {k : κ} (e : p.1 = k) : kO (p :: r) k = some p.2 := by simp [kO, List.find?_cons, e]
theorem lR {p : κ × V} {r : List (κ × V)} {k : κ} (e : ¬ p.1 = k) : kO (p :: r) k = kO r k := by simp [kO, List.find?_cons, e]
theorem qu (k : κ) : ∀ kvs : List (κ × V), (kvs.any fun kv => decide (kv.1 = k)) = (kO kvs k).isSome
 | [] => rfl
 | p :: r => by
   rw [List.any_cons]
   by_cases e : p.1 = k
   . simp only [lM e, decide_eq_true e, Bool.true_or, Option.isSome_some]
   . rw [lR e, decide_eq_false e, Bool.false_or]; exact qu k r
theorem jY (kvs : List (κ × V)) (k : κ) (v : V) : (putK kvs k v).length <= kvs.length + 1 := by
 unfold putK
 split
 . rw [List.length_map]; omega
 . rw [List.length_append, List.length_cons, List.length_nil]; omega
theorem kI.xN {o : Option V} {u : Option Value} (r : kI o u) : o.isSome = u.isSome := by
 cases o with
 | none => cases u with
   | none => rfl
   | some _ => exact (show False from r).elim
 | some _ => cases u with
   | none => exact (show False from r).elim
   | some _ => rfl
theorem kI.getD {o : Option V} {u : Option Value} {d : V} {d' : Value} (r : kI o u) (rd : RelV d d') : RelV (o.getD d) (u.getD d') := by
 cases o with
 | none => cases u with
   | none => exact rd
   | some _ => exact (show False from r).elim
 | some _ => cases u with
   | none => exact (show False from r).elim
   | some _ => exact r
theorem KV.val {kvs : List (κ × V)} {vs : List (κ × Value)} (r : KV kvs vs) (k : κ) : kI (kO kvs k) (valueAt vs k) := by
 unfold KV at r
 induction r with
 | nil => exact True.intro
 | @cons p q ps qs h t ih =>
   obtain ⟨h1, h2⟩ := h
   by_cases e : p.1 = k
   . have e' : q.1 = k := h1.symm.trans e
     have b : valueAt (q :: qs) k = some q.2 := by simp [valueAt, List.find?_cons, e']
     rw [lM e, b]; exact h2
   . have e' : ¬ q.1 = k := fun z => e (h1.trans z)
     have b : valueAt (q :: qs) k = valueAt qs k := by simp [valueAt, List.find?_cons, e']
     rw [lR e, b]; exact ih
theorem KV.any {kvs : List (κ × V)} {vs : List (κ × Value)} (r : KV kvs vs) (k : κ) : (kvs.any fun kv => decide (kv.1 = k)) = vs.any fun kv => decide (kv.1 = k) := by
 unfold KV at r
 induction r with
 | nil => rfl
 | cons h t ih => rw [List.any_cons, List.any_cons, ih, h.1]
theorem KV.repl {kvs : List (κ × V)} {vs : List (κ × Value)} (r : KV kvs vs) (k : κ) {y : V} {u : Value} (ry : RelV y u) :
 KV (kvs.map fun kv => if kv.1 = k then (kv.1, y) else kv) (vs.map fun kv => if kv.1 = k then (kv.1, u) else kv) := by
 unfold KV at r ⊢
 induction r with
 | nil => exact .nil
 | @cons p q ps qs h t ih =>
   rw [List.map_cons, List.map_cons]
   refine .cons ?_ ih
   obtain ⟨h1, h2⟩ := h
   by_cases e : p.1 = k
   . rw [if_pos e, if_pos (h1.symm.trans e)]; exact ⟨h1, ry⟩
   . rw [if_neg e, if_neg (fun z => e (h1.trans z))]; exact ⟨h1, h2⟩
theorem KV.put {kvs : List (κ × V)} {vs : List (κ × Value)} (r : KV kvs vs) (k : κ) {y : V} {u : Value} (ry : RelV y u) : KV (putK kvs k y) (stored vs k u) := by
 unfold putK stored
 rw [r.any k]
 by_cases e : (vs.any fun kv => decide (kv.1 = k)) = true
 . rw [if_pos e, if_pos e]; exact r.repl k ry
 . rw [if_neg e, if_neg e]; exact Paired.snoc r ⟨rfl, ry⟩
theorem KV.length {kvs : List (κ × V)} {vs : List (κ × Value)} (r : KV kvs vs) : kvs.length = vs.length := Paired.length r
end
theorem uZ {P : Program} {w : World} {k : Key} {u : Value} (r : RelV (kV k) u) : (bM P w).is k u = true := by
 cases k with
 | inl i => obtain ⟨t, e⟩ := (show ∃ t, u = Value.int i t from r); subst e; exact qL P w i t
 | inr x => obtain ⟨t, e⟩ := (show ∃ t, u = Value.str x t from r); subst e; exact rA P w x t
theorem n6 {P : Program} {w : World} : ∀ {ks : List Key} {us : List Value}, Vals (ks.map kV) us -> ItemsAre (bM P w) ks us
 | [], _, r => by rw [List.map_nil] at r; cases r; exact .nil
 | k :: ks, _, r => by
   rw [List.map_cons] at r
   cases r with
   | cons h t => exact .cons (uZ h) (n6 t)
noncomputable abbrev KT (H : Hp) : List (List Key × V) -> List (List Key × Addr × Value) -> Prop := Paired fun p q => p.1 = q.1 /\ H q.2.1 = some (.tup (p.1.map kV)) /\ RelV p.2 q.2.2
theorem KT.val {H : Hp} {kvs : List (List Key × V)} {xs : List (List Key × Addr × Value)} (r : KT H kvs xs) (k : List Key) : kI (kO kvs k) ((atKey xs k).map (·.2)) := by
 induction r with
 | nil => exact True.intro
 | @cons p q ps qs h t ih =>
   obtain ⟨h1, _, h2⟩ := h
   by_cases e : p.1 = k
   . have e' : q.1 = k := h1.symm.trans e
     have b : atKey (q :: qs) k = some q.2 := by simp [atKey, List.find?_cons, e']
     rw [lM e, b]; exact h2
   . have e' : ¬ q.1 = k := fun z => e (h1.trans z)
     have b : atKey (q :: qs) k = atKey qs k := by simp [atKey, List.find?_cons, e']
     rw [lR e, b]; exact ih
theorem KT.repl {H : Hp} {kvs : List (List Key × V)} {xs : List (List Key × Addr × Value)} (r : KT H kvs xs) (k : List Key) {y : V} {u : Value} (ry : RelV y u) :
 KT H (kvs.map fun kv => if kv.1 = k then (kv.1, y) else kv) (xs.map (putAt k u)) := by
 induction r with
 | nil => exact .nil
 | @cons p q ps qs h t ih =>
   rw [List.map_cons, List.map_cons]
   refine .cons ?_ ih
   obtain ⟨h1, h2, h3⟩ := h
   unfold putAt
   by_cases e : p.1 = k
   . rw [if_pos e, if_pos (h1.symm.trans e)]; exact ⟨h1, h2, ry⟩
   . rw [if_neg e, if_neg (fun z => e (h1.trans z))]; exact ⟨h1, h2, h3⟩
theorem KT.put {H : Hp} {kvs : List (List Key × V)} {xs : List (List Key × Addr × Value)} (r : KT H kvs xs) (k : List Key) {b : Addr} {y : V} {u : Value} (hb : H b = some (.tup (k.map kV))) (ry : RelV y u) :
 KT H (putK kvs k y) (storedH xs k b u) := by
 have e : (kvs.any fun kv => decide (kv.1 = k)) = (atKey xs k).isSome := by
  rw [qu, (r.val k).xN, Option.isSome_map]
 unfold putK storedH
 rw [e]
 by_cases q : (atKey xs k).isSome = true
 . rw [if_pos q, if_pos q]; exact r.repl k ry
 . rw [if_neg q, if_neg q]; exact Paired.snoc r ⟨rfl, hb, ry⟩
theorem KT.keeps {H H' : Hp} {kvs : List (List Key × V)} {xs : List (List Key × Addr × Value)} (r : KT H kvs xs) (ht : ∀ b ys, H b = some (.tup ys) -> H' b = some (.tup ys)) : KT H' kvs xs :=
 Paired.Jb r fun _ _ z => ⟨z.1, ht _ _ z.2.1, z.2.2⟩
section
variable {P : Program} {w : World} {H : Hp} {h : Heap} {a : Addr}
theorem Eu {u : HO} (ok : jK P w H h) (e : Rd H a u) : bL P w H h a u := e.ok ok
theorem qz {kvs : List (Key × V)} (ok : jK P w H h) (e : Rd H a (.dK kvs)) : kvs.length <= sizeLine /\ (a == sysModules) = false /\ ∃ vs, KV kvs vs /\ h.DictOf (bM P w) a vs :=
 show bL P w H h a (.dK kvs) from Eu ok e
theorem Np {kvs : List (Key × V)} (ok : jK P w H h) (e : H a = some (.dK kvs)) : kvs.length <= sizeLine /\ (a == sysModules) = false /\ ∃ vs, KV kvs vs /\ h.DictOf (bM P w) a vs := qz ok (.inl e)
theorem o5 {ks : List Key} (ok : jK P w H h) (e : H a = some (.tup (ks.map kV))) : (tupleKind (bM P w)).is h ks a := by
 obtain ⟨_, its, r, o, h1, h2, n, h3⟩ := (show bL P w H h a (.tup (ks.map kV)) from ok a _ e)
 exact ⟨o, its.toArray, n, h1, h2, h3, by simpa using n6 r⟩
theorem qP {kvs : List (List Key × V)} (ok : jK P w H h) (e : Rd H a (.dT kvs)) : kvs.length <= sizeLine /\ (a == sysModules) = false /\
 ∃ xs, KT H kvs xs /\ h.DictOfH (tupleKind (bM P w)) a xs := by
 obtain ⟨z, y, xs, r, o, es, ep, h1, h2, h3, h4, h5⟩ := (show bL P w H h a (.dT kvs) from Eu ok e)
 refine ⟨z, y, xs, r, o, es, ep, h1, h2, h3, h4, fun x hx => ?_, h5⟩
 have all : ∀ {l : List (List Key × V)} {m : List (List Key × Addr × Value)}, KT H l m -> ∀ x ∈ m, (tupleKind (bM P w)).is h x.1 x.2.1 := by
  intro l m q
  induction q with
  | nil => intro x hx; exact nomatch hx
  | @cons p q ps qs hq t ih =>
    intro x hx
    rcases List.mem_cons.mp hx with e | hx
    . subst e
      exact o5 ok (by rw [<- hq.1]; exact hq.2.1)
    . exact ih x hx
 exact all r x hx
theorem Nj {kvs : List (List Key × V)} (ok : jK P w H h) (e : H a = some (.dT kvs)) : kvs.length <= sizeLine /\ (a == sysModules) = false /\
 ∃ xs, KT H kvs xs /\ h.DictOfH (tupleKind (bM P w)) a xs := qP ok (.inl e)
end
noncomputable def wM (H : Hp) (a : Addr) (y : V) (r : Option V) : Prop :=
 (∃ kvs k, Rd H a (.dK kvs) /\ y = kV k /\ r = kO kvs k) \/ ∃ kvs k b, Rd H a (.dT kvs) /\ y = .ref b /\ H b = some (.tup (k.map kV)) /\ r = kO kvs k
noncomputable def Qn (H : Hp) (a : Addr) (y v : V) (H' : Hp) : Prop :=
 (∃ kvs k, H a = some (.dK kvs) /\ y = kV k /\ kvs.length < sizeLine /\ H' = upd H a (.dK (putK kvs k v))) \/
 ∃ kvs k b, H a = some (.dT kvs) /\ y = .ref b /\ H b = some (.tup (k.map kV)) /\ kvs.length < sizeLine /\ H' = upd H a (.dT (putK kvs k v))
section
variable {X : Cx} {pins : List (Addr × Obj)} {σ : St} {H : Hp} {s : Shared} {a : Addr} {y v : V} {u r : Value} {o : Option V} {A : Around} {E : Value -> Shared -> Prop}
theorem Inv.big (I : Inv X pins σ H s) : sysModules < s.heap.objs.size := by
 have h : mainGlobals < s.heap.objs.size := (I.mod.glob.keeps I.bk).lt
 exact Nat.lt_trans (by decide) h
theorem wZ {Q : Value -> Shared -> Prop} (hu : A.units + 1 < cLine) (I : Inv X pins σ H s) (g : wM H a y (some v)) (ry : RelV y u) (h : ∀ w' s', Inv X pins σ H s' -> RelV v w' -> Q w' s') :
 wpAny (model X.prog X.w) A (getItem (.ref a) u) Q E s := by
 rcases g with ⟨kvs, k, e, ey, l⟩ | ⟨kvs, k, b, e, ey, eb, l⟩
 . subst ey
   obtain ⟨z, hd, vs, rel, dd⟩ := qz I.hok e
   obtain ⟨w', hw, xO⟩ := kI.some_of (v := v) (o := valueAt vs k) (by rw [l]; exact rel.val k)
   exact wpAny_getItem_of (uZ ry) dd.mapOf hw (h w' _ (I.tok _) xO)
 . subst ey
   cases (show u = Value.ref b from ry)
   obtain ⟨z, hd, xs, rel, dd⟩ := qP I.hok e
   obtain ⟨w', hw, xO⟩ := kI.some_of (v := v) (o := (atKey xs k).map (·.2)) (by rw [l]; exact rel.val k)
   obtain ⟨p, hp, hp2⟩ := Option.map_eq_some_iff.mp hw
   refine wpAny_getItem_heap (tupleKind_room_in1 hu) (o5 I.hok eb) dd hp ?_
   rw [hp2]
   exact h w' _ (I.tok _) xO
theorem uQ {h' : Heap} {t' : Nat} {ob : HO} (I : Inv X pins σ H s) (mu : O1 (H a)) (hs : Heap.SameBut a s.heap h') (he : ∃ q, h'.get? a = some q) (new : bL X.prog X.w (upd H a ob) h' a ob) :
 Inv X pins σ (upd H a ob) { s with heap := h', toks := t' } :=
 I.write (x := a) (e := a) mu (.inl rfl) (fun b q hb z => (hs.2 b hb).trans z) he new
theorem HW {P : Program} {w : World} {H' : Hp} {h' : Heap} {kvs : List (Key × V)} {vs : List (Key × Value)} (z : kvs.length <= sizeLine) (hd : (a == sysModules) = false) (rel : KV kvs vs) (dd : h'.DictOf (bM P w) a vs) :
 bL P w H' h' a (.dK kvs) := ⟨z, hd, vs, rel, dd⟩
theorem wV {H' : Hp} {Q : Unit -> Shared -> Prop} (hu : A.units + 1 < cLine) (I : Inv X pins σ H s) (g : Qn H a y v H') (ry : RelV y u) (rv : RelV v r) (h : ∀ s', Inv X pins σ H' s' -> Q () s') :
 wpAny (model X.prog X.w) A (setItem (.ref a) u r) Q E s := by
 rcases g with ⟨kvs, k, e, ey, l, eH⟩ | ⟨kvs, k, b, e, ey, eb, l, eH⟩
 . subst ey eH
   obtain ⟨z, hd, vs, rel, dd⟩ := Np I.hok e
   have hz : vs.length <= sizeLine := by rw [<- rel.length]; exact z
   have hl : (putK kvs k v).length <= sizeLine := by have := jY kvs k v; omega
   refine wpAny_setItem_pairs (hsz := hz) (uZ ry) dd fun h' S6 hs => h _ ?_
   have he : ∃ q, h'.get? a = some q := let ⟨q, _, _, hq, _⟩ := S6; ⟨q, hq⟩
   exact uQ I (by rw [e]; exact True.intro) hs he (HW hl hd (rel.put k rv) S6)
 . subst ey eH
   cases (show u = Value.ref b from ry)
   obtain ⟨z, hd, xs, rel, dd⟩ := Nj I.hok e
   have hz : xs.length <= sizeLine := by rw [<- Paired.length rel]; exact z
   have hl : (putK kvs k v).length <= sizeLine := by have := jY kvs k v; omega
   refine wpAny_setItem_heap (hsz := hz) (tupleKind_room_in1 hu) (o5 I.hok eb) dd fun h' S6 hs => h _ ?_
   obtain ⟨q, es, ep, hq, h2, h3, h4, _, h5⟩ := S6
   refine uQ I (by rw [e]; exact True.intro) hs ⟨q, hq⟩ ⟨hl, hd, _, (rel.put k eb rv).keeps fun c ys ec => ?_, q, es, ep, hq, h2, h3, h4, h5⟩
   rw [aC (Nb ec e (fun z => nomatch z))]
   exact ec
end
noncomputable def G9 (i : Expr) : Prop := ∀ ov iv, subscripted i false ov iv = operate [ov, iv] (getItem ov iv)
theorem Di {prog : Program} {w : World} {A : Around} {E : Value -> Shared -> Prop} {s : Shared} {env : Env} {value slice : Expr} {pos : Pos} {T id : String} {Q : Value -> Shared -> Prop}
 (hl : typeLookup (.type T) "__getitem__" = pure (some (.builtin id))) (hs : G9 slice)
 (h : wpAny (model prog w) A (eval value env) (fun o s₁ => wpAny (model prog w) A (eval slice env) (fun i s₂ => s₂.TypeIs o T /\ wpAny (model prog w) A (getItem o i) Q E s₂) E s₁) E s) :
 wpAny (model prog w) A (eval (.Subscript value slice pos) env) Q E s := by
 refine Subscript_ (wpAny_mono h (fun o s₁ h₁ => wpAny_mono h₁ (fun i s₂ h₂ => ?_) fun _ _ x => x) fun _ _ x => x)
 obtain ⟨hT, h₂⟩ := h₂
 unfold subscriptTail
 refine wpAny_bind ?_
 rw [getitemInPython_of_ne hT.not_modules]
 refine wpAny_bind (wpAny_specialOf hT hl ?_)
 have fin : wpAny (model prog w) A (subscripted slice false o i) (fun r s₃ => wpAny (model prog w) A (letTemporaryGo value o r >>= fun _ => pure r) Q E s₃) E s₂ := by
  rw [hs o i]
  exact wpAny_operating (wpAny_mono h₂ (fun r s₃ h₃ => wpAny_bind (wpAny_letTemporaryGo (wpAny_pure h₃))) fun _ _ x => x)
 first
  | exact wpAny_pure (wpAny_bind fin)
  | exact wpAny_bind (wpAny_pure (wpAny_bind fin))
  | exact wpAny_bind fin
theorem qC {X : Cx} {pins : List (Addr × Obj)} {σ : St} {H : Hp} {s : Shared} {a : Addr} {y : V} {o : Option V} (I : Inv X pins σ H s) (g : wM H a y o) : s.TypeIs (.ref a) "dict" := by
 rcases g with ⟨kvs, k, e, _, _⟩ | ⟨kvs, k, b, e, _, _, _⟩
 . obtain ⟨_, _, vs, _, dd⟩ := qz I.hok e
   exact dd.typeIs
 . obtain ⟨_, _, xs, _, dd⟩ := qP I.hok e
   exact dd.typeIs
noncomputable def MT (td ty : TE) : TE := fun σ H Q => td σ H fun x H1 => ty σ H1 fun y H2 => ∃ a v, x = .ref a /\ wM H2 a y (some v) /\ Q v H2
noncomputable def Qj (td ty tv : TE) : TS := fun D σ H => tv σ H fun v H1 => td σ H1 fun x H2 => ty σ H2 fun y H3 => ∃ a H4, x = .ref a /\ Qn H3 a y v H4 /\ D.nx σ H4
section
variable {X : Cx} {o i e value : Expr} {pos pos' tpos : Pos} {td ty tv : TE}
theorem Eg (hu : X.A.units + 1 < cLine) (ho : PE X o td) (hi : PE X i ty) (hs : G9 i) : PE X (.Subscript o i pos) (MT td ty) := by
 intro pins s σ H Q I h
 refine Di PySem.F.slot_dict_getitem.lookup hs (cJ (ho pins s σ H _ I h) fun u s1 ⟨x, H1, I1, rx, q1⟩ => cJ (hi pins s1 σ H1 _ I1 q1) fun iv s2 ⟨y, H2, I2, ry, a, v, ex, g, q2⟩ => ?_)
 subst ex
 obtain rfl : u = Value.ref a := rx
 exact ⟨qC I2 g, wZ hu I2 g ry fun w' s3 I3 xO => ⟨v, H2, I3, xO, q2⟩⟩
theorem Cu (hu : X.A.units + 1 < cLine) (ho : PE X o td) (hi : PE X i ty) (hv : PE X value tv) (hs : swapsWith value (some (.Subscript o i pos')) pos.line X.env = pure false) :
 PS X (.Assign [.Subscript o i pos'] value pos) (Qj td ty tv) := by
 intro pins s σ H D I h
 refine wpAny_Assign_Subscript (cJ (hv pins s σ H _ I h) fun r s1 ⟨v, H1, I1, rv, q1⟩ => cJ (ho pins s1 σ H1 _ I1 q1) fun u s2 ⟨x, H2, I2, rx, q2⟩ => cJ (hi pins s2 σ H2 _ I2 q2) fun iv s3 ⟨y, H3, I3, ry, a, H4, ex, g, q3⟩ => ?_) hs
 subst ex
 obtain rfl : u = Value.ref a := rx
 exact wV hu I3 g ry rv fun s4 I4 => ⟨σ, H4, I4, q3⟩
end
theorem Ao {P : Program} {w : World} {H : Hp} (h : Heap) (hb : sysModules < h.objs.size) : bL P w H (h.push { cls := .type "dict", data := .dict #[] }) h.objs.size (.dT []) :=
 ⟨Nat.zero_le _, beq_eq_false_iff_ne.mpr (Ne.symm (Nat.ne_of_lt hb)), [], .nil, _, #[], 0, Heap.get?_push_size _ rfl, ⟨rfl, rfl, rfl⟩, rfl, rfl, List.nodup_nil⟩
noncomputable def Jg : TE := fun _ H Q => ∀ p, H p = none -> Q (.ref p) (upd H p (.dT []))
section
variable {X : Cx} {pos : Pos}
theorem Ai : PE X (.Dict [] [] pos) Jg := fun pins s σ H Q I h =>
 wpAny_Dict_empty ⟨.ref s.heap.objs.size, _, I.laid (a := s.heap.objs.size) (o := .dT []) (t' := s.toks) (fun _ _ q => Heap.get?_push_of_some _ q) (Nat.le_refl _) (Ao s.heap I.big), rfl, h _ (I.hok.fresh (Nat.le_refl _))⟩
end
structure M2 (X : Cx) (o : Expr) (m : Str) (apos : Pos) (e f : Expr) (cpos : Pos) : Prop where
 base : attributeBase o m X.env (eval o X.env) = eval o X.env
 few : ((backTo cpos (starEach [e, f] X.env)).all (fun x => !x.1) && (backToKw cpos (keywordEach [] X.env)).all (fun x => x.1.isSome)
  && decide (([e, f] : List Expr).length + ([] : List Keyword).length + (if ([] : List Keyword).isEmpty then 0 else 1) < 30)) = true
 line : (apos.endLine == cpos.line) = true
 trees : backTo cpos (starEach [e, f] X.env) = [(false, eval e X.env), (false, eval f X.env)]
noncomputable def Xr (H : Hp) (a : Addr) : Prop := (∃ kvs, Rd H a (.dK kvs)) \/ ∃ kvs, Rd H a (.dT kvs)
theorem Im {X : Cx} {pins : List (Addr × Obj)} {σ : St} {H : Hp} {s : Shared} {a : Addr} (I : Inv X pins σ H s) (d : Xr H a) :
 s.TypeIs (.ref a) "dict" /\ (∀ b, Value.ref a = .ref b -> ∃ ob, s.heap.get? b = some ob /\ ob.dict = none) /\ (a == sysModules) = false := by
 rcases d with ⟨kvs, e⟩ | ⟨kvs, e⟩
 . obtain ⟨_, hd, vs, _, dd⟩ := qz I.hok e
   refine ⟨dd.typeIs, fun b q => ?_, hd⟩
   cases q
   obtain ⟨ob, _, _, h1, h2, _⟩ := dd
   exact ⟨ob, h1, h2.2.1⟩
 . obtain ⟨_, hd, xs, _, dd⟩ := qP I.hok e
   refine ⟨dd.typeIs, fun b q => ?_, hd⟩
   cases q
   obtain ⟨ob, _, _, h1, h2, _⟩ := dd
   exact ⟨ob, h1, h2.2.1⟩
section
variable {X : Cx} {pins : List (Addr × Obj)} {σ : St} {H : Hp} {s : Shared} {a : Addr} {y d : V} {u r : Value} {o : Option V} {A : Around} {E : Value -> Shared -> Prop}
theorem JW {Q : Value -> Shared -> Prop} (hu : A.units + 1 < cLine) (I : Inv X pins σ H s) (g : wM H a y o) (ry : RelV y u) (rd : RelV d r) (h : ∀ w' s', Inv X pins σ H s' -> RelV (o.getD d) w' -> Q w' s') :
 wpAny (model X.prog X.w) A (call (.builtin "dict.get") [.ref a, u, r]) Q E s := by
 rcases g with ⟨kvs, k, e, ey, l⟩ | ⟨kvs, k, b, e, ey, eb, l⟩
 . subst ey
   obtain ⟨z, hd, vs, rel, dd⟩ := qz I.hok e
   refine call_meetsIn PySem.F.slot_dict_get dd.typeIs PySem.F.entry_dict_get (PySem.F.args_dict_get_3 _ _ _) (meets_dict_get_default (bM X.prog X.w) a (uZ ry) hd r) ⟨_, dd.mapOf, h _ _ (I.tok _) ?_⟩
   rw [l]
   exact (rel.val k).getD rd
 . subst ey
   cases (show u = Value.ref b from ry)
   obtain ⟨z, hd, xs, rel, dd⟩ := qP I.hok e
   refine call_meetsIn PySem.F.slot_dict_get dd.typeIs PySem.F.entry_dict_get (PySem.F.args_dict_get_3 _ _ _) (meetsH_dict_get_default (tupleKind (bM X.prog X.w)) a b hd r) ⟨tupleKind_room_in1 hu, k, xs, o5 I.hok eb, dd, h _ _ (I.tok _) ?_⟩
   rw [l]
   exact (rel.val k).getD rd
end
noncomputable def HJ (td ty tx : TE) : TE := fun σ H Q => td σ H fun x H1 => ∃ a, x = .ref a /\ Xr H1 a /\ ty σ H1 fun y H2 => tx σ H2 fun z H3 => ∃ o, wM H3 a y o /\ Q (o.getD z) H3
section
variable {X : Cx} {o e f : Expr} {apos cpos : Pos} {td ty tx : TE}
theorem xZ (hu : X.A.units + 1 < cLine) (ho : PE X o td) (he : PE X e ty) (hf : PE X f tx) (m : M2 X o "get" apos e f cpos) : PE X (.Call (.Attribute o "get" apos) [e, f] [] cpos) (HJ td ty tx) := by
 intro pins s σ H Q I h
 refine wpAny_Call_method m.base m.few m.line PySem.F.plainAttrs_dict PySem.F.slot_dict_get PySem.F.type_dict_get (cJ (ho pins s σ H _ I h) fun u s1 ⟨x, H1, I1, rx, a, ex, d, q1⟩ => ?_)
 subst ex
 obtain rfl : u = Value.ref a := rx
 obtain ⟨t1, t2, _⟩ := Im I1 d
 refine ⟨t1, t2, ?_⟩
 rw [m.trees]
 refine Calls.callWith_builtin rfl (Calls.evalArgs_plain (Calls.spliced_cons (cJ (he pins s1 σ H1 _ I1 q1) fun iv s2 ⟨y, H2, I2, ry, q2⟩ =>
  Calls.spliced_cons (cJ (hf pins s2 σ H2 _ I2 q2) fun fv s3 ⟨z, H3, I3, rz, ov, g, q3⟩ => Calls.spliced_nil ?_))))
 exact JW hu I3 g ry rz fun w' s4 I4 xO => ⟨_, H3, I4, xO, q3⟩
end
end L2
namespace Su
open PySem PySem.W PySem.Calls PyProof.Rows
end Su
namespace L2
open PySem PySem.Spec PyProof.Rows
end L2
namespace L2
open PySem PySem.Spec PyProof.Rows
end L2
namespace L2
open PySem PySem.Spec PyProof.Rows
end L2
end
section
namespace HH
open PySem L2 PySem.Spec PyProof.Rows
section
variable {K : PySem.W.Frag} {F F1 H H1 : Hp} {ρ ρ1 ρ2 : List Sl} {σ σ1 : L2.St}
theorem GS.Vk {x : Nat} {m m' : Dc} {a : Addr} (g : GS K F ρ σ H) (e : ρ[x]? = some (.eF m)) (hx : σ[x]? = some (some (.ref a))) :
 bB K F ρ σ H F (ρ.set x (.eF m')) σ (upd H a m'.ho) := by
 have hi : x < ρ.length := (List.getElem?_eq_some_iff.mp e).1
 have oa : aZ ρ σ x a := ⟨⟨_, _, e, rfl⟩, hx⟩
 obtain ⟨a', o0, h1, h2, h3, h4⟩ := g.own x _ _ e rfl
 rw [hx] at h1; cases h1
 have old : ∀ {j : Nat} {c : Addr}, aZ (ρ.set x (.eF m')) σ j c -> aZ ρ σ j c := fun {j c} ⟨⟨t, dt, q1, q2⟩, q3⟩ => by
  by_cases hj : j = x
  . subst hj; exact ⟨⟨_, _, e, rfl⟩, q3⟩
  . rw [List.getElem?_set_ne (Ne.symm hj)] at q1; exact ⟨⟨t, dt, q1, q2⟩, q3⟩
 refine ⟨⟨fun c o q => ?_, by simp [g.len], fun j b' d q => ?_, fun j t dt q q' => ?_, fun j k c q1 q2 => g.dis j k c (old q1) (old q2)⟩, .refl _, fun c n n' => absurd n n', fun c o q n => ?_, fun c ⟨j, q⟩ => .inl ⟨j, old q⟩, by simp, fun j t q l => ⟨rfl, ?_⟩⟩
 . have : c ≠ a := by rintro rfl; rw [h3] at q; cases q
   rw [aC this]; exact g.sub c o q
 . by_cases hj : j = x
   . subst hj; rw [List.getElem?_set_self hi] at q; cases q
   . rw [List.getElem?_set_ne (Ne.symm hj)] at q; exact g.val j b' d q
 . by_cases hj : j = x
   . subst hj
     rw [List.getElem?_set_self hi] at q; cases q; cases q'
     exact ⟨a, _, hx, aQ, h3, rfl⟩
   . rw [List.getElem?_set_ne (Ne.symm hj)] at q
     obtain ⟨c, zs, w1, w2, w3, w4⟩ := g.own j t dt q q'
     have : c ≠ a := by rintro rfl; exact hj (g.dis j x c ⟨⟨t, dt, q, q'⟩, w1⟩ oa)
     exact ⟨c, zs, w1, by rw [aC this]; exact w2, w3, w4⟩
 . have : c ≠ a := by rintro rfl; exact n ⟨x, oa⟩
   rw [aC this]; exact q
 . by_cases hj : j = x
   . subst hj
     rw [e] at q; cases q; cases l
   . exact ⟨t, by rw [List.getElem?_set_ne (Ne.symm hj)]; exact q, .refl t⟩
theorem GS.newD {i : Nat} {m : Dc} {a : Addr} (g : GS K F ρ σ H) (e : ρ[i]? = some .aX) (ha : H a = none) : bB K F ρ σ H F (ρ.set i (.eF m)) (σ.set i (some (.ref a))) (upd H a m.ho) := by
 have hi : i < ρ.length := (List.getElem?_eq_some_iff.mp e).1
 have hi' : i < σ.length := by rw [<- g.len]; exact hi
 have fa : F a = none := by
  cases q : F a with
  | none => rfl
  | some o => rw [g.sub a o q] at ha; cases ha
 have old : ∀ {j : Nat} {c : Addr}, j ≠ i -> aZ (ρ.set i (.eF m)) (σ.set i (some (.ref a))) j c -> aZ ρ σ j c := fun {j c} hj ⟨⟨t, ds, e1, e2⟩, e3⟩ => by
  rw [List.getElem?_set_ne (Ne.symm hj)] at e1 e3
  exact ⟨⟨t, ds, e1, e2⟩, e3⟩
 have new : ∀ {c : Addr}, aZ (ρ.set i (.eF m)) (σ.set i (some (.ref a))) i c -> c = a := fun {c} ⟨_, e3⟩ => by
  rw [List.getElem?_set_self hi'] at e3; cases e3; rfl
 have no : ∀ {j : Nat}, ¬ aZ ρ σ j a := fun {j} ⟨⟨t, ds, e1, e2⟩, e3⟩ => by
  obtain ⟨c, o, q1, q2, _⟩ := g.own j t ds e1 e2
  rw [e3] at q1; cases q1
  rw [ha] at q2; cases q2
 refine ⟨⟨fun c o q => ?_, by simp [g.len], fun j b' d q => ?_, fun j t dt q q' => ?_, fun j k c q1 q2 => ?_⟩, .refl _, fun c n n' => absurd n n', fun c o q n => ?_, fun c ⟨j, q⟩ => ?_, by simp, fun j t q l => ?_⟩
 . have : c ≠ a := by rintro rfl; rw [fa] at q; cases q
   rw [aC this]; exact g.sub c o q
 . by_cases hj : j = i
   . subst hj; rw [List.getElem?_set_self hi] at q; cases q
   . rw [List.getElem?_set_ne (Ne.symm hj)] at q ⊢; exact g.val j b' d q
 . by_cases hj : j = i
   . subst hj
     rw [List.getElem?_set_self hi] at q; cases q; cases q'
     exact ⟨a, _, List.getElem?_set_self hi', aQ, fa, rfl⟩
   . rw [List.getElem?_set_ne (Ne.symm hj)] at q ⊢
     obtain ⟨c, o, w1, w2, w3, w4⟩ := g.own j t dt q q'
     have : c ≠ a := by rintro rfl; rw [ha] at w2; cases w2
     exact ⟨c, o, w1, by rw [aC this]; exact w2, w3, w4⟩
 . by_cases hj : j = i
   . by_cases hk : k = i
     . rw [hj, hk]
     . subst hj; rw [new q1] at q2; exact absurd (old hk q2) no
   . by_cases hk : k = i
     . subst hk; rw [new q2] at q1; exact absurd (old hj q1) no
     . exact g.dis j k c (old hj q1) (old hk q2)
 . have : c ≠ a := by rintro rfl; rw [ha] at q; cases q
   rw [aC this]; exact q
 . by_cases hj : j = i
   . subst hj; rw [new q]; exact .inr ha
   . exact .inl ⟨j, old hj q⟩
 . have hj : j ≠ i := by rintro rfl; rw [e] at q; cases q; cases l
   exact ⟨by rw [List.getElem?_set_ne (Ne.symm hj)], t, by rw [List.getElem?_set_ne (Ne.symm hj)]; exact q, .refl t⟩
end
end HH
end
section
namespace HH
open PySem L2 PySem.Spec PyProof.Rows PySem.Calls PySem.W
section
variable {X : Cx} {c : Call} {a : Expr} {pa : P} {pos : Pos}
theorem nZ {K : PySem.W.Frag} {F : Hp} : ∀ ns : List Int, az K F (ns.map V.int) (ns.map D.int)
 | [] => .nil
 | n :: ns => .cons (cA n) (nZ ns)
end
end HH
end
section
namespace HH
open PySem L2 PySem.Spec PyProof.Rows
theorem GC {F H : Hp} {xs : List V} {p : Addr} (s : aK F H) (hp : H p = none) : Ext F H (upd F p (.tup xs)) (upd H p (.tup xs)) := by
 have fp : F p = none := by
  cases q : F p with
  | none => rfl
  | some o => have := s p o q; rw [hp] at this; cases this
 refine ⟨aK.bV hp, aK.bV fp, fun b o e => ?_, fun b n n' => ?_⟩
 . by_cases hb : b = p
   . rw [hb, aQ] at e ⊢; exact e
   . rw [aC hb] at e ⊢; exact s b o e
 . by_cases hb : b = p
   . rw [hb]; exact jy hp
   . rw [aC hb] at n'; exact absurd n n'
noncomputable def Al (p : List Int × Int) : List Key × V := (p.1.map Sum.inl, V.int p.2)
theorem qN : ∀ {a b : List Int}, (a.map Sum.inl : List Key) = b.map Sum.inl -> a = b
 | [], [], _ => rfl
 | [], _ :: _, h => by cases h
 | _ :: _, [], h => by cases h
 | x :: a, y :: b, h => by
   rw [List.map_cons, List.map_cons] at h
   injection h with h1 h2
   injection h1 with h1
   rw [h1, qN h2]
theorem qF (a b : List Int) : decide ((a.map Sum.inl : List Key) = b.map Sum.inl) = decide (a = b) := by
 by_cases h : a = b
 . subst h; simp
 . rw [decide_eq_false h, decide_eq_false fun e => h (qN e)]
theorem xY (k : List Int) : ∀ kvs : List (List Int × Int), kO (kvs.map Al) (k.map Sum.inl : List Key) = ((kvs.find? fun kv => decide (kv.1 = k)).map (·.2)).map V.int
 | [] => rfl
 | p :: kvs => by
   have ih := xY k kvs
   unfold kO at ih ⊢
   have e : decide ((Al p).1 = (k.map Sum.inl : List Key)) = decide (p.1 = k) := qF p.1 k
   rw [List.map_cons, List.find?_cons, List.find?_cons, e]
   cases decide (p.1 = k) with
   | true => rfl
   | false => exact ih
theorem JT (k : List Int) (v : Int) (kvs : List (List Int × Int)) : putK (kvs.map Al) (k.map Sum.inl : List Key) (V.int v) = (putD kvs k v).map Al := by
 have d : ∀ p : List Int × Int, decide ((Al p).1 = (k.map Sum.inl : List Key)) = decide (p.1 = k) := fun p => qF p.1 k
 have e : ((kvs.map Al).any fun kv => decide (kv.1 = (k.map Sum.inl : List Key))) = kvs.any fun kv => decide (kv.1 = k) := by
  rw [List.any_map]; congr 1; funext p; exact d p
 unfold putK putD
 rw [e]
 split
 . rw [List.map_map, List.map_map]
   refine List.map_congr_left fun p _ => ?_
   have h := d p
   by_cases q : p.1 = k
   . rw [decide_eq_true q] at h
     have h' := of_decide_eq_true h
     simp only [Function.comp_apply, if_pos q, if_pos h']; rfl
   . rw [decide_eq_false q] at h
     have h' := of_decide_eq_false h
     simp only [Function.comp_apply, if_neg q, if_neg h']
 . rw [List.map_append]; rfl
theorem kZ (k : List Int) : (k.map Sum.inl : List Key).map kV = k.map V.int := by rw [List.map_map]; rfl
theorem Ag {K : PySem.W.Frag} {F : Hp} {xs : List V} {ds : List D} (r : az K F xs ds) (o : ds.all cL = true) : xs = (ds.map dX).map V.int := by
 rw [all_ints o] at r; rw [dR r]
theorem zZ {K : PySem.W.Frag} {F H : Hp} {q p : Addr} {m : Dc} {ds : List D} {xs : List V} {o : Option Int} (h : Rd H q m.ho) (r : az K F xs ds) (hp : H p = some (.tup xs)) (e : m.tM ds = some o) : wM H q (.ref p) (o.map V.int) := by
 cases m with
 | k kvs => cases e
 | t kvs =>
   obtain ⟨ho, e⟩ := bh (show (if ds.all cL = true then some ((kvs.find? fun kv => decide (kv.1 = ds.map dX)).map (·.2)) else none) = some o from e)
   subst e
   refine .inr ⟨kvs.map Al, (ds.map dX).map Sum.inl, p, h, rfl, ?_, (xY _ kvs).symm⟩
   rw [kZ, <- Ag r ho]; exact hp
theorem Inv.Ud {X : Cx} {pins : List (Addr × Obj)} {σ : L2.St} {H : Hp} {s : Shared} {a : Addr} {kvs : List (List Key × V)} (I : L2.Inv X pins σ H s) (h : H a = some (.dT kvs)) : ∃ o, L2.Inv X pins σ (upd H a (.gR o (.dT kvs))) s := by
 obtain ⟨z, y, xs, r, o, es, ep, h1, h2, h3, h4, h5⟩ := (show bL X.prog X.w H s.heap a (.dT kvs) from I.hok a _ h)
 refine ⟨o, I.write (h' := s.heap) (t' := s.toks) (by rw [h]; exact trivial) (.inl rfl) (fun b u _ e => e) ⟨o, h1⟩ ⟨h1, z, y, xs, KT.keeps r fun b ys q => ?_, o, es, ep, h1, h2, h3, h4, h5⟩⟩
 rw [aC (by rintro rfl; rw [h] at q; cases q)]; exact q
section
variable {X : Cx} {c : Call} {n : Nat} {a b e : Expr} {p pa pb : P} {pos : Pos} {es : List Expr} {ps : List P} {x1 : Nat} {tpos : Pos}
theorem Jf {i : Nat} {x : Str} {px : Pos} (hu : X.A.units + 8 < cLine) (hN : X.N[i]? = some x) (hv : xX X.env.scope x) (hk : SA X c es ps) (hs : G9 (.Tuple es x1 tpos)) (hz : ps.length <= sizeLine := by decide)
 (hd : (x == ("__debug__" : Str)) = false := by decide) (hcd : (x == ("__classdict__" : Str)) = false := by decide) : SX X c (.Subscript (.Name x px) (.Tuple es x1 tpos) pos) (.QH i ps) := by
 refine ⟨eZ (Eg (by omega) (gF hN hv hd hcd) (pN hk.1) hs) ?_, fun i h => by cases h⟩
 rintro σ H Q ⟨F, ρ, r, ρ', g, e, k⟩
 rw [HH.ev] at e
 obtain ⟨d0, ρ0, e0, eA⟩ := ak e; clear e
 obtain ⟨QJ, xR⟩ := aF e0
 subst xR
 obtain ⟨nC, ρ1, e1, eB⟩ := ak eA; clear eA
 obtain ⟨dd, ρ2, e2, eC⟩ := ak eB; clear eB
 obtain ⟨e20, e21⟩ := aF e2
 subst e21
 obtain ⟨e3, e31⟩ := aF eC; clear eC
 subst e31
 obtain ⟨v0, w1, _⟩ := g.pk QJ
 refine ⟨v0, w1, F, ρ, nC, ρ1, g, e1, fun vs F1 H1 s1 rs => ⟨by rw [rs.length, gY e1]; exact hz, fun q hq => ?_⟩⟩
 have x1 := GC (xs := vs) s1.gs.sub hq
 have s2 := s1.trans (x1.stp s1.gs)
 obtain ⟨v1, w2, w3⟩ := s2.gs.pk e20
 rw [w1] at w2; cases w2
 cases dd with
 | cD m =>
   obtain ⟨o, e4, e5⟩ := dw (show (m.tM nC).bind (fun o => o.map fun v => R.val (.int v)) = some r from e3)
   cases o with
   | none => cases e5
   | some v =>
     cases e5
     obtain ⟨ad, ob, rfl, ha⟩ := w3.cD s2.gs.sub
     have dg := zZ (o := some v) (m := m) (.inr ⟨ob, ha⟩) rs aQ e4
     exact ⟨ad, V.int v, rfl, dg, k _ _ _ s2 (show Rep X.K _ _ _ from cA _)⟩
 | _ => cases e3
theorem Dz {i : Nat} {x : Str} {px apos cpos : Pos} {pd : P} (hu : X.A.units + 8 < cLine) (hN : X.N[i]? = some x) (hv : xX X.env.scope x) (hk : SA X c es ps) (hb : SX X c b pd) (m : M2 X (.Name x px) "get" apos (.Tuple es x1 tpos) b cpos) (hz : ps.length <= sizeLine := by decide)
 (hd : (x == ("__debug__" : Str)) = false := by decide) (hcd : (x == ("__classdict__" : Str)) = false := by decide) : SX X c (.Call (.Attribute (.Name x px) "get" apos) [.Tuple es x1 tpos, b] [] cpos) (.Ay i ps pd) := by
 obtain ⟨tb, h3, h4⟩ := hb.eV
 refine ⟨eZ (xZ (by omega) (gF hN hv hd hcd) (pN hk.1) h3 m) ?_, fun i h => by cases h⟩
 rintro σ H Q ⟨F, ρ, r, ρ', g, e, k⟩
 rw [HH.ev] at e
 split at e
 . rename_i m0 q
   obtain ⟨nC, ρ1, e1, eA⟩ := ak e; clear e
   obtain ⟨dd, ρ2, e2, eB⟩ := ak eA; clear eA
   obtain ⟨a0, o0, w1, w2, w3, w4⟩ := g.own i _ _ q rfl
   refine ⟨.ref a0, w1, a0, rfl, ?_, ?_⟩
   . cases (show o0 = m0.ho from w4)
     cases m0 with
     | k kvs => exact .inl ⟨_, .inl w2⟩
     | t kvs => exact .inr ⟨_, .inl w2⟩
   . refine ⟨F, ρ, nC, ρ1, g, e1, fun vs F1 H1 s1 rs => ⟨by rw [rs.length, gY e1]; exact hz, fun p hp => ?_⟩⟩
     have x1 := GC (xs := vs) s1.gs.sub hp
     have YG := s1.trans (x1.stp s1.gs)
     refine h4 YG.gs e2 fun z F2 H2 s2 pz => ?_
     split at eB
     . rename_i m1 q1
       obtain ⟨eC, e3⟩ := aF eB; clear eB
       subst e3
       obtain ⟨o, e4, eD⟩ := dw eC; clear eC
       obtain ⟨w, e5, e6⟩ := map_some eD
       subst e6
       obtain ⟨a1, o1, y1, y2, y3, y4⟩ := s2.gs.own i _ _ q1 rfl
       rw [w1] at y1; cases y1
       cases (show o1 = m1.ho from y4)
       rw [dY e5] at pz
       rw [pz.int]
       refine ⟨o.map V.int, zZ (.inl y2) rs (s2.gs.sub _ _ (s2.cW _ _ aQ)) e4, ?_⟩
       have : (o.map V.int).getD (V.int w) = V.int (o.getD w) := by cases o <;> rfl
       rw [this]
       exact k _ F2 H2 (YG.trans s2) (show Rep X.K F2 _ _ from cA _)
     . cases eB
 . cases e
theorem zR {i : Nat} {x : Str} {pos' p2 : Pos} (hN : X.N.Nodup) (hi : X.N[i]? = some x) (hx : Loc X.env.scope x) (hs : swapsWith (.Dict [] [] p2) (some (.Name x pos')) pos.line X.env = pure false := by rfl)
 (hf : X.fn x = true \/ X.env.scope.names.lookup x = some .local := by first | exact .inl rfl | exact .inr rfl | assumption) : SS X c n (.Assign [.Name x pos'] (.Dict [] [] p2) pos) (.Ek i true) := by
 refine eY (zj hN hi hx Ai hs hf) ?_
 rintro D σ H ⟨F, ρ, fl, ρ', g, e, k⟩
 rw [ex] at e
 split at e
 . rename_i q
   cases e
   exact fun a ha => k F _ _ (g.newD (m := .t []) q ha)
 . cases e
theorem zJ {i : Nat} {x : Str} {px pos' : Pos} (hu : X.A.units + 8 < cLine) (hN : X.N[i]? = some x) (hv : xX X.env.scope x) (hk : SA X c es ps) (he : SX X c e p) (hs : swapsWith e (some (.Subscript (.Name x px) (.Tuple es x1 tpos) pos')) pos.line X.env = pure false := by rfl) (hz : ps.length <= sizeLine := by decide)
 (hd : (x == ("__debug__" : Str)) = false := by decide) (hcd : (x == ("__classdict__" : Str)) = false := by decide) : SS X c n (.Assign [.Subscript (.Name x px) (.Tuple es x1 tpos) pos'] e pos) (.wu i ps p) := by
 refine eY (Cu (by omega) (gF hN hv hd hcd) (pN hk.1) he.ev hs) ?_
 rintro D σ H ⟨F, ρ, fl, ρ', g, e, k⟩
 rw [ex] at e
 obtain ⟨r, ρ1, e1, eA⟩ := ak e; clear e
 refine ⟨F, ρ, r, ρ1, g, e1, fun v F1 H1 s1 rr => ?_⟩
 split at eA
 . rename_i m0 q0
   obtain ⟨nC, ρ2, e2, eB⟩ := ak eA; clear eA
   obtain ⟨a0, o0, w1, w2, w3, w4⟩ := s1.gs.own i _ _ q0 rfl
   refine ⟨.ref a0, w1, F1, ρ1, nC, ρ2, s1.gs, e2, fun vs F2 H2 s2 rs => ⟨by rw [rs.length, gY e2]; exact hz, fun q hq => ?_⟩⟩
   have x1 := GC (xs := vs) s2.gs.sub hq
   have WX := s2.trans (x1.stp s2.gs)
   split at eB
   . rename_i m w q1
     split at eB
     . rename_i m' e4
       cases eB
       obtain ⟨a1, o1, y1, y2, y3, y4⟩ := WX.gs.own i _ _ q1 rfl
       rw [w1] at y1; cases y1
       cases (show o1 = m.ho from y4)
       cases (show v = .int w by have : Rep X.K F1 v (.int w) := rr; rwa [Rep] at this)
       refine ⟨a0, upd (upd H2 q (.tup vs)) a0 m'.ho, rfl, ?_, k _ σ _ ((s1.trans WX).trans (WX.gs.Vk q1 w1))⟩
       cases m with
       | k kvs => cases e4
       | t kvs =>
         obtain ⟨⟨ho, hl⟩, e4⟩ := bh (show (if nC.all cL = true /\ kvs.length < lim then some (Dc.t (putD kvs (nC.map dX) w)) else none) = some m' from e4)
         subst e4
         refine .inr ⟨kvs.map Al, (nC.map dX).map Sum.inl, q, y2, rfl, ?_, by rw [List.length_map, sizeLine_eq]; exact hl, ?_⟩
         . rw [kZ, <- Ag rs ho]; exact aQ
         . rw [JT]; rfl
     . cases eB
   . cases eB
 . cases eA
theorem Ot {i : Nat} {x : Str} {px : Pos} (hN : X.N[i]? = some x) (hv : xX X.env.scope x) (hd : (x == ("__debug__" : Str)) = false := by decide) (hcd : (x == ("__classdict__" : Str)) = false := by decide) : SX X c (.Name x px) (.vw i) := by
 have h := gF (X := X) (pos := px) hN hv hd hcd
 refine ⟨?_, fun i h => by cases h⟩
 rintro pins s σ H Q I ⟨F, ρ, r, ρ', g, e, k⟩
 rw [HH.ev] at e
 split at e
 . rename_i m q
   cases e
   obtain ⟨a, h1, h2, h3⟩ := g.vC q
   refine cJ (h pins s σ H (fun v H' => v = .ref a /\ H' = H) I ⟨.ref a, h1, rfl, rfl⟩) fun u s1 ⟨v, H1, I1, r1, e1, e2⟩ => ?_
   subst e1 e2
   have zz : ∃ o, L2.Inv X pins σ (upd H1 a (.gR o m.ho)) s1 := by
    cases m with
    | k kvs => exact Inv.Qg I1 h2
    | t kvs => exact Inv.Ud I1 h2
   obtain ⟨o, I2⟩ := zz
   exact ⟨.ref a, _, I2, r1, k _ _ _ (h3 o).1 (h3 o).2⟩
 . cases e
end
end HH
end
section
namespace HH
open PySem L2 PySem.Spec PyProof.Rows PySem.Calls PySem.W
noncomputable def jq (h : Heap) (d : Addr) (es : Array DictEntry) (ep : Nat) : Prop := ∃ o, h.get? d = some o /\ o.ExactDict /\ o.data = .dict es ep
section
variable {prog : Program} {w : World} {A : Around} {E : Value -> Shared -> Prop} {s : Shared} {d it : Addr} {es : Array DictEntry} {ep i : Nat}
theorem jq.ty (r : jq s.heap d es ep) : s.TypeIs (.ref d) "dict" := let ⟨o, h1, h2, _⟩ := r; ⟨o, h1, h2.1⟩
theorem jq.lt {h : Heap} (r : jq h d es ep) : d < h.objs.size := let ⟨_, h1, _⟩ := r; Heap.lt_size h1
theorem jq.at {h h' : Heap} (r : jq h d es ep) (k : ∀ o, h.get? d = some o -> h'.get? d = some o) : jq h' d es ep := let ⟨o, h1, q⟩ := r; ⟨o, k o h1, q⟩
theorem zm {Q : Value -> Shared -> Prop} (lo : (d == sysModules) = false) (r : jq s.heap d es ep)
 (q : Q (.ref s.heap.objs.size) { s with heap := s.heap.push { cls := .type "dict_keyiterator", data := .fields #[.ref d, .int 0 0, .int es.size 0, .int ep 0] } }) : wpAny (model prog w) A (pyIter (.ref d)) Q E s := by
 obtain ⟨ob, g1, g2, g3⟩ := id r
 refine wpAny_pyIter_slot r.ty PySem.F.slot_dict_iter (wpAny_call_entry PySem.F.slot_dict_iter r.ty PySem.F.entry_dict_iter ?bd (PySem.F.args_dict_iter_1 _))
 unfold Builtin.«dict.__iter__» Builtin.Dict.dictSlotNone
 refine wpAny_bind (wpAny_bind (wpAny_notOrdered_dict r.ty ?_))
 show wpAny _ _ (pure (Value.ref d)) _ _ s
 refine wpAny_pure ?_
 show wpAny _ _ (Builtin.Dict.showsAll d >>= _) _ _ s
 unfold Builtin.Dict.showsAll
 rw [if_neg (fun z => Bool.false_ne_true (lo.symm.trans z))]
 refine wpAny_bind (wpAny_pure (wpAny_bind (wpAny_dictEntries g1 g3 (wpAny_bind (wpAny_dictEpoch g1 g3 ?_)))))
 refine wpAny_bind (wpAny_newObj_type (wpAny_pure ⟨_, rfl, "dict_keyiterator", _, ⟨_, Heap.get?_push_size _ rfl, rfl⟩, PySem.F.slot_dict_keyiterator_next.lookup, ?_⟩))
 simpa [rawInt] using q
theorem yH {Q : Option Value -> Shared -> Prop} (hit : s.heap.IsKeyIter it d i es.size ep) (r : jq s.heap d es ep) (hi : i < es.size)
 (q : ∀ h', h'.IsKeyIter it d (i + 1) es.size ep -> Heap.SameBut it s.heap h' -> Q (some es[i].key) { s with heap := h' }) : wpAny (model prog w) A (pyNext (.ref it)) Q E s := by
 obtain ⟨oi, i1, i2, i3⟩ := id hit
 obtain ⟨ob, g1, g2, g3⟩ := id r
 unfold pyNext
 refine wpAny_bind (wpAny_attempt (wpAny_callSpecial?_slot (name := Str.ofString "__next__") hit.typeIs PySem.F.slot_dict_keyiterator_next (wpAny_call_entry PySem.F.slot_dict_keyiterator_next hit.typeIs PySem.F.entry_dict_keyiterator_next ?bd (PySem.F.args_dict_keyiterator_next_1 _))))
 refine wpAny_bind (wpAny_pure (wpAny_bind (wpAny_bind ?_)))
 first | refine wpAny_bind (wpAny_typeNameOfWhole_keyiter hit.typeIs (wpAny_pure (wpAny_bind (wpAny_fieldsOf i1 i3 ?_)))) | refine wpAny_bind (wpAny_typeNameOf_keyiter hit.typeIs (wpAny_pure (wpAny_bind (wpAny_fieldsOf i1 i3 ?_))))
 simp only [show Builtin.Dict_items.ownsTuple "dict_keyiterator" = false by decide, Bool.false_eq_true, if_false]
 show wpAny _ _ (if (Value.ref d == Value.none) = true then _ else _) _ _ s
 rw [if_neg (fun z : (Value.ref d == Value.none) = true => Bool.false_ne_true z)]
 refine wpAny_bind (wpAny_pure (wpAny_bind (wpAny_dictEntries g1 g3 ?_)))
 rw [if_neg (by simp)]
 refine wpAny_bind (wpAny_pure (wpAny_bind (wpAny_dictEpoch g1 g3 ?_)))
 rw [if_neg (by simp)]
 refine wpAny_pure ?_
 simp only [show ¬ ((i : Int) < 0) from by omega, if_false, Int.toNat_natCast, Array.getElem?_eq_getElem hi]
 refine wpAny_bind ?_
 first | refine wpAny_bind (wpAny_typeNameOfWhole_keyiter hit.typeIs (wpAny_pure (wpAny_bind (wpAny_isOneOf_keyiter hit.typeIs ?_)))) | refine wpAny_bind (wpAny_typeNameOf_keyiter hit.typeIs (wpAny_pure (wpAny_bind (wpAny_isOneOf_keyiter hit.typeIs ?_))))
 show wpAny _ _ (setField (.ref it) 1 (rawInt ((i : Int) + 1)) >>= _) _ _ s
 refine wpAny_bind (wpAny_setField i1 i3 (by simp) ?_)
 have on : (s.heap.update it (Obj.mapFields (·.setIfInBounds 1 (rawInt ((i : Int) + 1))))).IsKeyIter it d (i + 1) es.size ep :=
  ⟨_, Heap.get?_update_self _ i1 (Obj.isFreed_of_fields (Obj.data_mapFields i3 _)), (Obj.cls_mapFields ..).trans i2, by rw [Obj.data_mapFields i3]; simp [rawInt]⟩
 refine wpAny_bind (wpAny_holding (wpAny_bind (wpAny_isOneOf_keyiter (s := { s with heap := s.heap.update it (Obj.mapFields (·.setIfInBounds 1 (rawInt ((i : Int) + 1)))) }) on.typeIs ?_)))
 show wpAny _ _ (pure es[i].key) _ _ _
 exact wpAny_pure (wpAny_pure ⟨_, rfl, wpAny_pure (q _ on (Heap.SameBut.update ..))⟩)
theorem Dr {Q : Option Value -> Shared -> Prop} (hh : A.handled = none) (hit : s.heap.IsKeyIter it d es.size es.size ep) (r : jq s.heap d es ep) (q : ∀ h', Heap.ExtBut it s.heap h' -> Q none { s with heap := h' }) : wpAny (model prog w) A (pyNext (.ref it)) Q E s := by
 obtain ⟨oi, i1, i2, i3⟩ := id hit
 obtain ⟨ob, g1, g2, g3⟩ := id r
 unfold pyNext
 refine wpAny_bind (wpAny_attempt (wpAny_callSpecial?_slot (name := Str.ofString "__next__") hit.typeIs PySem.F.slot_dict_keyiterator_next (wpAny_call_entry PySem.F.slot_dict_keyiterator_next hit.typeIs PySem.F.entry_dict_keyiterator_next ?bd (PySem.F.args_dict_keyiterator_next_1 _))))
 refine wpAny_bind (wpAny_pure (wpAny_bind (wpAny_bind ?_)))
 first | refine wpAny_bind (wpAny_typeNameOfWhole_keyiter hit.typeIs (wpAny_pure (wpAny_bind (wpAny_fieldsOf i1 i3 ?_)))) | refine wpAny_bind (wpAny_typeNameOf_keyiter hit.typeIs (wpAny_pure (wpAny_bind (wpAny_fieldsOf i1 i3 ?_))))
 simp only [show Builtin.Dict_items.ownsTuple "dict_keyiterator" = false by decide, Bool.false_eq_true, if_false]
 show wpAny _ _ (if (Value.ref d == Value.none) = true then _ else _) _ _ s
 rw [if_neg (fun z : (Value.ref d == Value.none) = true => Bool.false_ne_true z)]
 refine wpAny_bind (wpAny_pure (wpAny_bind (wpAny_dictEntries g1 g3 ?_)))
 rw [if_neg (by simp)]
 refine wpAny_bind (wpAny_pure (wpAny_bind (wpAny_dictEpoch g1 g3 ?_)))
 rw [if_neg (by simp)]
 refine wpAny_pure ?_
 simp only [show ¬ ((es.size : Int) < 0) from by omega, if_false, Int.toNat_natCast, Array.getElem?_eq_none (Nat.le_refl es.size)]
 refine wpAny_bind ?_
 first | refine wpAny_bind (wpAny_typeNameOfWhole_keyiter hit.typeIs (wpAny_pure ?_)) | refine wpAny_bind (wpAny_typeNameOf_keyiter hit.typeIs (wpAny_pure ?_))
 show wpAny _ _ (setField (.ref it) 0 .none >>= _) _ _ s
 refine wpAny_bind (wpAny_setField i1 i3 (by simp) ?_)
 show wpAny _ _ (newExc (.type "StopIteration") [] >>= _) _ _ _
 refine wpAny_bind ?_
 simp only [newExc, newTuple]
 refine wpAny_bind (wpAny_newObj_type ?_ (by size_fits))
 refine wpAny_bind (m := firstArgMember _ _) (wpAny_of_eq (a := Value.none) (by first | rfl | (simp only [firstArgMember]; rfl)) (wpAny_newObj_type ?_ (by size_fits)))
 simp only [raiseNew]
 refine wpAny_bind (wpAny_handled ?_)
 rw [(hh : A.in1.handled = none)]
 refine wpAny_bind (wpAny_pure (wpAny_throw (wpAny_bind ?_)))
 refine wpAny_isInstance (T := "StopIteration") (b := true) ⟨_, Heap.get?_push_size _ rfl, rfl⟩ isSubtype_stop ?_
 exact wpAny_pure (q _ (((Heap.SameBut.update ..).extBut.push _).push _))
theorem xr (hh : A.handled = none) (J d : Addr) (hne : d ≠ J) (es : Array DictEntry) (ep : Nat) :
 Walks prog w A J [J, d] [J] es.size (fun i v => ∃ e, es[i]? = some e /\ v = e.key) (fun i h => h.IsKeyIter J d i es.size ep /\ jq h d es ep) where
 sub := fun b hb => by simp at hb; simp [hb]
 frame := fun _ _ _ st hk => ⟨st.1.at fun o e => hk J (by simp) o e, st.2.at fun o e => hk d (by simp) o e⟩
 item := fun i s Q E hi st hQ => yH st.1 st.2 hi fun h' hit' hs' => hQ _ h' s.toks ⟨es[i], by simp [hi], rfl⟩ ⟨hit', st.2.at fun o e => hs'.extBut d o hne e⟩ fun b o hb e => hs'.extBut b o (fun h => hb (by simp [h])) e
 done := fun s Q E st hQ => Dr hh st.1 st.2 fun h' he' => hQ h' s.toks fun b o hb e => he' b o (fun h => hb (by simp [h])) e
 self := fun _ _ _ _ st hQ => wpAny_pyIter_keyiter st.1 hQ
theorem Eh (lo : (d == sysModules) = false) : KdlSrc prog w "dict" d d es.size (fun i v => ∃ e, es[i]? = some e /\ v = e.key) (fun h => jq h d es ep) where
 type := fun _ r => r.ty
 there := fun _ r => ⟨r.lt, r.lt⟩
 keep := fun _ _ r hk => r.at fun o e => hk d (.inl rfl) o e
 notList := by decide
 notTuple := by decide
 hint := fun _ _ _ _ r hq => kdl_hint_dict r.ty hq
 iter := fun _ _ hh r => ⟨_, _, (fun _ _ hq => zm lo r hq), xr hh _ d (Nat.ne_of_lt r.lt) es ep, ⟨⟨_, Heap.get?_push_size _ rfl, rfl, rfl⟩, r.at fun o e => Heap.get?_push_of_some _ e⟩⟩
theorem rF {Q : List Value -> Shared -> Prop} (hh : A.handled = none) (lo : (d == sysModules) = false) (r : jq s.heap d es ep) (hn : es.size <= sizeLine)
 (hQ : ∀ h' tk acc, (∀ b o, s.heap.get? b = some o -> h'.get? b = some o) -> s.heap.objs.size < h'.objs.size -> ItemsOf (fun i v => ∃ e, es[i]? = some e /\ v = e.key) acc es.size -> Q acc.toList { s with heap := h', toks := tk }) :
 wpAny (model prog w) A (collect (.ref d)) Q E s := by
 have hlt := r.lt
 unfold collect
 refine wpAny_bind (wpAny_runValue (codeAny_builtin F.entry_proto_collect ?_))
 rw [Around.under_plainId F.plain_proto_collect _]
 show wpAny _ A.in1 (newList [] >>= fun l => again (.builtin "list.__iadd__" ⟨[l, .ref d], []⟩)) _ _ s
 refine wpAny_bind (wpAny_newObj_type ?_)
 refine wpAny_pure ⟨plainId_quiet F.plain_list_iadd _, codeAny_builtin F.entry_list_iadd ?_⟩
 rw [Around.under_plainId F.plain_list_iadd _]
 show wpAny _ A.in1 (Builtin.List.listExtendWith (.ref s.heap.objs.size) (.ref d) (.ref s.heap.objs.size)) _ _ _
 refine kdl_extend (A := A) (R := fun r s' => match r with
  | .ok (.ret v) => wpAny (model prog w) A (match v with
   | .ref a => do
     let o <- load a
     match o.data with
      | .seq xs _ => pure xs.toList
      | _ => unsupported "internal:collect"
   | _ => unsupported "internal:collect") Q E s'
  | .ok _ => False
  | .error e => E e s') (s := { s with heap := s.heap.push { cls := .type "list", data := .seq #[] } }) (Eh (es := es) (ep := ep) lo) hh (r.at fun o e => Heap.get?_push_of_some _ e) s.heap.objs.size (Nat.ne_of_gt hlt) (Nat.ne_of_gt hlt) _ 0 (Heap.get?_push_size _ rfl) (fun h' tk acc c' hk hS hacc => ?_) hn
 refine wpAny_bind (wpAny_load hS ?_)
 exact wpAny_pure (hQ h' tk acc (fun b o e => hk b o (Nat.ne_of_lt (Heap.lt_size e)) (Heap.get?_push_of_some _ e)) (Heap.lt_size hS) hacc)
end
end HH
end
section
namespace HH
open PySem L2 PySem.Spec PyProof.Rows PySem.Calls PySem.W
noncomputable def mV (F H : Hp) (bs : List Addr) : Hp := fun b => if b ∈ bs then H b else F b
theorem wG {F H : Hp} {bs : List Addr} (sm : aK F H) (ht : ∀ b ∈ bs, ∃ xs, H b = some (.tup xs)) : Ext F H (mV F H bs) H := by
 refine ⟨.refl _, fun b o e => ?_, fun b o e => ?_, fun b n n' => ?_⟩
 . unfold mV; split
   . exact sm b o e
   . exact e
 . unfold mV at e; split at e
   . exact e
   . exact sm b o e
 . unfold mV at n'; split at n'
   . rename_i hb; obtain ⟨xs, e⟩ := ht b hb; rw [e]; rfl
   . exact absurd n n'
theorem Ext.Jy {F H F1 F2 H2 : Hp} (a : Ext F H F1 H) (b : Ext F1 H F2 H2) : Ext F H F2 H2 := by
 refine ⟨b.hs, a.fs.trans b.fs, b.sub, fun c n n' => ?_⟩
 by_cases e : F1 c = none
 . exact b.gr c e n'
 . exact a.gr c n e
theorem yu {H : Hp} : ∀ {kvs : List (List Int × Int)} {ts : List (List Key × Addr × Value)}, KT H (kvs.map Al) ts -> ∀ t ∈ ts, ∃ k : List Int, H t.2.1 = some (.tup (k.map V.int))
 | [], _, .nil, t, h => by cases h
 | p :: kvs, _, .cons r q, t, h => by
   rcases List.mem_cons.mp h with rfl | h
   . exact ⟨p.1, by rw [<- kZ]; exact r.2.1⟩
   . exact yu q t h
theorem vM {K : PySem.W.Frag} {F H : Hp} : ∀ {kvs : List (List Int × Int)} {ts : List (List Key × Addr × Value)}, KT H (kvs.map Al) ts -> (∀ t ∈ ts, F t.2.1 = H t.2.1) -> az K F (ts.map fun t => V.ref t.2.1) (kvs.map fun p => D.tup (p.1.map D.int))
 | [], _, .nil, _ => .nil
 | p :: kvs, _, .cons (b := t) r q, h => by
   refine .cons ?_ (vM q fun t ht => h t (List.mem_cons_of_mem _ ht))
   rw [Rep]
   exact ⟨_, p.1.map V.int, rfl, iG.of (by rw [h t (by simp), <- kZ]; exact r.2.1), nZ _⟩
theorem oO {β : Type} {f : β -> Addr} : ∀ ts : List β, Vals (ts.map fun t => V.ref (f t)) (ts.map fun t => Value.ref (f t))
 | [] => .nil
 | t :: ts => .cons rfl (oO ts)
theorem uo {es : Array DictEntry} {acc : Array Value} {ts : List (List Key × Addr × Value)} (he : es.toList.map (·.key) = ts.map fun t => Value.ref t.2.1) (h : ItemsOf (fun i v => ∃ e, es[i]? = some e /\ v = e.key) acc es.size) : acc.toList = ts.map fun t => Value.ref t.2.1 := by
 rw [<- he]
 refine List.ext_getElem? fun i => ?_
 rw [List.getElem?_map, Array.getElem?_toList, Array.getElem?_toList]
 cases q : acc[i]? with
 | none =>
   have : es[i]? = none := by
    rw [Array.getElem?_eq_none_iff] at q ⊢
    rw [<- h.1]; exact q
   rw [this]; rfl
 | some v =>
   obtain ⟨e, e1, e2⟩ := h.2 i v q
   rw [e1, e2]; rfl
section
variable {X : Cx} {c : Call} {a : Expr} {pa : P} {pos : Pos}
theorem zO (hc : X.calm = true) : cV X (.builtin "sorted") (Gg X.K fun x => blt .mX [x]) := by
 rintro pins s σ H xs us Q I r ⟨x, hx, F, d, r', sm, px, he, k⟩
 obtain ⟨kvs, rfl⟩ : ∃ kvs, d = .cD (.t kvs) := by
  cases d with
  | cD m => cases m with
    | t kvs => exact ⟨kvs, rfl⟩
    | k kvs => cases he
  | _ => cases he
 obtain ⟨so, he⟩ := bh (show (if sortable (kvs.map fun p => D.tup (p.1.map D.int)) = true then some (R.own (gZ (kvs.map fun p => D.tup (p.1.map D.int)))) else none) = some r' from he)
 subst he
 obtain ⟨q, ob, rfl, hq⟩ := px.cD sm
 subst hx
 obtain ⟨u, rfl, rx⟩ := r.one
 cases rx
 obtain ⟨ho, hz, hS, ts, rv, o', es, ep, g1, g2, g3, g4, g5⟩ := (show bL X.prog X.w H s.heap q (.gR ob (.dT (kvs.map Al))) from I.hok q _ hq)
 have raw : jq s.heap q es ep := ⟨o', g1, g2, g3⟩
 have hts : ts.length = kvs.length := by rw [<- Paired.length rv, List.length_map]
 have hes : es.size = kvs.length := by rw [<- Array.length_toList, g4, List.length_map, hts]
 have hke : es.toList.map (·.key) = ts.map fun t => Value.ref t.2.1 := by rw [g4, List.map_map]; rfl
 have so' := so
 simp only [sortable, Bool.and_eq_true, Bool.or_eq_true, decide_eq_true_eq, List.length_map] at so'
 have h64 := so'.1
 have hot : (kvs.map fun p => D.tup (p.1.map D.int)).all kE = true := by
  rcases so'.2 with h | h
  . cases kvs with
    | nil => rfl
    | cons p kvs => simp [cL] at h
  . exact h
 generalize hds : (kvs.map fun p => D.tup (p.1.map D.int)) = ds at *
 have WT : ds.length = kvs.length := by rw [<- hds, List.length_map]
 refine Calls.call_function_entry kind_sorted plain_sorted entry_sorted (args_sorted1 _) ?_
 unfold Builtin.«sorted»
 refine wpAny_bind (m := checkCount "sorted" 1 1 _) (wpAny_pure ?_)
 refine wpAny_bind (rF (A := X.A.in1) (I.ok.hd hc) hS raw (by rw [hes, sizeLine_eq]; omega) fun h1 tk acc kp hsz hacc => ?_)
 have hia := uo hke hacc
 have hla : acc.toList.length = kvs.length := by rw [hia, List.length_map, hts]
 have e0 : Ext F H (mV F H (ts.map (·.2.1))) H := wG sm fun b hb => by
  obtain ⟨t, ht, rfl⟩ := List.mem_map.mp hb
  obtain ⟨ks, e⟩ := yu rv t ht
  exact ⟨_, e⟩
 have rs : az X.K (mV F H (ts.map (·.2.1))) (ts.map fun t => V.ref t.2.1) ds := by
  rw [<- hds]
  exact vM rv fun t ht => if_pos (List.mem_map.mpr ⟨t, ht, rfl⟩)
 have vv : Vals (ts.map fun t => V.ref t.2.1) acc.toList := by rw [hia]; exact oO ts
 have tt : Paired (kJ s.heap) acc.toList ds := pG I e0.sub rs vv hot
 generalize acc.toList = its at hla vv tt
 generalize mV F H (ts.map (·.2.1)) = F1 at e0 rs
 generalize hys : (ts.map fun t => V.ref t.2.1) = ys at rs vv
 refine wpAny_bind (wpAny_newList ?_ (by rw [sizeLine_eq]; omega))
 have hsz := Nat.le_of_lt hsz
 generalize hG : (h1.push { cls := .type "list", data := .seq its.toArray } : Heap) = H2
 have ho2 : H2.get? h1.objs.size = some (seqObj "list" its.toArray 0) := by rw [<- hG]; exact Heap.get?_push_size _ rfl
 have mZ : ∀ b o, s.heap.get? b = some o -> H2.get? b = some o := fun b o e => by rw [<- hG]; exact Heap.get?_push_of_some _ (kp b o e)
 have hne : ∀ b o, s.heap.get? b = some o -> b ≠ h1.objs.size := fun b o e => Nat.ne_of_lt (Heap.lt_size (kp b o e))
 show wpAny _ _ _ _ _ { s with heap := H2, toks := tk }
 refine wpAny_bind (wpAny_holding (wpAny_call_entry slot_list_sort ⟨_, ho2, rfl⟩ entry_list_sort ?body (args_list_sort _)))
 case body =>
  refine nF (s := { s with heap := H2, toks := tk }) (κ := tuples' (Value.type "int" != Value.type "tuple")) ho2 so (by omega) tt vR (fun h' k' C hC h2 => ?_) (fun h' k' u v d e hd he C hC => ?_) fun h' cc p k' p1 p2 e => ?_
  . exact oR (s := { s with heap := h', toks := tk }) (jT (fun b o z => k' b o (hne b o z) (mZ b o z)) tt) h2 hC
  . have kk : ∀ b o, s.heap.get? b = some o -> h'.get? b = some o := fun b o z => k' b o (hne b o z) (mZ b o z)
    exact vZ (s := { s with heap := h', toks := tk }) (fG kk hd) (fG kk he) hC
  . refine ⟨_, rfl, wpAny_pure ⟨_, rfl, ?_⟩⟩
    have kk : ∀ b o, s.heap.get? b = some o -> h'.get? b = some o := fun b o z => k' b o (hne b o z) (mZ b o z)
    refine ⟨.ref h1.objs.size, _, I.laid (t' := tk) (o := .lst (pick .non p ys)) (h' := h') kk hsz ⟨by rw [jB p1, hla, sizeLine_eq]; omega, pick .none p its, cc, rE vv, e⟩, rfl, ?_⟩
    have WW : az X.K F1 (pick .non p ys) (gZ ds) := by rw [<- p2]; exact rZ rs
    exact tW e0.sub WW (I.hok.fresh hsz) fun v F2 H2 x rn => k v F2 H2 (e0.Jy x) rn
theorem xq {x : Str} {p' : Pos} (hx : x = "sorted") (hc : X.calm = true) (hg : Gl X x) (hm : X.mg x = none) (ha : SX X c a pa) (hs : starEach [a] X.env = (false, eval a X.env) :: starEach [] X.env := by rfl) : SX X c (.Call (.Name x p') [a] [] pos) (.blt .mX [pa]) := by
 subst hx; exact lK (fun h => dh (zO hc) hg hm boot_sorted h (he := hs)) ha (fun ρ => by rw [HH.ev]) rfl hs
end
end HH
end
section
namespace HH
open PySem L2 PySem.Spec PyProof.Rows
section
variable {K : PySem.W.Frag} {F H F' H' : Hp} {ρ ρ' : List Sl} {σ σ' : L2.St}
noncomputable def Kp (ρ : List Sl) (σ : L2.St) (H : Hp) (a : Addr) (o : HO) : Prop := H a = some o /\ ¬ Own ρ σ a
theorem Kp.stp {a : Addr} {o : HO} (h : Kp ρ σ H a o) (s : bB K F ρ σ H F' ρ' σ' H') : Kp ρ' σ' H' a o :=
 ⟨s.keep a o h.1 h.2, fun z => (s.uJ a z).elim h.2 fun e => by rw [h.1] at e; cases e⟩
theorem Dy {i : Nat} {v : V} {s : Sl} {b : Addr} (h : Own (ρ.set i s) (σ.set i (some v)) b) : v = .ref b \/ Own ρ σ b := by
 obtain ⟨j, ⟨s', ds', e, e'⟩, e1⟩ := h
 rw [List.getElem?_set] at e e1
 by_cases c : i = j
 . rw [if_pos c] at e1
   split at e1
   . cases e1; exact .inl rfl
   . cases e1
 . rw [if_neg c] at e e1
   exact .inr ⟨j, ⟨s', ds', e, e'⟩, e1⟩
theorem Kp.put {a : Addr} {o : HO} {i : Nat} {v : V} {s : Sl} (h : Kp ρ σ H a o) (hv : v ≠ .ref a) : Kp (ρ.set i s) (σ.set i (some v)) H a o :=
 ⟨h.1, fun z => (Dy z).elim hv h.2⟩
structure Wt (K : PySem.W.Frag) (F : Hp) (ρ : List Sl) (σ : L2.St) (H : Hp) (a : Addr) (ds : List D) : Prop where
 ex : ∃ xs, Kp ρ σ H a (.lst xs) /\ az K F xs ds
 fr : F a = none
theorem Wt.stp {a : Addr} {ds : List D} (h : Wt K F ρ σ H a ds) (s : bB K F ρ σ H F' ρ' σ' H') : Wt K F' ρ' σ' H' a ds := by
 obtain ⟨⟨xs, h1, h2⟩, h3⟩ := h
 refine ⟨⟨xs, h1.stp s, h2.mono s.cW⟩, ?_⟩
 cases q : F' a with
 | none => rfl
 | some o =>
   rcases s.xQ a h3 (by rw [q]; simp) with z | z
   . exact absurd z h1.2
   . rw [h1.1] at z; cases z
theorem Wt.put {a : Addr} {ds : List D} {i : Nat} {v : V} {s : Sl} (h : Wt K F ρ σ H a ds) (hv : v ≠ .ref a) : Wt K F (ρ.set i s) (σ.set i (some v)) H a ds := by
 obtain ⟨⟨xs, h1, h2⟩, h3⟩ := h
 exact ⟨⟨xs, h1.put hv, h2⟩, h3⟩
end
section
variable {X : Cx} {c : Call} {n : Nat} {a b : Expr} {pa pb : P} {pos : Pos} {body : List Stmt} {ss : List S}
theorem Bu {i : Nat} {x : Str} {pos' QV : Pos} (hp : PassesOwn (model X.prog X.w) X.A X.env X.xe) (hc : X.calm = true) (hN : X.N.Nodup) (hx0 : X.N[i]? = some x) (hx : Loc X.env.scope x) (ha : SX X c a pa) (hb2 : SX X c b pb) (hb : SB X c n body ss)
 (hs1 : starEach [a, b] X.env = (false, eval a X.env) :: starEach [b] X.env := by rfl) (hs2 : starEach [b] X.env = (false, eval b X.env) :: starEach [] X.env := by rfl)
 (hs : ∀ x, foldedSetIterable (.List [a, b] QV) X.env x = pure x := by intro _; rfl) (hf : X.fn x = true \/ X.env.scope.names.lookup x = some .local := by first | exact .inl rfl | exact .inr rfl | assumption) : SS X c n (.For (.Name x pos') (.List [a, b] QV) body [] pos) (.El i pa pb ss) := by
 refine eY (yM hp hc (uv (zV (bT ha.ev (bT hb2.ev gb hs2) hs1))) (aG hN hx0 hx hf) hb hs) ?_
 rintro E σ H ⟨F, ρ, fl, ρ', g0, e, k⟩
 rw [ex] at e
 obtain ⟨r, ρ1, e1, ea⟩ := ak e; clear e
 obtain ⟨u, ρ2, e2, e⟩ := ak ea; clear ea
 cases r with
 | val _ => cases e
 | own ds =>
 cases u with
 | val _ => cases e
 | own es =>
 replace e : iB i (fc c n ss) [ds, es] ρ2 = .ok fl ρ' := e
 refine ⟨F, ρ, .own ds, ρ1, g0, e1, fun v1 F1 H1 s1 r1 => ⟨F1, ρ1, .own es, ρ2, s1.gs, e2, fun v2 F2 H2 s2 r2 => ?_⟩⟩
 refine ⟨by show 2 <= sizeLine; rw [sizeLine_eq]; omega, fun q hq => ⟨q, rfl, .inl ⟨⟨[v1, v2], dW.of aQ⟩, ?_⟩⟩⟩
 obtain ⟨a1, xs1, rfl, b1, b2, b3, b4, b5⟩ := r1
 obtain ⟨a2, xs2, rfl, c1, c2, c3, c4, c5⟩ := r2
 have w1 : Wt X.K F2 ρ2 σ H2 a1 ds := Wt.stp ⟨⟨xs1, ⟨b1, b4⟩, b3⟩, b2⟩ s2
 have w2 : Wt X.K F2 ρ2 σ H2 a2 es := ⟨⟨xs2, ⟨c1, c4⟩, c3⟩, c2⟩
 have n12 : a1 ≠ a2 := by
  rintro rfl
  rcases c5 with z | z
  . exact b4 z
  . rw [b1] at z; cases z
 have c6 : Own ρ σ a2 \/ H a2 = none := by
  rcases c5 with z | z
  . exact s1.uJ _ z
  . by_cases ho : Own ρ σ a2
    . exact .inl ho
    . right
      cases y : H a2 with
      | none => rfl
      | some o => rw [s1.keep a2 o y ho] at z; cases z
 have ne : ∀ {d : Addr} {zs : List D}, Wt X.K F2 ρ2 σ H2 d zs -> d ≠ q := by
  rintro d zs ⟨⟨xs, h1, _⟩, _⟩ rfl
  have := h1.1
  rw [hq] at this; cases this
 have ext : Ext F2 H2 F2 (upd H2 q (.lst [.ref a1, .ref a2])) := ⟨aK.bV hq, .refl _, s2.gs.sub.trans (aK.bV hq), fun _ a b => absurd a b⟩
 have s3 := ext.stp s2.gs
 have s03 := (s1.trans s2).trans s3
 have kq : Kp ρ2 σ (upd H2 q (.lst [.ref a1, .ref a2])) q (.lst [.ref a1, .ref a2]) := ⟨aQ, fun ⟨j, ⟨s', ds', y, y'⟩, y1⟩ => by
  obtain ⟨ad, o, z1, z2, _⟩ := s2.gs.own j s' ds' y y'
  rw [y1] at z1; cases z1
  rw [hq] at z2; cases z2⟩
 have w1' := w1.stp s3
 have w2' := w2.stp s3
 have nq1 := ne w1
 have nq2 := ne w2
 generalize upd H2 q (.lst [.ref a1, .ref a2]) = H3 at *
 -- a turn
 have turn : ∀ {A : Addr} {zs : List D} {rest : List (List D)} {Fj : Hp} {ρj : List Sl} {σj : L2.St} {Hj : Hp}, bB X.K F ρ σ H Fj ρj σj Hj -> Wt X.K Fj ρj σj Hj A zs -> (Own ρ σ A \/ H A = none) -> iB i (fc c n ss) (zs :: rest) ρj = .ok fl ρ' ->
  ∀ N : L2.St -> Hp -> Prop, (∀ F4 ρ4 σ4 H4 ρb, bB X.K F ρ σ H F4 ρ4 σ4 H4 -> (∃ s0, ρb = ρj.set i s0) -> bB X.K Fj ρb (σj.set i (some (.ref A))) Hj F4 ρ4 σ4 H4 -> iB i (fc c n ss) rest ρ4 = .ok fl ρ' -> N σ4 H4) ->
  Ol X.K (fc c n ss) { E with nx := N, ct := N, bk := E.nx } (σj.set i (some (.ref A))) Hj := by
  intro A zs rest Fj ρj σj Hj sj wj oj ej N YH
  obtain ⟨⟨xs, kj, rj⟩, fj⟩ := wj
  rw [iB] at ej
  cases hbd : HH.put ρj i (.own false zs) with
  | none => rw [hbd] at ej; cases ej
  | some ρb =>
    rw [hbd] at ej
    obtain ⟨flb, ρc, eb, ei⟩ := ak ej
    have sb := bB.put (r := .own zs) sj ⟨A, xs, rfl, kj.1, fj, rj, kj.2, oj⟩ hbd
    obtain ⟨s0, _, _, QW⟩ := mW hbd
    refine ⟨Fj, ρb, flb, ρc, sb.gs, eb, fun F4 σ4 H4 s4 => ?_⟩
    have s5 := sb.trans s4
    cases flb with
    | next => exact YH _ _ _ _ ρb s5 ⟨_, QW⟩ s4 ei
    | cont => exact YH _ _ _ _ ρb s5 ⟨_, QW⟩ s4 ei
    | brk =>
      cases ei
      exact k F4 σ4 H4 s5
    | ret r =>
      cases ei
      intro v rr
      exact k F4 σ4 H4 s5 v (rr.later sb)
 refine ⟨fun j m σj Hj => ∃ Fj ρj, bB X.K F ρ σ H Fj ρj σj Hj /\ Kp ρj σj Hj q (.lst [.ref a1, .ref a2]) /\
  ((j = 0 /\ m = 2 /\ Wt X.K Fj ρj σj Hj a1 ds /\ Wt X.K Fj ρj σj Hj a2 es /\ iB i (fc c n ss) [ds, es] ρj = .ok fl ρ') \/
  (j = 1 /\ m = 1 /\ Wt X.K Fj ρj σj Hj a2 es /\ iB i (fc c n ss) [es] ρj = .ok fl ρ') \/ (j = 2 /\ m = 0 /\ iB i (fc c n ss) [] ρj = .ok fl ρ')), ⟨2, F2, ρ2, s03, kq, .inl ⟨rfl, rfl, w1', w2', e⟩⟩, ?_⟩
 rintro j m σj Hj ⟨Fj, ρj, sj, kj, ⟨rfl, rfl, x1, x2, ej⟩ | ⟨rfl, rfl, x2, ej⟩ | ⟨rfl, rfl, ej⟩⟩
 . right
   refine ⟨⟨_, _, dW.of kj.1, rfl⟩, fun σ' H' => ∃ Fj ρj, bB X.K F ρ σ H Fj ρj σ' H' /\ Kp ρj σ' H' q (.lst [.ref a1, .ref a2]) /\ Wt X.K Fj ρj σ' H' a2 es /\ iB i (fc c n ss) [es] ρj = .ok fl ρ', ?_, ?_⟩
   . rintro σ' H' ⟨F4, ρ4, y1, y2, y3, y4⟩
     exact ⟨1, by omega, F4, ρ4, y1, y2, .inr (.inl ⟨rfl, rfl, y3, y4⟩)⟩
   . rintro y H' ⟨rfl, hy⟩
     have := hy _ (dW.of kj.1)
     cases this
     refine turn sj x1 b5 ej _ ?_
     rintro F4 ρ4 σ4 H4 _ y1 ⟨s0, rfl⟩ y2 y3
     exact ⟨F4, ρ4, y1, (kj.put (fun z => nq1 (V.ref.inj z))).stp y2, (x2.put (fun z => n12 (V.ref.inj z))).stp y2, y3⟩
 . right
   refine ⟨⟨_, _, dW.of kj.1, rfl⟩, fun σ' H' => ∃ Fj ρj, bB X.K F ρ σ H Fj ρj σ' H' /\ Kp ρj σ' H' q (.lst [.ref a1, .ref a2]) /\ iB i (fc c n ss) [] ρj = .ok fl ρ', ?_, ?_⟩
   . rintro σ' H' ⟨F4, ρ4, y1, y2, y4⟩
     exact ⟨0, by omega, F4, ρ4, y1, y2, .inr (.inr ⟨rfl, rfl, y4⟩)⟩
   . rintro y H' ⟨rfl, hy⟩
     have := hy _ (dW.of kj.1)
     cases this
     refine turn sj x2 c6 ej _ ?_
     rintro F4 ρ4 σ4 H4 _ y1 ⟨s0, rfl⟩ y2 y3
     exact ⟨F4, ρ4, y1, (kj.put (fun z => nq2 (V.ref.inj z))).stp y2, y3⟩
 . left
   rw [iB] at ej
   cases ej
   exact ⟨⟨_, dW.of kj.1, Nat.le_refl _⟩, k Fj σj Hj sj⟩
end
end HH
namespace HH
open PySem L2 PySem.Spec PyProof.Rows
section
variable {X : Cx} {c : Call} {n : Nat} {pos : Pos}
end
end HH
end
section
set_option maxHeartbeats 4000000
namespace T
open PySem L2 PySem.Spec PyProof.Rows HH
theorem hc : true = true := rfl
theorem oi {α : Type} {a : α} {p : Prop} : a = a \/ p := .inl rfl
theorem bN {X : Cx} {c : Call} {a : Expr} {es : List Expr} {pa : P} {ps : List P} (ha : SX X c a pa) (hr : SG X c es ps) (h : VM a = true) : SG X c (a :: es) (pa :: ps) := CG ha hr (fW h)
theorem cR {X : Cx} {c : Call} {a : Expr} {es : List Expr} {pa : P} {ps : List P} (ha : SX X c a pa) (hr : SA X c es ps) (h : VM a = true) : SA X c (a :: es) (pa :: ps) := uT ha hr (fW h)
variable {Pg : Program} {w : World} {K : PySem.W.Frag} {mg : Str -> Option Value} {base : Heap} {f : Addr} {fd : FuncData} {k n : Nat} {c : Call} {cl : Nat -> Addr}
noncomputable def top (i : Nat) : Stmt := PySem.Challenge.pw_hourhaul_k13_laid_together_and_later.main.body.getD i (.Pass ⟨0, 0, 0, 0⟩)
noncomputable abbrev s0 := top 1
noncomputable def b0 : List S := [
 .Ek 2 true, 
 .jH (.bin .add (.var 0) (.var 1)) [3, 4, 5] false [.wu 2 [.var 3, .var 4] (.bin .add (.Ay 2 [.var 3, .var 4] (.con (.int 0))) (.var 5))], 
 .ret (.comp (.blt .mX [.vw 2]) 2 [6, 7] false none (.tup [.var 6, .var 7, .QH 2 [.var 6, .var 7]]))]
noncomputable def f0 : Fd := ⟨2, 6, b0⟩
theorem sc0 : bj ["one", "other", "together", "hour", "way", "loads"] ["one", "other"] (aD s0) := ⟨rfl, rfl, rfl, by decide +kernel, rfl, by decide +kernel, by decide +kernel⟩
include cl in
theorem d0 (Fu : lA K "laid_plans" "laid_plans" s0 f fd) (cP : mg "sorted" = none) :
 cT Pg w K mg base j6 (k + 1) f fd ["one", "other"] (lr K 2 (fun args => enter c n f0 args)) := by
 refine dB Fu sc0 rfl rfl fun cdv A outer s H E hr => ?_
 have nd := sc0.nd
 refine aj ?_ ?_
 . exact (zR (i := 2) nd rfl (Or.inr rfl) (by rfl) (Or.inl rfl))
 with_reducible refine aj ?_ ?_
 . exact (uH PassesOwn.never hc (cF (aA bu (sv 0) (sv 1))) (gK hc (aL (aG (i := 3) nd rfl (Or.inl rfl) (Or.inl rfl)) (aL (aG (i := 4) nd rfl (Or.inl rfl) (Or.inl rfl)) (aL (aG (i := 5) nd rfl (Or.inl rfl) (Or.inl rfl)) eU)))) (tV rfl (cX _ _ (cX _ _ (cX _ _ o9 5) 4) 3)) (by (with_reducible refine aj ?_ ?_); exact zJ (i := 2) (cI hr) rfl (by first | exact Or.inl rfl | exact Or.inr (Or.inl rfl)) (cR (sv 3) (cR (sv 4) aN rfl) rfl) (aA bu (Dz (i := 2) (cI hr) rfl (by first | exact Or.inl rfl | exact Or.inr (Or.inl rfl)) (cR (sv 3) (cR (sv 4) aN rfl) rfl) ao ⟨rfl, rfl, rfl, rfl⟩) (sv 5)) (by rfl); exact au))
 with_reducible refine aj ?_ ?_
 . (with_reducible refine bA ?_); exact gV (N' := ["one", "other", "together", "hour#3", "way#4", "loads", "hour", "way"]) hc (yU rfl (by rfl)) (cF (xq rfl hc (by rfl) cP (Ot (i := 2) rfl (by first | exact Or.inl rfl | exact Or.inr (Or.inl rfl))))) (fun _ _ _ _ _ => gK hc (aL (aG (i := 6) (show (["one", "other", "together", "hour#3", "way#4", "loads", "hour", "way"] : List Str).Nodup by decide +kernel) rfl (Or.inl rfl) (Or.inr rfl)) (aL (aG (i := 7) (show (["one", "other", "together", "hour#3", "way#4", "loads", "hour", "way"] : List Str).Nodup by decide +kernel) rfl (Or.inl rfl) (Or.inr rfl)) eU))) (jd rfl (bF (show 6 <= 6 by decide) (bF (show 6 <= 7 by decide) jm))) (fun _ _ _ _ _ => fZ) (fun _ _ _ _ _ => (cM (cR (sv 6) (cR (sv 7) (cR (Jf (i := 2) (cI hr) rfl (by first | exact Or.inl rfl | exact Or.inr (Or.inl rfl) | exact Or.inr (Or.inr rfl)) (cR (sv 6) (cR (sv 7) aN rfl) rfl) (fun _ _ => rfl)) aN rfl) rfl) rfl)))
 exact au
noncomputable abbrev s1 := top 2
noncomputable def b1 : List S := [
 .ret (.blt .sorted [.comp (.var 0) 3 [2, 3, 4] false none (.tup [.bin .add (.var 2) (.var 1), .var 3, .var 4])])]
noncomputable def f1 : Fd := ⟨2, 2, b1⟩
theorem W2 : bj ["plan", "hours"] ["plan", "hours"] (aD s1) := ⟨rfl, rfl, rfl, by decide +kernel, rfl, by decide +kernel, by decide +kernel⟩
include cl in
theorem d1 (Fu : lA K "later_plan" "later_plan" s1 f fd) (cP : mg "sorted" = none) :
 cT Pg w K mg base j6 (k + 1) f fd ["plan", "hours"] (lr K 2 (fun args => enter c n f1 args)) := by
 refine dB Fu W2 rfl rfl fun cdv A outer s H E hr => ?_
 have nd := W2.nd
 refine aj ?_ ?_
 . (with_reducible refine bA ?_); exact n8 rfl (by rfl) cP (gV (N' := ["plan", "hours", "hour", "way", "loads"]) hc (yU rfl (by rfl)) (cF (sv 0)) (fun _ _ _ _ _ => gK hc (aL (aG (i := 2) (show (["plan", "hours", "hour", "way", "loads"] : List Str).Nodup by decide +kernel) rfl (Or.inl rfl) (Or.inr rfl)) (aL (aG (i := 3) (show (["plan", "hours", "hour", "way", "loads"] : List Str).Nodup by decide +kernel) rfl (Or.inl rfl) (Or.inr rfl)) (aL (aG (i := 4) (show (["plan", "hours", "hour", "way", "loads"] : List Str).Nodup by decide +kernel) rfl (Or.inl rfl) (Or.inr rfl)) eU)))) (jd rfl (bF (show 2 <= 2 by decide) (bF (show 2 <= 3 by decide) (bF (show 2 <= 4 by decide) jm)))) (fun _ _ _ _ _ => fZ) (fun _ _ _ _ _ => (cM (cR (aA bu (sv 2) (sv 1)) (cR (sv 3) (cR (sv 4) aN rfl) rfl) rfl))))
 exact au
noncomputable abbrev s2 := top 4
noncomputable def b2 : List S := [
 .ret (.lst [.blt .max2 [.con (.int 0), .bin .sub (.var 0) (.bin .pow (.con (.int 10)) (.con (.int 18)))], .bin .mod (.var 0) (.bin .pow (.con (.int 10)) (.con (.int 18))), .con (.int 0)])]
noncomputable def f2 : Fd := ⟨1, 1, b2⟩
theorem XN : bj ["cell"] ["cell"] (aD s2) := ⟨rfl, rfl, rfl, by decide +kernel, rfl, by decide +kernel, by decide +kernel⟩
include cl in
theorem d2 (Fu : lA K "_law_pool" "_law_pool" s2 f fd) (Az : mg "max" = none) :
 cT Pg w K mg base j6 (k + 1) f fd ["cell"] (lr K 1 (fun args => enter c n f2 args)) := by
 refine dB Fu XN rfl rfl fun cdv A outer s H E hr => ?_
 have nd := XN.nd
 refine aj ?_ ?_
 . (with_reducible refine bA ?_); exact cB (cR (Df rfl hc (by rfl) Az (cR ao (cR (aA jh (sv 0) (aA lE ao ao)) aN rfl) rfl)) (cR (aA dF (sv 0) (aA lE ao ao)) (cR ao aN rfl) rfl) rfl)
 exact au
noncomputable abbrev s3 := top 5
noncomputable def b3 : List S := [
 .ifs (.cmp .gt (.idx (.var 0) (.con (.int 0))) (.con (.int 0))) [.asg 2 (.bin .mod (.idx (.var 0) (.con (.int 0))) (.var 1)), .xP 0 (.con (.int 0)) (.bin .fdiv (.idx (.var 0) (.con (.int 0))) (.var 1)), .ret (.var 2)] [], 
 .xP 0 (.con (.int 2)) (.bin .add (.idx (.var 0) (.con (.int 2))) (.con (.int 1))), 
 .asg 3 (.bin .mod (.bin .add (.idx (.var 0) (.con (.int 1))) (.bin .mul (.con (.int 7919)) (.idx (.var 0) (.con (.int 2))))) (.con (.int 1000000007))), 
 .asg 4 (.bin .mod (.bin .mul (.bin .add (.var 3) (.con (.int 11))) (.bin .add (.var 3) (.con (.int 48271)))) (.con (.int 998244353))), 
 .ret (.bin .mod (.bin .fdiv (.bin .mod (.bin .mul (.var 4) (.var 4)) (.con (.int 2147483647))) (.con (.int 8))) (.var 1))]
noncomputable def f3 : Fd := ⟨2, 5, b3⟩
theorem Xg : bj ["pool", "base", "digit", "mixed", "stir"] ["pool", "base"] (aD s3) := ⟨rfl, rfl, rfl, by decide +kernel, rfl, by decide +kernel, by decide +kernel⟩
include cl in
theorem d3 (Fu : lA K "_law_next" "_law_next" s3 f fd) :
 cT Pg w K mg base j6 (k + 1) f fd ["pool", "base"] (lr K 2 (fun args => enter c n f3 args)) := by
 refine dB Fu Xg rfl rfl fun cdv A outer s H E hr => ?_
 have nd := Xg.nd
 refine aj ?_ ?_
 . (with_reducible refine dO ?_ ?_ ?_); exact bK gk (aH (sv 0) ao) ao (bC _); (· (with_reducible refine aj ?_ ?_); (· (with_reducible refine aU (i := 2) ?_ ?_ ?_ ?_ ?_ ?_); exact nd; exact rfl; exact oi; rotate_left; rfl; exact oi; exact aA dF (aH (sv 0) ao) (sv 1)); (· (with_reducible refine aj ?_ ?_); exact lD (k := 0) rfl (by first | exact Or.inl rfl | exact Or.inr (Or.inl rfl)) ao (aA rN (aH (sv 0) ao) (sv 1)); (· (with_reducible refine aj ?_ ?_); (· (with_reducible refine bA ?_); exact sv 2); exact au))); exact au
 with_reducible refine aj ?_ ?_
 . exact (lD (k := 0) rfl (by first | exact Or.inl rfl | exact Or.inr (Or.inl rfl)) ao (aA bu (aH (sv 0) ao) ao))
 with_reducible refine aj ?_ ?_
 . (with_reducible refine aU (i := 3) ?_ ?_ ?_ ?_ ?_ ?_); exact nd; exact rfl; exact oi; rotate_left; rfl; exact oi; exact aA dF (aA bu (aH (sv 0) ao) (aA eN ao (aH (sv 0) ao))) ao
 with_reducible refine aj ?_ ?_
 . (with_reducible refine aU (i := 4) ?_ ?_ ?_ ?_ ?_ ?_); exact nd; exact rfl; exact oi; rotate_left; rfl; exact oi; exact aA dF (aA eN (aA bu (sv 3) ao) (aA bu (sv 3) ao)) ao
 with_reducible refine aj ?_ ?_
 . (with_reducible refine bA ?_); exact aA dF (aA rN (aA dF (aA eN (sv 4) (sv 4)) ao) ao) (sv 1)
 exact au
noncomputable abbrev s4 := top 6
noncomputable def b4 : List S := [
 .asg 2 (.blt .list [.slice (.var 0) (.con .non) (.var 1)]), 
 .jH (.v9 (.var 1) (.blt .len [.var 0])) [3] true [.xP 2 (.bin .mod (.var 3) (.var 1)) (.bin .add (.bin .mul (.idx (.var 2) (.bin .mod (.var 3) (.var 1))) (.con (.int 31))) (.idx (.var 0) (.var 3)))], 
 .ret (.var 2)]
noncomputable def f4 : Fd := ⟨2, 4, b4⟩
theorem Xm : bj ["script", "most", "cells", "k"] ["script", "most"] (aD s4) := ⟨rfl, rfl, rfl, by decide +kernel, rfl, by decide +kernel, by decide +kernel⟩
include cl in
theorem d4 (Fu : lA K "_law_cells" "_law_cells" s4 f fd) (m5 : mg "len" = none) (bZ : mg "list" = none) (bJ : mg "range" = none) :
 cT Pg w K mg base j6 (k + 1) f fd ["script", "most"] (lr K 2 (fun args => enter c n f4 args)) := by
 refine dB Fu Xm rfl rfl fun cdv A outer s H E hr => ?_
 have nd := Xm.nd
 refine aj ?_ ?_
 . (with_reducible refine aU (i := 2) ?_ ?_ ?_ ?_ ?_ ?_); exact nd; exact rfl; exact oi; rotate_left; rfl; exact oi; exact je rfl (by rfl) bZ (qZ (sv 0) u9 (vW (sv 1)))
 with_reducible refine aj ?_ ?_
 . (with_reducible refine eG (i := 3) ?_ ?_ ?_ ?_ ?_ ?_ ?_ ?_ ?_); exact PassesOwn.never; exact hc; exact nd; exact rfl; exact oi; exact Dm rfl (by rfl) bJ (sv 1) (tK rfl (by rfl) m5 (sv 0)); (· (with_reducible refine aj ?_ ?_); exact lD (k := 2) rfl (by first | exact Or.inl rfl | exact Or.inr (Or.inl rfl)) (aA dF (sv 3) (sv 1)) (aA bu (aA eN (aH (sv 2) (aA dF (sv 3) (sv 1))) ao) (aH (sv 0) (sv 3))); exact au); (· intro _; rfl); exact Or.inl rfl
 with_reducible refine aj ?_ ?_
 . (with_reducible refine bA ?_); exact sv 2
 exact au
noncomputable abbrev s5 := top 7
noncomputable def b5 : List S := [
 .asg 3 (.call 3 [.var 0, .var 1]), 
 .asg 4 (.bin .mod (.bin .add (.bin .add (.var 3) (.con (.int 1))) (.call 3 [.var 0, .bin .sub (.var 1) (.con (.int 1))])) (.var 1)), 
 .ifs (.and (.cmp .lt (.bin .add (.var 2) (.con (.int 1))) (.var 1)) (.cmp .gt (.call 3 [.var 0, .con (.int 3)]) (.con (.int 0)))) [.par 3 4 (.var 2) (.bin .add (.var 2) (.con (.int 1)))] [.ifs (.and (.cmp .gt (.var 3) (.var 4)) (.cmp .gt (.call 3 [.var 0, .con (.int 3)]) (.con (.int 0)))) [.par 3 4 (.var 4) (.var 3)] []], 
 .asg 5 (.idx (.lst [.con (.int 1), .con (.int 2), .con (.int 3), .con (.int 5), .con (.int 0), .con (.int 1), .con (.int 4), .bin .add (.con (.int 1)) (.call 3 [.var 0, .con (.int 9)])]) (.call 3 [.var 0, .con (.int 8)])), 
 .ret (.tup [.var 3, .var 4, .var 5, .idx (.lst [.con (.int 1), .con (.int 1), .con (.int 1), .con (.int 2), .con (.int 2), .con (.int 3), .con (.int 1), .con (.int 4)]) (.call 3 [.var 0, .con (.int 8)])])]
noncomputable def f5 : Fd := ⟨3, 6, b5⟩
theorem Xv : bj ["pool", "many", "k", "begin", "end", "room"] ["pool", "many", "k"] (aD s5) := ⟨rfl, rfl, rfl, by decide +kernel, rfl, by decide +kernel, by decide +kernel⟩
include cl in
theorem d5 (Fu : lA K "_law_way" "_law_way" s5 f fd) (aB : aJ Pg w K mg base k c 3 "_law_next" 2) :
 cT Pg w K mg base j6 (k + 1) f fd ["pool", "many", "k"] (lr K 3 (fun args => enter c n f5 args)) := by
 refine dB Fu Xv rfl rfl fun cdv A outer s H E hr => ?_
 have nd := Xv.nd
 refine aj ?_ ?_
 . (with_reducible refine aU (i := 3) ?_ ?_ ?_ ?_ ?_ ?_); exact nd; exact rfl; exact oi; rotate_left; rfl; exact oi; exact gh aB hr (bN (sv 0) (bN (sv 1) aM rfl) rfl)
 with_reducible refine aj ?_ ?_
 . (with_reducible refine aU (i := 4) ?_ ?_ ?_ ?_ ?_ ?_); exact nd; exact rfl; exact oi; rotate_left; rfl; exact oi; exact aA dF (aA bu (aA bu (sv 3) ao) (gh aB hr (bN (sv 0) (bN (aA jh (sv 1) ao) aM rfl) rfl))) (sv 1)
 with_reducible refine aj ?_ ?_
 . (with_reducible refine dO ?_ ?_ ?_); exact SW.st (pH (bK (Hy (cI hr)) (aA bu (sv 2) ao) (sv 1) (bC _)) (lq (bK gk (gh aB hr (bN (sv 0) (bN ao aM rfl) rfl)) ao (bC _)))); (· (with_reducible refine aj ?_ ?_); exact ye (i := 3) (j := 4) hc nd rfl rfl (by decide) rfl rfl (sv 2) (aA bu (sv 2) ao); exact au); (· (with_reducible refine aj ?_ ?_); (· (with_reducible refine dO ?_ ?_ ?_); exact SW.st (pH (bK gk (sv 3) (sv 4) (bC _)) (lq (bK gk (gh aB hr (bN (sv 0) (bN ao aM rfl) rfl)) ao (bC _)))); (· (with_reducible refine aj ?_ ?_); exact ye (i := 3) (j := 4) hc nd rfl rfl (by decide) rfl rfl (sv 4) (sv 3); exact au); exact au); exact au)
 with_reducible refine aj ?_ ?_
 . (with_reducible refine aU (i := 5) ?_ ?_ ?_ ?_ ?_ ?_); exact nd; exact rfl; exact oi; rotate_left; rfl; exact oi; exact aH (cB (dD [1, 2, 3, 5, 0, 1, 4] rfl (cR (aA bu ao (gh aB hr (bN (sv 0) (bN ao aM rfl) rfl))) aN rfl))) (gh aB hr (bN (sv 0) (bN ao aM rfl) rfl))
 with_reducible refine aj ?_ ?_
 . (with_reducible refine bA ?_); exact cM (cR (sv 3) (cR (sv 4) (cR (sv 5) (cR (aH (cB (dD [1, 1, 1, 2, 2, 3, 1, 4] rfl aN)) (gh aB hr (bN (sv 0) (bN ao aM rfl) rfl))) aN rfl) rfl) rfl) rfl)
 exact au
noncomputable abbrev s6 := top 8
noncomputable def b6 : List S := [
 .asg 1 (.idx (.lst [.con (.int 3), .con (.int 4), .con (.int 3), .con (.int 4), .con (.int 2), .con (.int 5), .con (.int 6), .con (.int 4)]) (.call 3 [.var 0, .con (.int 8)])), 
 .asg 2 (.idx (.lst [.con (.int 5), .con (.int 3), .con (.int 4), .con (.int 6), .con (.int 2), .con (.int 7), .con (.int 8), .con (.int 10), .con (.int 12), .con (.int 1), .con (.int 0), .con (.int 5)]) (.call 3 [.var 0, .con (.int 12)])), 
 .ret (.tup [.var 1, .blt .tuple [.comp (.v9 (.con (.int 0)) (.var 2)) 1 [3] true none (.call 5 [.var 0, .var 1, .var 3])]])]
noncomputable def f6 : Fd := ⟨1, 3, b6⟩
theorem Xq : bj ["pool", "many", "count"] ["pool"] (aD s6) := ⟨rfl, rfl, rfl, by decide +kernel, rfl, by decide +kernel, by decide +kernel⟩
include cl in
theorem d6 (Fu : lA K "_law_net" "_law_net" s6 f fd) (bJ : mg "range" = none) (iz : mg "tuple" = none) (aB : aJ Pg w K mg base k c 3 "_law_next" 2) (uL : aJ Pg w K mg base k c 5 "_law_way" 3) :
 cT Pg w K mg base j6 (k + 1) f fd ["pool"] (lr K 1 (fun args => enter c n f6 args)) := by
 refine dB Fu Xq rfl rfl fun cdv A outer s H E hr => ?_
 have nd := Xq.nd
 refine aj ?_ ?_
 . (with_reducible refine aU (i := 1) ?_ ?_ ?_ ?_ ?_ ?_); exact nd; exact rfl; exact Or.inr rfl; rotate_left; rfl; exact oi; exact aH (cB (dD [3, 4, 3, 4, 2, 5, 6, 4] rfl aN)) (gh aB hr (bN (sv 0) (bN ao aM rfl) rfl))
 with_reducible refine aj ?_ ?_
 . (with_reducible refine aU (i := 2) ?_ ?_ ?_ ?_ ?_ ?_); exact nd; exact rfl; exact oi; rotate_left; rfl; exact oi; exact aH (cB (dD [5, 3, 4, 6, 2, 7, 8, 10, 12, 1, 0, 5] rfl aN)) (gh aB hr (bN (sv 0) (bN ao aM rfl) rfl))
 with_reducible refine aj ?_ ?_
 . (with_reducible refine bA ?_); exact cM (cR (sv 1) (cR (yJ rfl (by rfl) iz (gV (N' := ["pool", "many", "count", "k"]) hc (yU rfl (by rfl)) (ju rfl (by rfl) bJ (sv 2)) (fun _ _ _ _ _ => aG (i := 3) (show (["pool", "many", "count", "k"] : List Str).Nodup by decide +kernel) rfl (Or.inl rfl) (Or.inr rfl)) (fC (Nat.le_refl _)) (fun _ _ _ _ _ => fZ) (fun _ _ _ _ _ => (gh uL hr (bN (sv 0) (bN (sv 1) (bN (sv 3) aM rfl) rfl) rfl))))) aN rfl) rfl)
 exact au
noncomputable abbrev s7 := top 9
noncomputable def b7 : List S := [
 .ret (.bin .add (.idx (.var 1) (.con (.int 0))) (.idx (.idx (.idx (.var 0) (.con (.int 1))) (.idx (.var 1) (.con (.int 1)))) (.con (.int 3))))]
noncomputable def f7 : Fd := ⟨2, 2, b7⟩
theorem W6 : bj ["net", "triple"] ["net", "triple"] (aD s7) := ⟨rfl, rfl, rfl, by decide +kernel, rfl, by decide +kernel, by decide +kernel⟩
include cl in
theorem d7 (Fu : lA K "_law_out" "_law_out" s7 f fd) :
 cT Pg w K mg base j6 (k + 1) f fd ["net", "triple"] (lr K 2 (fun args => enter c n f7 args)) := by
 refine dB Fu W6 rfl rfl fun cdv A outer s H E hr => ?_
 have nd := W6.nd
 refine aj ?_ ?_
 . (with_reducible refine bA ?_); exact aA bu (aH (sv 1) ao) (aH (aH (aH (sv 0) ao) (aH (sv 1) ao)) ao)
 exact au
noncomputable abbrev s8 := top 10
noncomputable def b8 : List S := [
 .asg 4 (.comp (.var 1) 1 [5] true (some (.cmp .eq (.idx (.idx (.idx (.var 0) (.con (.int 1))) (.idx (.var 5) (.con (.int 1)))) (.con (.int 1))) (.var 2))) (.var 5)), 
 .ret (.blt .sum [.comp (.var 4) 1 [5] true (some (.cmp .le (.call 7 [.var 0, .var 5]) (.var 3))) (.idx (.var 5) (.con (.int 2)))])]
noncomputable def f8 : Fd := ⟨4, 5, b8⟩
theorem Xi : bj ["net", "plan", "place", "hour", "here"] ["net", "plan", "place", "hour"] (aD s8) := ⟨rfl, rfl, rfl, by decide +kernel, rfl, by decide +kernel, by decide +kernel⟩
include cl in
theorem d8 (Fu : lA K "_law_come" "_law_come" s8 f fd) (oV : mg "sum" = none) (uM : aJ Pg w K mg base k c 7 "_law_out" 2) :
 cT Pg w K mg base j6 (k + 1) f fd ["net", "plan", "place", "hour"] (lr K 4 (fun args => enter c n f8 args)) := by
 refine dB Fu Xi rfl rfl fun cdv A outer s H E hr => ?_
 have nd := Xi.nd
 refine aj ?_ ?_
 . exact (jr (i := 4) (N' := ["net", "plan", "place", "hour", "here", "triple"]) hc nd rfl (Or.inl rfl) (yU rfl (by rfl)) (cF (sv 1)) (fun _ _ _ _ _ => aG (i := 5) (show (["net", "plan", "place", "hour", "here", "triple"] : List Str).Nodup by decide +kernel) rfl (Or.inl rfl) (Or.inr rfl)) (fC (Nat.le_refl _)) (fun _ _ _ _ _ => lu (bK (iJ (cI hr)) (aH (aH (aH (sv 0) ao) (aH (sv 5) ao)) ao) (sv 2) (bC _))) (fun _ _ _ _ _ => (sv 5)) (by rfl) (by intro _; rfl) (Or.inl rfl))
 with_reducible refine aj ?_ ?_
 . (with_reducible refine bA ?_); exact zu rfl hc (by rfl) oV (gV (N' := ["net", "plan", "place", "hour", "here", "triple"]) hc (yU rfl (by rfl)) (cF (sv 4)) (fun _ _ _ _ _ => aG (i := 5) (show (["net", "plan", "place", "hour", "here", "triple"] : List Str).Nodup by decide +kernel) rfl (Or.inl rfl) (Or.inr rfl)) (fC (Nat.le_refl _)) (fun _ _ _ _ _ => lu (bK yt (gh uM hr (bN (sv 0) (bN (sv 5) aM rfl) rfl)) (sv 3) (bC _))) (fun _ _ _ _ _ => (aH (sv 5) ao)))
 exact au
noncomputable abbrev s9 := top 11
noncomputable def b9 : List S := [
 .asg 4 (.comp (.var 1) 1 [5] true (some (.cmp .eq (.idx (.idx (.idx (.var 0) (.con (.int 1))) (.idx (.var 5) (.con (.int 1)))) (.con (.int 0))) (.var 2))) (.var 5)), 
 .ret (.blt .sum [.comp (.var 4) 1 [5] true (some (.cmp .le (.idx (.var 5) (.con (.int 0))) (.var 3))) (.idx (.var 5) (.con (.int 2)))])]
noncomputable def f9 : Fd := ⟨4, 5, b9⟩
theorem Xb : bj ["net", "plan", "place", "hour", "here"] ["net", "plan", "place", "hour"] (aD s9) := ⟨rfl, rfl, rfl, by decide +kernel, rfl, by decide +kernel, by decide +kernel⟩
include cl in
theorem d9 (Fu : lA K "_law_left" "_law_left" s9 f fd) (oV : mg "sum" = none) :
 cT Pg w K mg base j6 (k + 1) f fd ["net", "plan", "place", "hour"] (lr K 4 (fun args => enter c n f9 args)) := by
 refine dB Fu Xb rfl rfl fun cdv A outer s H E hr => ?_
 have nd := Xb.nd
 refine aj ?_ ?_
 . exact (jr (i := 4) (N' := ["net", "plan", "place", "hour", "here", "triple"]) hc nd rfl (Or.inl rfl) (yU rfl (by rfl)) (cF (sv 1)) (fun _ _ _ _ _ => aG (i := 5) (show (["net", "plan", "place", "hour", "here", "triple"] : List Str).Nodup by decide +kernel) rfl (Or.inl rfl) (Or.inr rfl)) (fC (Nat.le_refl _)) (fun _ _ _ _ _ => lu (bK (iJ (cI hr)) (aH (aH (aH (sv 0) ao) (aH (sv 5) ao)) ao) (sv 2) (bC _))) (fun _ _ _ _ _ => (sv 5)) (by rfl) (by intro _; rfl) (Or.inl rfl))
 with_reducible refine aj ?_ ?_
 . (with_reducible refine bA ?_); exact zu rfl hc (by rfl) oV (gV (N' := ["net", "plan", "place", "hour", "here", "triple"]) hc (yU rfl (by rfl)) (cF (sv 4)) (fun _ _ _ _ _ => aG (i := 5) (show (["net", "plan", "place", "hour", "here", "triple"] : List Str).Nodup by decide +kernel) rfl (Or.inl rfl) (Or.inr rfl)) (fC (Nat.le_refl _)) (fun _ _ _ _ _ => lu (bK yt (aH (sv 5) ao) (sv 3) (bC _))) (fun _ _ _ _ _ => (aH (sv 5) ao)))
 exact au
noncomputable abbrev sX := top 12
noncomputable def b10 : List S := [
 .asg 4 (.lst []), 
 .jH (.v9 (.con (.int 0)) (.var 2)) [5] true [.jH (.v9 (.con (.int 0)) (.blt .len [.idx (.var 1) (.con (.int 1))])) [6] true [.Wl [7, 8, 9, 10] (.idx (.idx (.var 1) (.con (.int 1))) (.var 6)), .asg 11 (.var 9), .ifs (.cmp .gt (.var 7) (.con (.int 0))) [.asg 12 (.call 8 [.var 1, .var 4, .var 7, .var 5]), .asg 12 (.bin .sub (.var 12) (.call 9 [.var 1, .var 4, .var 7, .var 5])), .asg 11 (.blt .min2 [.var 9, .var 12])] [], .ifs (.or (.cmp .gt (.bin .add (.var 5) (.var 10)) (.var 2)) (.cmp .eq (.blt .len [.var 4]) (.var 3))) [.asg 11 (.con (.int 0))] [], .ifs (.and (.cmp .gt (.var 11) (.con (.int 0))) (.cmp .gt (.call 3 [.var 0, .con (.int 3)]) (.con (.int 0)))) [.asg 13 (.bin .mul (.call 3 [.var 0, .con (.int 2)]) (.call 3 [.var 0, .var 11])), .app 4 (.tup [.var 5, .var 6, .bin .sub (.var 11) (.var 13)])] []]], 
 .ret (.var 4)]
noncomputable def Rv : Fd := ⟨4, 14, b10⟩
theorem Px : bj ["pool", "net", "last", "most", "found", "hour", "way", "begin", "end", "room", "hours", "free", "stock", "less"] ["pool", "net", "last", "most"] (aD sX) := ⟨rfl, rfl, rfl, by decide +kernel, rfl, by decide +kernel, by decide +kernel⟩
include cl in
theorem d10 (Fu : lA K "_law_plan" "_law_plan" sX f fd) (m5 : mg "len" = none) (Ba : mg "min" = none) (bJ : mg "range" = none) (sU : aJ Pg w K mg base k c 8 "_law_come" 4) (sV : aJ Pg w K mg base k c 9 "_law_left" 4) (aB : aJ Pg w K mg base k c 3 "_law_next" 2) :
 cT Pg w K mg base j6 (k + 1) f fd ["pool", "net", "last", "most"] (lr K 4 (fun args => enter c n Rv args)) := by
 refine dB Fu Px rfl rfl fun cdv A outer s H E hr => ?_
 have nd := Px.nd
 refine aj ?_ ?_
 . (with_reducible refine aU (i := 4) ?_ ?_ ?_ ?_ ?_ ?_); exact nd; exact rfl; exact oi; rotate_left; rfl; exact oi; exact cB aN
 with_reducible refine aj ?_ ?_
 . (with_reducible refine eG (i := 5) ?_ ?_ ?_ ?_ ?_ ?_ ?_ ?_ ?_); exact PassesOwn.never; exact hc; exact nd; exact rfl; exact oi; exact ju rfl (by rfl) bJ (sv 2); (· (with_reducible refine aj ?_ ?_); (· (with_reducible refine eG (i := 6) ?_ ?_ ?_ ?_ ?_ ?_ ?_ ?_ ?_); exact PassesOwn.never; exact hc; exact nd; exact rfl; exact oi; exact ju rfl (by rfl) bJ (tK rfl (by rfl) m5 (aH (sv 1) ao)); (· (with_reducible refine aj ?_ ?_); exact Jk (aH (aH (sv 1) ao) (sv 6)) (gK hc (aL (aG (i := 7) nd rfl (Or.inl rfl) (Or.inl rfl)) (aL (aG (i := 8) nd rfl (Or.inl rfl) (Or.inl rfl)) (aL (aG (i := 9) nd rfl (Or.inl rfl) (Or.inl rfl)) (aL (aG (i := 10) nd rfl (Or.inl rfl) (Or.inl rfl)) eU))))) (tV rfl (cX _ _ (cX _ _ (cX _ _ (cX _ _ o9 10) 9) 8) 7)); (· (with_reducible refine aj ?_ ?_); (· (with_reducible refine aU (i := 11) ?_ ?_ ?_ ?_ ?_ ?_); exact nd; exact rfl; exact oi; rotate_left; rfl; exact oi; exact sv 9); (· (with_reducible refine aj ?_ ?_); (· (with_reducible refine dO ?_ ?_ ?_); exact bK gk (sv 7) ao (bC _); (· (with_reducible refine aj ?_ ?_); (· (with_reducible refine aU (i := 12) ?_ ?_ ?_ ?_ ?_ ?_); exact nd; exact rfl; exact oi; rotate_left; rfl; exact oi; exact gh sU hr (bN (sv 1) (bN (sv 4) (bN (sv 7) (bN (sv 5) aM rfl) rfl) rfl) rfl)); (· (with_reducible refine aj ?_ ?_); (· (with_reducible refine aU (i := 12) ?_ ?_ ?_ ?_ ?_ ?_); exact nd; exact rfl; exact oi; rotate_left; rfl; exact oi; exact aA jh (sv 12) (gh sV hr (bN (sv 1) (bN (sv 4) (bN (sv 7) (bN (sv 5) aM rfl) rfl) rfl) rfl))); (· (with_reducible refine aj ?_ ?_); (· (with_reducible refine aU (i := 11) ?_ ?_ ?_ ?_ ?_ ?_); exact nd; exact rfl; exact oi; rotate_left; rfl; exact oi; exact Cd rfl hc (by rfl) Ba (cR (sv 9) (cR (sv 12) aN rfl) rfl)); exact au))); exact au); (· (with_reducible refine aj ?_ ?_); (· (with_reducible refine dO ?_ ?_ ?_); exact SW.st (qX (bK gk (aA bu (sv 5) (sv 10)) (sv 2) (bC _)) (lJ (bK (iJ (cI hr)) (tK rfl (by rfl) m5 (sv 4)) (sv 3) (bC _)))); (· (with_reducible refine aj ?_ ?_); (· (with_reducible refine aU (i := 11) ?_ ?_ ?_ ?_ ?_ ?_); exact nd; exact rfl; exact oi; rotate_left; rfl; exact oi; exact ao); exact au); exact au); (· (with_reducible refine aj ?_ ?_); (· (with_reducible refine dO ?_ ?_ ?_); exact SW.st (pH (bK gk (sv 11) ao (bC _)) (lq (bK gk (gh aB hr (bN (sv 0) (bN ao aM rfl) rfl)) ao (bC _)))); (· (with_reducible refine aj ?_ ?_); (· (with_reducible refine aU (i := 13) ?_ ?_ ?_ ?_ ?_ ?_); exact nd; exact rfl; exact oi; rotate_left; rfl; exact oi; exact aA eN (gh aB hr (bN (sv 0) (bN ao aM rfl) rfl)) (gh aB hr (bN (sv 0) (bN (sv 11) aM rfl) rfl))); (· (with_reducible refine aj ?_ ?_); exact cY (k := 4) rfl (by first | exact Or.inl rfl | exact Or.inr (Or.inl rfl)) (cM (cR (sv 5) (cR (sv 6) (cR (aA jh (sv 11) (sv 13)) aN rfl) rfl) rfl)); exact au)); exact au); exact au))))); (· intro _; rfl); exact oi); exact au); (· intro _; rfl); exact Or.inl rfl
 with_reducible refine aj ?_ ?_
 . (with_reducible refine bA ?_); exact sv 4
 exact au
noncomputable abbrev ud := top 13
noncomputable def b11 : List S := [
 .ifs (.or (.not (.inst [.list] (.var 0))) (.cmp .ne (.var 0) (.var 1))) [.ret (.con (.bl false))] [], 
 .jH (.var 0) [2] true [.ifs (.or (.not (.inst [.tuple] (.var 2))) (.blt .any [.comp (.var 2) 1 [3] true none (.inst [.bool] (.var 3))])) [.ret (.con (.bl false))] []], 
 .ret (.con (.bl true))]
noncomputable def f11 : Fd := ⟨2, 3, b11⟩
theorem PB : bj ["found", "due", "triple"] ["found", "due"] (aD ud) := ⟨rfl, rfl, rfl, by decide +kernel, rfl, by decide +kernel, by decide +kernel⟩
include cl in
theorem d11 (Fu : lA K "_law_plan_like" "_law_plan_like" ud f fd) (Bb : mg "any" = none) (uN : mg "bool" = none) (cQ : mg "isinstance" = none) (bZ : mg "list" = none) (iz : mg "tuple" = none) :
 cT Pg w K mg base j6 (k + 1) f fd ["found", "due"] (lr K 2 (fun args => enter c n f11 args)) := by
 refine dB Fu PB rfl rfl fun cdv A outer s H E hr => ?_
 have nd := PB.nd
 refine aj ?_ ?_
 . (with_reducible refine dO ?_ ?_ ?_); exact SW.st (qX (iV (gH (mO .list rfl (by rfl) cQ (sv 0) (by rfl) bZ (by kernel_rfl) (by decide) (by rfl)))) (lJ (bK (pA (cI hr)) (sv 0) (sv 1) (bC _)))); (· (with_reducible refine aj ?_ ?_); (· (with_reducible refine bA ?_); exact jE); exact au); exact au
 with_reducible refine aj ?_ ?_
 . (with_reducible refine eG (i := 2) ?_ ?_ ?_ ?_ ?_ ?_ ?_ ?_ ?_); exact PassesOwn.never; exact hc; exact nd; exact rfl; exact oi; exact cF (sv 0); (· (with_reducible refine aj ?_ ?_); (· (with_reducible refine dO ?_ ?_ ?_); exact SW.st (qX (iV (gH (mO .tuple rfl (by rfl) cQ (sv 2) (by rfl) iz (by kernel_rfl) (by decide) (by rfl)))) (lJ (gH (GP rfl hc (by rfl) Bb (gV (N' := ["found", "due", "triple", "number"]) hc (yU rfl (by rfl)) (cF (sv 2)) (fun _ _ _ _ _ => aG (i := 3) (show (["found", "due", "triple", "number"] : List Str).Nodup by decide +kernel) rfl (Or.inl rfl) (Or.inr rfl)) (fC (Nat.le_refl _)) (fun _ _ _ _ _ => fZ) (fun _ _ _ _ _ => (mO .bool rfl (by rfl) cQ (sv 3) (by rfl) uN (by kernel_rfl) (by decide) (by rfl)))))))); (· (with_reducible refine aj ?_ ?_); (· (with_reducible refine bA ?_); exact jE); exact au); exact au); exact au); (· intro _; rfl); exact Or.inl rfl
 with_reducible refine aj ?_ ?_
 . (with_reducible refine bA ?_); exact jE
 exact au
noncomputable abbrev s12 := top 15
noncomputable def b12 : List S := [
 .asg 1 (.lst []), 
 .jH (.blt .sorted [.var 0]) [2, 3, 4] false [.ifs (.and (.cmp .ne (.var 1) (.lst [])) (.cmp .eq (.slice (.idx (.var 1) (.neg (.con (.int 1)))) (.con .non) (.con (.int 2))) (.tup [.var 2, .var 3]))) [.xP 1 (.neg (.con (.int 1))) (.tup [.var 2, .var 3, .bin .add (.idx (.idx (.var 1) (.neg (.con (.int 1)))) (.con (.int 2))) (.var 4)])] [.app 1 (.tup [.var 2, .var 3, .var 4])]], 
 .ret (.var 1)]
noncomputable def Rw : Fd := ⟨1, 5, b12⟩
theorem Qp : bj ["triples", "found", "at", "way", "loads"] ["triples"] (aD s12) := ⟨rfl, rfl, rfl, by decide +kernel, rfl, by decide +kernel, by decide +kernel⟩
include cl in
theorem d12 (Fu : lA K "_law_joined" "_law_joined" s12 f fd) (cP : mg "sorted" = none) :
 cT Pg w K mg base j6 (k + 1) f fd ["triples"] (lr K 1 (fun args => enter c n Rw args)) := by
 refine dB Fu Qp rfl rfl fun cdv A outer s H E hr => ?_
 have nd := Qp.nd
 refine aj ?_ ?_
 . (with_reducible refine aU (i := 1) ?_ ?_ ?_ ?_ ?_ ?_); exact nd; exact rfl; exact oi; rotate_left; rfl; exact oi; exact cB aN
 with_reducible refine aj ?_ ?_
 . exact (uH PassesOwn.never hc (cF (n8 rfl (by rfl) cP (sv 0))) (gK hc (aL (aG (i := 2) nd rfl (Or.inl rfl) (Or.inl rfl)) (aL (aG (i := 3) nd rfl (Or.inl rfl) (Or.inl rfl)) (aL (aG (i := 4) nd rfl (Or.inl rfl) (Or.inl rfl)) eU)))) (tV rfl (cX _ _ (cX _ _ (cX _ _ o9 4) 3) 2)) (by (with_reducible refine aj ?_ ?_); (· (with_reducible refine dO ?_ ?_ ?_); exact SW.st (pH (bK (pA (cI hr)) (sv 1) (cB aN) (bC _)) (lq (bK (iJ (cI hr)) (qZ (aH (sv 1) (tE ao)) u9 (vW ao)) (cM (cR (sv 2) (cR (sv 3) aN rfl) rfl)) (bC _)))); (· (with_reducible refine aj ?_ ?_); exact lD (k := 1) rfl (by first | exact Or.inl rfl | exact Or.inr (Or.inl rfl)) (tE ao) (cM (cR (sv 2) (cR (sv 3) (cR (aA bu (aH (aH (sv 1) (tE ao)) ao) (sv 4)) aN rfl) rfl) rfl)); exact au); (· (with_reducible refine aj ?_ ?_); exact cY (k := 1) rfl (by first | exact Or.inl rfl | exact Or.inr (Or.inl rfl)) (cM (cR (sv 2) (cR (sv 3) (cR (sv 4) aN rfl) rfl) rfl)); exact au)); exact au))
 with_reducible refine aj ?_ ?_
 . (with_reducible refine bA ?_); exact sv 1
 exact au
noncomputable abbrev sY := top 16
noncomputable def b13 : List S := [
 .asg 2 (.lst [.blt .list [.var 0], .blt .list [.var 1]]), 
 .asg 3 (.call 12 [.bin .add (.var 0) (.var 1)]), 
 .jH (.v9 (.con (.int 0)) (.con (.int 2))) [4] true [.asg 5 (.call 0 [.idx (.var 2) (.var 4), .idx (.var 2) (.bin .sub (.con (.int 1)) (.var 4))]), .ifs (.or (.not (.call 11 [.var 5, .var 3])) (.cmp .ne (.var 2) (.lst [.var 0, .var 1]))) [.ret (.con (.bl false))] [], .app 5 (.tup [.con (.int 0), .con (.int 0), .con (.int 1)])], 
 .El 5 (.call 0 [.idx (.var 2) (.con (.int 0)), .lst []]) (.call 0 [.lst [], .idx (.var 2) (.con (.int 0))]) [.ifs (.not (.call 11 [.var 5, .var 0])) [.ret (.con (.bl false))] [], .app 5 (.tup [.con (.int 0), .con (.int 0), .con (.int 1)])], 
 .ret (.cmp .eq (.var 2) (.lst [.var 0, .var 1]))]
noncomputable def RX : Fd := ⟨2, 6, b13⟩
theorem Ng : bj ["one", "other", "handed", "due", "k", "found"] ["one", "other"] (aD sY) := ⟨rfl, rfl, rfl, by decide +kernel, rfl, by decide +kernel, by decide +kernel⟩
include cl in
theorem d13 (Fu : lA K "_law_laid_right" "_law_laid_right" sY f fd) (bZ : mg "list" = none) (bJ : mg "range" = none) (nD : aJ Pg w K mg base k c 12 "_law_joined" 1) (cu : aJ Pg w K mg base k c 11 "_law_plan_like" 2) (gf : aJ Pg w K mg base k c 0 "laid_plans" 2) :
 cT Pg w K mg base j6 (k + 1) f fd ["one", "other"] (lr K 2 (fun args => enter c n RX args)) := by
 refine dB Fu Ng rfl rfl fun cdv A outer s H E hr => ?_
 have nd := Ng.nd
 refine aj ?_ ?_
 . (with_reducible refine aU (i := 2) ?_ ?_ ?_ ?_ ?_ ?_); exact nd; exact rfl; exact oi; rotate_left; rfl; exact oi; exact cB (cR (je rfl (by rfl) bZ (sv 0)) (cR (je rfl (by rfl) bZ (sv 1)) aN rfl) rfl)
 with_reducible refine aj ?_ ?_
 . (with_reducible refine aU (i := 3) ?_ ?_ ?_ ?_ ?_ ?_); exact nd; exact rfl; exact oi; rotate_left; rfl; exact oi; exact gh nD hr (bN (aA bu (sv 0) (sv 1)) aM rfl)
 with_reducible refine aj ?_ ?_
 . (with_reducible refine eG (i := 4) ?_ ?_ ?_ ?_ ?_ ?_ ?_ ?_ ?_); exact PassesOwn.never; exact hc; exact nd; exact rfl; exact oi; exact ju rfl (by rfl) bJ ao; (· (with_reducible refine aj ?_ ?_); (· (with_reducible refine aU (i := 5) ?_ ?_ ?_ ?_ ?_ ?_); exact nd; exact rfl; exact oi; rotate_left; rfl; exact oi; exact gh gf hr (bN (aH (sv 2) (sv 4)) (bN (aH (sv 2) (aA jh ao (sv 4))) aM rfl) rfl)); (· (with_reducible refine aj ?_ ?_); (· (with_reducible refine dO ?_ ?_ ?_); exact SW.st (qX (iV (gH (gh cu hr (bN (sv 5) (bN (sv 3) aM rfl) rfl)))) (lJ (bK (pA (cI hr)) (sv 2) (cB (cR (sv 0) (cR (sv 1) aN rfl) rfl)) (bC _)))); (· (with_reducible refine aj ?_ ?_); (· (with_reducible refine bA ?_); exact jE); exact au); exact au); (· (with_reducible refine aj ?_ ?_); exact cY (k := 5) rfl (by first | exact Or.inl rfl | exact Or.inr (Or.inl rfl)) (cM (dD [0, 0, 1] rfl aN)); exact au))); (· intro _; rfl); exact Or.inl rfl
 with_reducible refine aj ?_ ?_
 . (with_reducible refine Bu (i := 5) ?_ ?_ ?_ ?_ ?_ ?_ ?_ ?_ ?_ ?_ ?_ ?_); exact PassesOwn.never; exact hc; exact nd; exact rfl; exact oi; exact gh gf hr (bN (aH (sv 2) ao) (bN (cB aN) aM rfl) rfl); exact gh gf hr (bN (cB aN) (bN (aH (sv 2) ao) aM rfl) rfl); (· (with_reducible refine aj ?_ ?_); (· (with_reducible refine dO ?_ ?_ ?_); exact iV (gH (gh cu hr (bN (sv 5) (bN (sv 0) aM rfl) rfl))); (· (with_reducible refine aj ?_ ?_); (· (with_reducible refine bA ?_); exact jE); exact au); exact au); (· (with_reducible refine aj ?_ ?_); exact cY (k := 5) rfl (by first | exact Or.inl rfl | exact Or.inr (Or.inl rfl)) (cM (dD [0, 0, 1] rfl aN)); exact au)); exact rfl; exact rfl; (· intro _; rfl); exact Or.inl rfl
 with_reducible refine aj ?_ ?_
 . (with_reducible refine bA ?_); exact yS (iJ (cI hr)) (sv 2) (cB (cR (sv 0) (cR (sv 1) aN rfl) rfl)) (bC _)
 exact au
noncomputable abbrev Uw := top 17
noncomputable def b14 : List S := [
 .asg 2 (.blt .list [.var 0]), 
 .asg 3 (.comp (.var 0) 3 [6, 7, 8] false none (.tup [.bin .add (.var 6) (.var 1), .var 7, .var 8])), 
 .jH (.v9 (.con (.int 0)) (.con (.int 2))) [4] true [.asg 5 (.call 1 [.var 2, .var 1]), .ifs (.or (.not (.call 11 [.var 5, .var 3])) (.cmp .ne (.var 2) (.var 0))) [.ret (.con (.bl false))] [], .app 5 (.tup [.con (.int 0), .con (.int 0), .con (.int 1)])], 
 .ret (.cmp .eq (.var 2) (.var 0))]
noncomputable def Rb : Fd := ⟨2, 6, b14⟩
theorem M7 : bj ["plan", "hours", "handed", "due", "turn", "found"] ["plan", "hours"] (aD Uw) := ⟨rfl, rfl, rfl, by decide +kernel, rfl, by decide +kernel, by decide +kernel⟩
include cl in
theorem d14 (Fu : lA K "_law_later_right" "_law_later_right" Uw f fd) (bZ : mg "list" = none) (bJ : mg "range" = none) (cu : aJ Pg w K mg base k c 11 "_law_plan_like" 2) (p7 : aJ Pg w K mg base k c 1 "later_plan" 2) :
 cT Pg w K mg base j6 (k + 1) f fd ["plan", "hours"] (lr K 2 (fun args => enter c n Rb args)) := by
 refine dB Fu M7 rfl rfl fun cdv A outer s H E hr => ?_
 have nd := M7.nd
 refine aj ?_ ?_
 . (with_reducible refine aU (i := 2) ?_ ?_ ?_ ?_ ?_ ?_); exact nd; exact rfl; exact oi; rotate_left; rfl; exact oi; exact je rfl (by rfl) bZ (sv 0)
 with_reducible refine aj ?_ ?_
 . exact (jr (i := 3) (N' := ["plan", "hours", "handed", "due", "turn", "found", "at", "way", "loads"]) hc nd rfl (Or.inl rfl) (yU rfl (by rfl)) (cF (sv 0)) (fun _ _ _ _ _ => gK hc (aL (aG (i := 6) (show (["plan", "hours", "handed", "due", "turn", "found", "at", "way", "loads"] : List Str).Nodup by decide +kernel) rfl (Or.inl rfl) (Or.inr rfl)) (aL (aG (i := 7) (show (["plan", "hours", "handed", "due", "turn", "found", "at", "way", "loads"] : List Str).Nodup by decide +kernel) rfl (Or.inl rfl) (Or.inr rfl)) (aL (aG (i := 8) (show (["plan", "hours", "handed", "due", "turn", "found", "at", "way", "loads"] : List Str).Nodup by decide +kernel) rfl (Or.inl rfl) (Or.inr rfl)) eU)))) (jd rfl (bF (show 6 <= 6 by decide) (bF (show 6 <= 7 by decide) (bF (show 6 <= 8 by decide) jm)))) (fun _ _ _ _ _ => fZ) (fun _ _ _ _ _ => (cM (cR (aA bu (sv 6) (sv 1)) (cR (sv 7) (cR (sv 8) aN rfl) rfl) rfl))) (by rfl) (by intro _; rfl) (Or.inl rfl))
 with_reducible refine aj ?_ ?_
 . (with_reducible refine eG (i := 4) ?_ ?_ ?_ ?_ ?_ ?_ ?_ ?_ ?_); exact PassesOwn.never; exact hc; exact nd; exact rfl; exact oi; exact ju rfl (by rfl) bJ ao; (· (with_reducible refine aj ?_ ?_); (· (with_reducible refine aU (i := 5) ?_ ?_ ?_ ?_ ?_ ?_); exact nd; exact rfl; exact oi; rotate_left; rfl; exact oi; exact gh p7 hr (bN (sv 2) (bN (sv 1) aM rfl) rfl)); (· (with_reducible refine aj ?_ ?_); (· (with_reducible refine dO ?_ ?_ ?_); exact SW.st (qX (iV (gH (gh cu hr (bN (sv 5) (bN (sv 3) aM rfl) rfl)))) (lJ (bK (pA (cI hr)) (sv 2) (sv 0) (bC _)))); (· (with_reducible refine aj ?_ ?_); (· (with_reducible refine bA ?_); exact jE); exact au); exact au); (· (with_reducible refine aj ?_ ?_); exact cY (k := 5) rfl (by first | exact Or.inl rfl | exact Or.inr (Or.inl rfl)) (cM (dD [0, 0, 1] rfl aN)); exact au))); (· intro _; rfl); exact Or.inl rfl
 with_reducible refine aj ?_ ?_
 . (with_reducible refine bA ?_); exact yS (iJ (cI hr)) (sv 2) (sv 0) (bC _)
 exact au
noncomputable abbrev Uc := top 18
noncomputable def b15 : List S := [
 .jH (.bin .add (.lst [.con (.int 0)]) (.call 4 [.var 0, .con (.int 12)])) [1] true [.asg 2 (.call 2 [.var 1]), .asg 3 (.call 6 [.var 2]), .asg 4 (.bin .add (.con (.int 1)) (.call 3 [.var 2, .con (.int 8)])), .asg 5 (.call 10 [.var 2, .var 3, .var 4, .con (.int 40)]), .asg 6 (.call 10 [.var 2, .var 3, .var 4, .con (.int 40)]), .ifs (.cmp .eq (.call 3 [.var 2, .con (.int 3)]) (.con (.int 0))) [.asg 6 (.blt .list [.var 5])] [], .asg 7 (.idx (.lst [.con (.int 1), .con (.int 1), .con (.int 10), .con (.int 1000), .bin .pow (.con (.int 10)) (.con (.int 8))]) (.call 3 [.var 2, .con (.int 5)])), .asg 5 (.comp (.var 5) 3 [9, 10, 11] false none (.tup [.bin .mul (.var 9) (.var 7), .var 10, .bin .mul (.var 11) (.var 7)])), .asg 6 (.comp (.var 6) 3 [9, 10, 11] false none (.tup [.bin .mul (.var 9) (.var 7), .var 10, .var 11])), .ifs (.not (.call 13 [.var 5, .var 6])) [.ret (.con (.bl false))] [], .jH (.lst [.con (.int 0), .con (.int 1), .call 3 [.var 2, .con (.int 12)], .call 3 [.var 2, .bin .pow (.con (.int 10)) (.con (.int 17))]]) [8] true [.ifs (.not (.call 14 [.var 5, .var 8])) [.ret (.con (.bl false))] []]], 
 .ret (.con (.bl true))]
noncomputable def RW : Fd := ⟨1, 9, b15⟩
theorem O5 : bj ["script", "cell", "pool", "net", "last", "one", "other", "by", "hours"] ["script"] (aD Uc) := ⟨rfl, rfl, rfl, by decide +kernel, rfl, by decide +kernel, by decide +kernel⟩
include cl in
theorem Xe (Fu : lA K "law" "law" Uc f fd) (bZ : mg "list" = none) (p8 : aJ Pg w K mg base k c 4 "_law_cells" 2) (jJ : aJ Pg w K mg base k c 13 "_law_laid_right" 2) (jb : aJ Pg w K mg base k c 14 "_law_later_right" 2) (uO : aJ Pg w K mg base k c 6 "_law_net" 1) (aB : aJ Pg w K mg base k c 3 "_law_next" 2) (j9 : aJ Pg w K mg base k c 10 "_law_plan" 4) (sW : aJ Pg w K mg base k c 2 "_law_pool" 1) :
 cT Pg w K mg base j6 (k + 1) f fd ["script"] (lr K 1 (fun args => enter c n RW args)) := by
 refine dB Fu O5 rfl rfl fun cdv A outer s H E hr => ?_
 have nd := O5.nd
 refine aj ?_ ?_
 . (with_reducible refine eG (i := 1) ?_ ?_ ?_ ?_ ?_ ?_ ?_ ?_ ?_); exact PassesOwn.never; exact hc; exact nd; exact rfl; exact oi; exact cF (aA bu (cB (cR ao aN rfl)) (gh p8 hr (bN (sv 0) (bN ao aM rfl) rfl))); (· (with_reducible refine aj ?_ ?_); (· (with_reducible refine aU (i := 2) ?_ ?_ ?_ ?_ ?_ ?_); exact nd; exact rfl; exact oi; rotate_left; rfl; exact oi; exact gh sW hr (bN (sv 1) aM rfl)); (· (with_reducible refine aj ?_ ?_); (· (with_reducible refine aU (i := 3) ?_ ?_ ?_ ?_ ?_ ?_); exact nd; exact rfl; exact oi; rotate_left; rfl; exact oi; exact gh uO hr (bN (sv 2) aM rfl)); (· (with_reducible refine aj ?_ ?_); (· (with_reducible refine aU (i := 4) ?_ ?_ ?_ ?_ ?_ ?_); exact nd; exact rfl; exact oi; rotate_left; rfl; exact oi; exact aA bu ao (gh aB hr (bN (sv 2) (bN ao aM rfl) rfl))); (· (with_reducible refine aj ?_ ?_); (· (with_reducible refine aU (i := 5) ?_ ?_ ?_ ?_ ?_ ?_); exact nd; exact rfl; exact oi; rotate_left; rfl; exact oi; exact gh j9 hr (bN (sv 2) (bN (sv 3) (bN (sv 4) (bN ao aM rfl) rfl) rfl) rfl)); (· (with_reducible refine aj ?_ ?_); (· (with_reducible refine aU (i := 6) ?_ ?_ ?_ ?_ ?_ ?_); exact nd; exact rfl; exact oi; rotate_left; rfl; exact oi; exact gh j9 hr (bN (sv 2) (bN (sv 3) (bN (sv 4) (bN ao aM rfl) rfl) rfl) rfl)); (· (with_reducible refine aj ?_ ?_); (· (with_reducible refine dO ?_ ?_ ?_); exact bK (iJ (cI hr)) (gh aB hr (bN (sv 2) (bN ao aM rfl) rfl)) ao (bC _); (· (with_reducible refine aj ?_ ?_); (· (with_reducible refine aU (i := 6) ?_ ?_ ?_ ?_ ?_ ?_); exact nd; exact rfl; exact oi; rotate_left; rfl; exact oi; exact je rfl (by rfl) bZ (sv 5)); exact au); exact au); (· (with_reducible refine aj ?_ ?_); (· (with_reducible refine aU (i := 7) ?_ ?_ ?_ ?_ ?_ ?_); exact nd; exact rfl; exact Or.inr rfl; rotate_left; rfl; exact oi; exact aH (cB (dD [1, 1, 10, 1000] rfl (cR (aA lE ao ao) aN rfl))) (gh aB hr (bN (sv 2) (bN ao aM rfl) rfl))); (· (with_reducible refine aj ?_ ?_); exact jr (i := 5) (N' := ["script", "cell", "pool", "net", "last", "one", "other", "by", "hours", "at", "way", "loads"]) hc nd rfl (Or.inl rfl) (yU rfl (by rfl)) (cF (sv 5)) (fun _ _ _ _ _ => gK hc (aL (aG (i := 9) (show (["script", "cell", "pool", "net", "last", "one", "other", "by", "hours", "at", "way", "loads"] : List Str).Nodup by decide +kernel) rfl (Or.inl rfl) (Or.inr rfl)) (aL (aG (i := 10) (show (["script", "cell", "pool", "net", "last", "one", "other", "by", "hours", "at", "way", "loads"] : List Str).Nodup by decide +kernel) rfl (Or.inl rfl) (Or.inr rfl)) (aL (aG (i := 11) (show (["script", "cell", "pool", "net", "last", "one", "other", "by", "hours", "at", "way", "loads"] : List Str).Nodup by decide +kernel) rfl (Or.inl rfl) (Or.inr rfl)) eU)))) (jd rfl (bF (show 9 <= 9 by decide) (bF (show 9 <= 10 by decide) (bF (show 9 <= 11 by decide) jm)))) (fun _ _ _ _ _ => fZ) (fun _ _ _ _ _ => (cM (cR (aA eN (sv 9) (sv 7)) (cR (sv 10) (cR (aA eN (sv 11) (sv 7)) aN rfl) rfl) rfl))) (by rfl) (by intro _; rfl) (Or.inl rfl); (· (with_reducible refine aj ?_ ?_); exact jr (i := 6) (N' := ["script", "cell", "pool", "net", "last", "one", "other", "by", "hours", "at", "way", "loads"]) hc nd rfl (Or.inl rfl) (yU rfl (by rfl)) (cF (sv 6)) (fun _ _ _ _ _ => gK hc (aL (aG (i := 9) (show (["script", "cell", "pool", "net", "last", "one", "other", "by", "hours", "at", "way", "loads"] : List Str).Nodup by decide +kernel) rfl (Or.inl rfl) (Or.inr rfl)) (aL (aG (i := 10) (show (["script", "cell", "pool", "net", "last", "one", "other", "by", "hours", "at", "way", "loads"] : List Str).Nodup by decide +kernel) rfl (Or.inl rfl) (Or.inr rfl)) (aL (aG (i := 11) (show (["script", "cell", "pool", "net", "last", "one", "other", "by", "hours", "at", "way", "loads"] : List Str).Nodup by decide +kernel) rfl (Or.inl rfl) (Or.inr rfl)) eU)))) (jd rfl (bF (show 9 <= 9 by decide) (bF (show 9 <= 10 by decide) (bF (show 9 <= 11 by decide) jm)))) (fun _ _ _ _ _ => fZ) (fun _ _ _ _ _ => (cM (cR (aA eN (sv 9) (sv 7)) (cR (sv 10) (cR (sv 11) aN rfl) rfl) rfl))) (by rfl) (by intro _; rfl) (Or.inl rfl); (· (with_reducible refine aj ?_ ?_); (· (with_reducible refine dO ?_ ?_ ?_); exact iV (gH (gh jJ hr (bN (sv 5) (bN (sv 6) aM rfl) rfl))); (· (with_reducible refine aj ?_ ?_); (· (with_reducible refine bA ?_); exact jE); exact au); exact au); (· (with_reducible refine aj ?_ ?_); (· (with_reducible refine eG (i := 8) ?_ ?_ ?_ ?_ ?_ ?_ ?_ ?_ ?_); exact PassesOwn.never; exact hc; exact nd; exact rfl; exact oi; exact cF (cB (cR ao (cR ao (cR (gh aB hr (bN (sv 2) (bN ao aM rfl) rfl)) (cR (gh aB hr (bN (sv 2) (bN (aA lE ao ao) aM rfl) rfl)) aN rfl) rfl) rfl) rfl)); (· (with_reducible refine aj ?_ ?_); (· (with_reducible refine dO ?_ ?_ ?_); exact iV (gH (gh jb hr (bN (sv 5) (bN (sv 8) aM rfl) rfl))); (· (with_reducible refine aj ?_ ?_); (· (with_reducible refine bA ?_); exact jE); exact au); exact au); exact au); (· intro _; rfl); exact oi); exact au))))))))))); (· intro _; rfl); exact Or.inl rfl
 with_reducible refine aj ?_ ?_
 . (with_reducible refine bA ?_); exact jE
 exact au
end T
end
section
namespace T
open PySem L2 PySem.Spec PyProof.Rows HH
noncomputable def Γ : Tab := fun i => [f0, f1, f2, f3, f4, f5, f6, f7, f8, f9, Rv, f11, Rw, RX, Rb, RW][i]?
end T
end
section
namespace T
open HH
noncomputable abbrev big : Int := 1606938044258990275541962092341162602522202993782792835301376
theorem aY {w n : Nat} {x y z m : Int} {Q : R -> List Sl -> Prop} (h0 : 0 < m) (h2 : m < big) (k : ∀ d x z : Int, 0 <= d -> d < m -> Q (.val (.int d)) [.own true [.int x, .int y, .int z], .val false (.int m)]) :
 (run Γ w (n + 1) 3 [.own true [.int x, .int y, .int z], .val false (.int m)]).sat Q := by
 have h3 : m < 1606938044258990275541962092341162602522202993782792835301376 := h2
 refine bI (d := f3) rfl rfl (by decide) ?_
 first|apply aa|apply aq
 simp [f3]
 constructor
 . intro _
   first|apply aa|apply aq
   simp [h0]
   apply aa
   simp [h0, h3, iW]
   apply aa
   simp
   exact k _ _ _ (Int.emod_nonneg _ (by omega)) (Int.emod_lt_of_pos _ h0)
 . intro _
   first|apply aa|apply aq
   simp [iW]
   apply aa
   simp
   generalize hq : (y + 7919 * (z + 1)) % 1000000007 = q
   have q0 : 0 <= q /\ q < 1000000007 := by omega
   have q1 : -18446744073709551616 < q + 11 /\ q + 11 < 18446744073709551616 := by omega
   first|apply aa|apply aq
   simp [q1]
   generalize hs : (q + 11) * (q + 48271) % 998244353 = st
   have q2 : -18446744073709551616 < st /\ st < 18446744073709551616 := by omega
   first|apply aa|apply aq
   simp [q2, h0]
   exact k _ _ _ (Int.emod_nonneg _ (by omega)) (Int.emod_lt_of_pos _ h0)
theorem Ae {w n : Nat} {x : Int} {Q : R -> List Sl -> Prop} (k : ∀ a b c : Int, Q (.own [.int a, .int b, .int c]) [.val false (.int x)]) : (run Γ w (n + 1) 2 [.val false (.int x)]).sat Q := by
 refine bI (d := f2) rfl rfl (by decide) ?_
 first|apply aa|apply aq
 simp [f2]
 exact k _ _ _
end T
end
section
namespace T
open HH
theorem tO {cs : List Int} {k m : Nat} {x : Int} (hm : 0 < m) (hl : cs.length = m) : ∃ c : Int, at' (cs.map D.int) ((k : Int) % (m : Int)) = some (.int c) /\ iW (cs.map D.int).length ((k : Int) % (m : Int)) = some (k % m) := by
 have h : k % m < cs.length := by rw [hl]; exact Nat.mod_lt _ hm
 rw [show (k : Int) % (m : Int) = ((k % m : Nat) : Int) by simp]
 exact ⟨cs[k % m], zG (by simp [h]), Ht (by simpa using h)⟩
inductive JC (ns : List Int) (m : Nat) (_ : Nat) (ρ : List Sl) : Prop where
 | mk (cs : List Int) (s : Sl) (q0 : ρ = [.val false (.lst (ns.map D.int)), .val false (.int m), .own false (cs.map D.int), s]) (q1 : fr s = true) (q2 : cs.length = min m ns.length)
theorem xf {w n m : Nat} {ns : List Int} {Q : R -> List Sl -> Prop} (hm : 0 < m) (hm2 : m <= 63) (hn : ns.length <= 63) (k : ∀ cs : List Int, cs.length <= m -> Q (.own (cs.map D.int)) [.val false (.lst (ns.map D.int)), .val false (.int m)]) :
 (run Γ w (n + 1) 4 [.val false (.lst (ns.map D.int)), .val false (.int m)]).sat Q := by
 refine bI (d := f4) rfl rfl (by decide) ?_
 first|apply aa|apply aq
 simp [f4, Mq, part, zE]
 apply aa
 simp
 refine ⟨by omega, ?_⟩
 refine gA (JC ns m) ?_ ?_ ⟨ns.take m, .aX, ?_, rfl, by simp⟩
 . rintro i _ hi ⟨cs, s, rfl, hs, hl⟩
   have hl2 : cs.length = m := by omega
   obtain ⟨c, e1, e2⟩ := tO (cs := cs) (k := i) (x := 0) hm hl2
   obtain ⟨x, hx⟩ : ∃ x : Int, at' (ns.map D.int) ((m : Int) + (i : Int)) = some (.int x) := by
    rw [show (m : Int) + (i : Int) = ((m + i : Nat) : Int) by simp]
    exact ⟨ns[m + i]'(by omega), zG (by simp)⟩
   simp [hs]
   apply aa
   rw [List.length_map] at e2
   simp [hm, e1, e2, hx]
   exact ⟨cs.set (i % m) (c * 31 + x), .val false (.int (m + i)), by simp, rfl, by simpa using hl⟩
 . rintro _ ⟨cs, s, rfl, hs, hl⟩
   first|apply aa|apply aq
   simp
   exact k cs (by omega)
 . simp [cut, cz, List.map_take]
theorem ur {w n m : Nat} {M : Int} {ns : List Int} {Q : R -> List Sl -> Prop} (hM : M = (m : Int)) (hm : 0 < m) (hm2 : m <= 63) (hn : ns.length <= 63) (k : ∀ cs : List Int, cs.length <= m -> Q (.own (cs.map D.int)) [.val false (.lst (ns.map D.int)), .val false (.int M)]) :
 (run Γ w (n + 1) 4 [.val false (.lst (ns.map D.int)), .val false (.int M)]).sat Q := by
 subst hM; exact xf hm hm2 hn k
end T
end
section
namespace T
open HH
structure Wy where
 (s t r h : Int)
noncomputable def Wy.d (w : Wy) : D := .tup [.int w.s, .int w.t, .int w.r, .int w.h]
structure Wy.Ok (m : Int) (w : Wy) : Prop where
 s0 : 0 <= w.s
 s1 : w.s < m
 t0 : 0 <= w.t
 t1 : w.t < m
 ne : w.s ≠ w.t
 r0 : 0 <= w.r
 r1 : w.r <= 1000000000
 h0 : 1 <= w.h
 h1 : w.h <= 1000000
theorem other {a b m : Int} (h1 : 0 <= a) (h2 : a < m) (h3 : 0 <= b) (h4 : b < m - 1) : 0 <= (a + 1 + b) % m /\ (a + 1 + b) % m < m /\ (a + 1 + b) % m ≠ a := by
 by_cases h : a + 1 + b < m
 . rw [Int.emod_eq_of_lt (by omega) h]; omega
 . have e : (a + 1 + b) % m = a + 1 + b - m := by
    rw [<- Int.sub_emod_right, Int.emod_eq_of_lt (by omega) (by omega)]
   rw [e]; omega
theorem Uv (w : Wy) : cH 7 w.d = true := rfl
theorem vy {ds : List D} {k : Nat} (h : ∀ d ∈ ds, cH k d = true) : cH (k + 1) (.lst ds) = true := by rw [cH]; exact List.all_eq_true.mpr h
theorem yx {ds : List D} {k : Nat} (h : ∀ d ∈ ds, cH k d = true) : cH (k + 1) (.tup ds) = true := by rw [cH]; exact List.all_eq_true.mpr h
noncomputable def gw (m : Int) (ws : List Wy) : D := .tup [.int m, .tup (ws.map Wy.d)]
structure Ge (m : Int) (ws : List Wy) : Prop where
 m0 : 2 <= m
 m1 : m <= 6
 len : ws.length <= 12
 ok : ∀ w ∈ ws, w.Ok m
@[simp] theorem Xd {m : Int} {ws : List Wy} : sZ (gw m ws) (.int 0) = some (.val (.int m)) := rfl
@[simp] theorem Xn {m : Int} {ws : List Wy} : sZ (gw m ws) (.int 1) = some (.val (.tup (ws.map Wy.d))) := rfl
end T
end
section
namespace T
open HH
theorem vd {ns : List Int} {i lo hi : Int} (h0 : 0 <= i) (h1 : i < (ns.length : Int)) (k : ∀ x ∈ ns, lo <= x /\ x <= hi) : ∃ r, at' (ns.map D.int) i = some (.int r) /\ lo <= r /\ r <= hi := by
 have hk : i.toNat < ns.length := by omega
 refine ⟨ns[i.toNat], ?_, k _ (List.getElem_mem hk)⟩
 rw [pB h0 (by simpa using h1)]
 simp [hk]
theorem uq {a : Int} (h : a <= 1000000000000000000000) : a < big := by show _ < (1606938044258990275541962092341162602522202993782792835301376 : Int); omega
noncomputable abbrev Po (b : Bool) (x y z : Int) : Sl := .own b [.int x, .int y, .int z]
theorem Cq {w n : Nat} {x y z m p : Int} {Q : R -> List Sl -> Prop} (h0 : 2 <= m) (h2 : m <= 6) (p0 : 0 <= p)
 (k : ∀ (v : Wy) (x z : Int), v.Ok m -> v.r <= 9 -> v.h <= 4 -> Q (.val v.d) [.own true [.int x, .int y, .int z], .val false (.int m), .val false (.int p)]) :
 (run Γ w (n + 2) 5 [.own true [.int x, .int y, .int z], .val false (.int m), .val false (.int p)]).sat Q := by
 refine bI (d := f5) rfl rfl (by decide) ?_
 first|apply aa|apply aq
 simp [f5]
 refine aY (by omega) (uq (by omega)) fun a x z ha1 ha2 => ?_
 simp
 apply aa
 simp
 refine aY (by omega) (uq (by omega)) fun b x z hb1 hb2 => ?_
 obtain ⟨t0, t1, tn⟩ := other ha1 ha2 hb1 hb2
 simp [show 0 < m by omega]
 generalize (a + 1 + b) % m = t at *
 refine pW (fun ρ => ∃ x z s t, ρ = [.own true [.int x, .int y, .int z], .val false (.int m), .val false (.int p), .val false (.int s), .val false (.int t), .aX] /\ 0 <= s /\ s < m /\ 0 <= t /\ t < m /\ s ≠ t) ?_ ?_
 . by_cases hp : p + 1 < m
   . simp [hp]
     refine aY (by decide) (by decide) fun c x z _ _ => ?_
     simp
     refine ⟨fun _ => ?_, fun _ => ?_⟩
     . first|apply aa|apply aq
       simp
       exact ⟨_, _, _, _, ⟨⟨rfl, rfl⟩, rfl, rfl⟩, by omega⟩
     . first|apply aa|apply aq
       by_cases hab : t < a
       . simp [hab]
         refine aY (by decide) (by decide) fun c x z _ _ => ?_
         simp
         refine ⟨fun _ => ?_, fun _ => ?_⟩
         . first|apply aa|apply aq
           simp
           exact ⟨_, _, _, _, ⟨⟨rfl, rfl⟩, rfl, rfl⟩, by omega⟩
         . exact ⟨_, _, _, _, ⟨⟨rfl, rfl⟩, rfl, rfl⟩, by omega⟩
       . simp [hab]
         exact ⟨_, _, _, _, ⟨⟨rfl, rfl⟩, rfl, rfl⟩, by omega⟩
   . simp [hp]
     first|apply aa|apply aq
     by_cases hab : t < a
     . simp [hab]
       refine aY (by decide) (by decide) fun c x z _ _ => ?_
       simp
       refine ⟨fun _ => ?_, fun _ => ?_⟩
       . first|apply aa|apply aq
         simp
         exact ⟨_, _, _, _, ⟨⟨rfl, rfl⟩, rfl, rfl⟩, by omega⟩
       . exact ⟨_, _, _, _, ⟨⟨rfl, rfl⟩, rfl, rfl⟩, by omega⟩
     . simp [hab]
       exact ⟨_, _, _, _, ⟨⟨rfl, rfl⟩, rfl, rfl⟩, by omega⟩
 rintro _ ⟨x, z, s, t, rfl, s0, s1, t0, t1, ne⟩
 first|apply aa|apply aq
 simp
 refine aY (by decide) (by decide) fun c x z c0 c1 => ?_
 simp
 refine aY (by decide) (by decide) fun d x z d0 d1 => ?_
 obtain ⟨r, e, r0, r1⟩ := vd (ns := [1, 2, 3, 5, 0, 1, 4, 1 + c]) (lo := 0) (hi := 9) d0 (by simpa using d1) (by simp; omega)
 simp only [List.map_cons, List.map_nil] at e
 simp [e]
 apply aa
 simp
 refine aY (by decide) (by decide) fun d x z d0 d1 => ?_
 obtain ⟨h, e, h0', h1⟩ := vd (ns := [1, 1, 1, 2, 2, 3, 1, 4]) (lo := 1) (hi := 4) d0 (by simpa using d1) (by simp)
 simp only [List.map_cons, List.map_nil] at e
 simp [e]
 exact k ⟨s, t, r, h⟩ x z ⟨s0, s1, t0, t1, ne, r0, by show r <= _; omega, h0', by show h <= _; omega⟩ r1 h1
inductive FN (y m c : Int) (ρ : List Sl) : Prop where
 | mk (x z : Int) (s : Sl) (q0 : ρ = [.own true [.int x, .int y, .int z], .val false (.int m), .val false (.int c), s]) (q1 : fr s = true)
noncomputable def XH (m : Int) (d : D) : Prop := ∃ v : Wy, d = v.d /\ v.Ok m /\ v.r <= 9 /\ v.h <= 4
theorem W4 {m : Int} : ∀ {xs : List D}, (∀ x ∈ xs, XH m x) -> ∃ ws : List Wy, xs = ws.map Wy.d /\ ∀ v ∈ ws, v.Ok m /\ v.r <= 9 /\ v.h <= 4
 | [], _ => ⟨[], rfl, by simp⟩
 | x :: xs, h => by
   obtain ⟨v, rfl, h1⟩ := h x (by simp)
   obtain ⟨ws, rfl, h2⟩ := W4 (m := m) (xs := xs) fun y hy => h y (by simp [hy])
   exact ⟨v :: ws, rfl, fun u hu => by
    rcases List.mem_cons.mp hu with rfl | hu
    . exact h1
    . exact h2 u hu⟩
theorem Dn {w n : Nat} {x y z : Int} {Q : R -> List Sl -> Prop} (k : ∀ (m : Int) (ws : List Wy) (x z : Int), Ge m ws -> (∀ v ∈ ws, v.r <= 9 /\ v.h <= 4) -> Q (.val (gw m ws)) [.own true [.int x, .int y, .int z]]) :
 (run Γ w (n + 3) 6 [.own true [.int x, .int y, .int z]]).sat Q := by
 refine bI (d := f6) rfl rfl (by decide) ?_
 first|apply aa|apply aq
 simp [f6]
 refine aY (by decide) (by decide) fun d x z d0 d1 => ?_
 obtain ⟨m, e, m0, m1⟩ := vd (ns := [3, 4, 3, 4, 2, 5, 6, 4]) (lo := 2) (hi := 6) d0 (by simpa using d1) (by simp)
 simp only [List.map_cons, List.map_nil] at e
 simp [e]
 apply aa
 simp
 refine aY (by decide) (by decide) fun d x z d0 d1 => ?_
 obtain ⟨c, e, c0, c1⟩ := vd (ns := [5, 3, 4, 6, 2, 7, 8, 10, 12, 1, 0, 5]) (lo := 0) (hi := 12) d0 (by simpa using d1) (by simp)
 simp only [List.map_cons, List.map_nil] at e
 simp [e]
 apply aa
 simp
 refine ⟨by omega, fun _ => ?_, by show _ <= 16777216; omega⟩
 refine xn (FN y m c) (XH m) ⟨x, z, .aX, rfl, rfl⟩ ?_ ?_
 . rintro d hd _ ⟨x, z, s, rfl, hs⟩
   obtain ⟨j, _, rfl⟩ := List.mem_map.mp hd
   simp [hs]
   refine Cq m0 m1 (by omega) fun v x z hv hr hh => ?_
   simp
   exact ⟨⟨v, rfl, hv, hr, hh⟩, _, _, _, rfl, rfl⟩
 . rintro xs _ ⟨x, z, s, rfl, hs⟩ hl hx
   obtain ⟨ws, rfl, hw⟩ := W4 hx
   simp at hl
   simp
   exact k m ws x z ⟨m0, m1, by omega, fun v hv => (hw v hv).1⟩ fun v hv => (hw v hv).2
end T
end
section
namespace T
open HH
@[simp] theorem XS {α β : Type} {a : α} {ρ : List Sl} {f : α -> List Sl -> Res β} : (Res.ok a ρ).bind f = f a ρ := rfl
@[simp] theorem Pq {α β : Type} {f : α -> List Sl -> Res β} : (Res.stuck : Res α).bind f = .stuck := rfl
@[simp] theorem Bs {α : Type} {a : α} {ρ : List Sl} : lift (some a) ρ = .ok a ρ := rfl
@[simp] theorem RL {c : Call} {n k : Nat} {ρ : List Sl} : ex c n (.J9 k) ρ = .stuck := by rw [ex]
theorem Oo {ws : List Wy} {k : Int} (h0 : 0 <= k) (h1 : k < (ws.length : Int)) : ∃ v, ws[k.toNat]? = some v /\ v ∈ ws /\ at' (ws.map Wy.d) k = some v.d := by
 have hk : k.toNat < ws.length := by omega
 refine ⟨ws[k.toNat], by simp [hk], List.getElem_mem hk, ?_⟩
 rw [pB h0 (by simpa using h1)]; simp [hk]
theorem NK {v : Wy} : sZ v.d (.int 0) = some (.val (.int v.s)) := by simp [Wy.d]
theorem O2 {v : Wy} : sZ v.d (.int 1) = some (.val (.int v.t)) := by simp [Wy.d]
theorem wd_2 {v : Wy} : sZ v.d (.int 2) = some (.val (.int v.r)) := by simp [Wy.d]
theorem Tp {v : Wy} : sZ v.d (.int 3) = some (.val (.int v.h)) := by simp [Wy.d]
end T
end
section
namespace T
open HH
noncomputable def sm {α : Type} (f : α -> Int) : List α -> Int
 | [] => 0
 | a :: l => f a + sm f l
section
variable {α β : Type} {f g : α -> Int} {l k : List α}
@[simp] theorem UJ : sm f [] = 0 := rfl
@[simp] theorem bD {a : α} : sm f (a :: l) = f a + sm f l := rfl
theorem gJ : sm f (l ++ k) = sm f l + sm f k := by
 induction l with
 | nil => simp
 | cons a l ih => simp [ih]; omega
theorem gQ (h : ∀ a ∈ l, f a = g a) : sm f l = sm g l := by
 induction l with
 | nil => rfl
 | cons a l ih => rw [bD, bD, h a (by simp), ih fun b hb => h b (by simp [hb])]
theorem vV (h : l.Perm k) : sm f l = sm f k := by
 induction h with
 | nil => rfl
 | cons a _ ih => simp [ih]
 | swap a b l => simp; omega
 | trans _ _ h1 h2 => rw [h1, h2]
theorem Vz : sm (fun a => f a + g a) l = sm f l + sm g l := by
 induction l with
 | nil => rfl
 | cons a l ih => simp only [bD, ih]; omega
theorem Hb : sm (fun a => f a - g a) l = sm f l - sm g l := by
 induction l with
 | nil => rfl
 | cons a l ih => simp only [bD, ih]; omega
theorem Td {c : Int} : sm (fun a => f a * c) l = sm f l * c := by
 induction l with
 | nil => simp
 | cons a l ih => simp only [bD, ih, Int.add_mul]
theorem Ey (h : ∀ a ∈ l, f a <= g a) : sm f l <= sm g l := by
 induction l with
 | nil => simp
 | cons a l ih =>
   have h1 := h a (by simp)
   have h2 := ih fun b hb => h b (by simp [hb])
   simp only [bD]; omega
theorem vN (h : ∀ a ∈ l, f a = 0) : sm f l = 0 := by
 induction l with
 | nil => rfl
 | cons a l ih => rw [bD, h a (by simp), ih fun b hb => h b (by simp [hb])]; rfl
theorem J2 {q : β -> α} {l : List β} : sm f (l.map q) = sm (fun b => f (q b)) l := by
 induction l with
 | nil => rfl
 | cons a l ih => simp only [List.map_cons, bD, ih]
theorem Vu {l : List Int} : l.sum = sm (fun i => i) l := by
 induction l with
 | nil => rfl
 | cons a l ih => simp [ih]
end
structure Tr where
 (h w l : Int)
noncomputable def Tr.d (x : Tr) : D := .tup [.int x.h, .int x.w, .int x.l]
noncomputable def qp : D -> Tr
 | .tup [.int h, .int w, .int l] => ⟨h, w, l⟩
 | _ => ⟨0, 0, 0⟩
@[simp] theorem VV {h w l : Int} : qp (.tup [.int h, .int w, .int l]) = ⟨h, w, l⟩ := rfl
@[simp] theorem U0 {x : Tr} : qp x.d = x := rfl
@[simp] theorem VD {i : Int} : dX (.int i) = i := rfl
noncomputable def wy (ws : List Wy) (k : Int) : Wy := (ws[k.toNat]?).getD ⟨0, 0, 0, 0⟩
noncomputable def N5 (ws : List Wy) (x : Tr) : Prop := 0 <= x.w /\ x.w < (ws.length : Int)
theorem pL {ws : List Wy} {k : Int} (h0 : 0 <= k) (h1 : k < (ws.length : Int)) : at' (ws.map Wy.d) k = some (wy ws k).d /\ wy ws k ∈ ws := by
 obtain ⟨v, h2, h3, h4⟩ := Oo h0 h1
 have : wy ws k = v := by unfold wy; rw [h2]; rfl
 rw [this]; exact ⟨h4, h3⟩
theorem Gz {x : Tr} : sZ x.d (.int 0) = some (.val (.int x.h)) := by simp [Tr.d]
theorem yX {x : Tr} : sZ x.d (.int 1) = some (.val (.int x.w)) := by simp [Tr.d]
theorem Hh {x : Tr} : sZ x.d (.int 2) = some (.val (.int x.l)) := by simp [Tr.d]
noncomputable def rK (ws : List Wy) (x : Tr) : Int := x.h + (wy ws x.w).h
noncomputable def KC (ws : List Wy) (p : Int) (P : Int -> Bool) (x : Tr) : Int := if (wy ws x.w).t = p /\ P (rK ws x) = true then x.l else 0
noncomputable def O4 (ws : List Wy) (p : Int) (P : Int -> Bool) (x : Tr) : Int := if (wy ws x.w).s = p /\ P x.h = true then x.l else 0
noncomputable def xW (t : Int) : Int -> Bool := fun k => decide (k <= t)
noncomputable def on' (t : Int) : Int -> Bool := fun k => decide (t <= k)
noncomputable def come (ws : List Wy) (pl : List Tr) (p t : Int) : Int := sm (KC ws p (xW t)) pl
noncomputable def left (ws : List Wy) (pl : List Tr) (p t : Int) : Int := sm (O4 ws p (xW t)) pl
noncomputable def stP (ws : List Wy) (pl : List Tr) (p : Int) (P : Int -> Bool) : Int := sm (fun x => KC ws p P x - O4 ws p P x) pl
theorem Vj {ws : List Wy} {pl : List Tr} {p t : Int} : stP ws pl p (xW t) = come ws pl p t - left ws pl p t := Hb
noncomputable def LS (s : Sl) (ds : List D) : Prop := (∃ b, s = .own b ds) \/ ∃ b, s = .val b (.lst ds)
theorem qg {ρ : List Sl} {k : Nat} {s : Sl} {ds : List D} {e : Ev} (h : ρ[k]? = some s) (hs : LS s ds) : ∃ s', srcOf (some k) e ρ = .ok ds (ρ.set k s') /\ ∀ ρ', ρ'[k]? = some s' -> aR ρ (some k) ρ' = ρ'.set k s := by
 have hk := (List.getElem?_eq_some_iff.mp h).1
 rcases hs with ⟨b, rfl⟩ | ⟨b, rfl⟩
 . exact ⟨.lent ds, by unfold srcOf; simp only [h], fun ρ' _ => by unfold aR; simp only [h]⟩
 . refine ⟨.val b (.lst ds), ?_, fun ρ' h' => ?_⟩
   . unfold srcOf; simp only [h, jM, Bs]
     obtain ⟨h1, h2⟩ := List.getElem?_eq_some_iff.mp h
     rw [<- h2, List.set_getElem_self]
   . unfold aR; simp only [h]
     obtain ⟨h1, h2⟩ := List.getElem?_eq_some_iff.mp h'
     rw [<- h2, List.set_getElem_self]
noncomputable def LT (s : Sl) (ds : List D) : Prop := LS s ds \/ s = .lent ds
theorem qW {ρ : List Sl} {k : Nat} {s : Sl} {ds : List D} {e : Ev} (h : ρ[k]? = some s) (hs : LT s ds) : ∃ s', srcOf (some k) e ρ = .ok ds (ρ.set k s') /\ ∀ ρ', ρ'[k]? = some s' -> aR ρ (some k) ρ' = ρ'.set k s := by
 rcases hs with hs | rfl
 . exact qg h hs
 . refine ⟨.lent ds, ?_, fun ρ' h' => ?_⟩
   . unfold srcOf; simp only [h]
     obtain ⟨h1, h2⟩ := List.getElem?_eq_some_iff.mp h
     rw [<- h2, List.set_getElem_self]
   . unfold aR; simp only [h]
     obtain ⟨h1, h2⟩ := List.getElem?_eq_some_iff.mp h'
     rw [<- h2, List.set_getElem_self]
noncomputable def gv {κ : Type} [DecidableEq κ] (kvs : List (κ × Int)) (k : κ) : Int := ((kvs.find? fun kv => decide (kv.1 = k)).map (·.2)).getD 0
noncomputable def yh {κ : Type} (P : κ -> Bool) (kvs : List (κ × Int)) : Int := sm (fun kv => if P kv.1 = true then kv.2 else 0) kvs
section
variable {κ : Type} [DecidableEq κ]
theorem ie {a k : κ} {b : Int} {r : List (κ × Int)} : gv ((a, b) :: r) k = if a = k then b else gv r k := by
 unfold gv; by_cases h : a = k <;> simp [h]
theorem u6 {k : κ} : ∀ {r : List (κ × Int)}, k ∉ r.map (·.1) -> gv r k = 0
 | [], _ => rfl
 | (a, b) :: r, h => by
   simp at h
   rw [ie, if_neg (fun e => h.1 e.symm), u6 (r := r) (by simpa using h.2)]
theorem wF {a k : κ} {b v : Int} {r : List (κ × Int)} (hn : a ∉ r.map (·.1)) : putD ((a, b) :: r) k v = if a = k then (a, v) :: r else (a, b) :: putD r k v := by
 unfold putD
 by_cases h : a = k
 . subst h
   rw [if_pos (by simp), if_pos rfl]
   simp
   refine (List.map_congr_left (g := id) fun kv hkv => ?_).trans (by simp)
   rw [if_neg]; rfl
   intro e
   exact hn (List.mem_map.mpr ⟨kv, hkv, e⟩)
 . rw [if_neg h]
   by_cases h2 : (r.any fun kv => decide (kv.1 = k)) = true
   . rw [if_pos h2, if_pos (by simp [h2])]
     simp [h]
   . rw [if_neg h2, if_neg (by simp [h]; simpa using h2)]
     simp
theorem mW {k : κ} {v : Int} : ∀ {r : List (κ × Int)}, (r.map (·.1)).Nodup -> ((putD r k v).map (·.1)).Nodup /\ (putD r k v).length <= r.length + 1 /\ (∀ j ∈ (putD r k v).map (·.1), j = k \/ j ∈ r.map (·.1)) /\ ∀ P, yh P (putD r k v) = yh P r + if P k = true then v - gv r k else 0
 | [], _ => by simp [putD, yh, gv]
 | (a, b) :: r, h => by
   simp only [List.map_cons, List.nodup_cons] at h
   obtain ⟨i1, i2, i3, i4⟩ := mW (k := k) (v := v) (r := r) h.2
   rw [wF h.1]
   by_cases e : a = k
   . subst e
     rw [if_pos rfl]
     refine ⟨by simpa using h, by simp, fun j hj => .inr (by simpa using hj), fun P => ?_⟩
     have := u6 h.1
     simp only [yh, bD, ie, if_true]
     split <;> omega
   . rw [if_neg e]
     refine ⟨?_, by simp; omega, fun j hj => ?_, fun P => ?_⟩
     . simp only [List.map_cons, List.nodup_cons]
       refine ⟨fun hm => ?_, i1⟩
       rcases i3 a hm with z | z
       . exact e z
       . exact h.1 z
     . simp only [List.map_cons, List.mem_cons] at hj ⊢
       rcases hj with rfl | hj
       . exact .inr (.inl rfl)
       . rcases i3 j hj with z | z
         . exact .inl z
         . exact .inr (.inr z)
     . have := i4 P
       simp only [yh, bD, ie, if_neg e] at this ⊢
       omega
theorem qi {P : κ -> Bool} : ∀ {r : List (κ × Int)}, (r.map (·.1)).Nodup -> yh P r = sm (fun k => if P k = true then gv r k else 0) (r.map (·.1))
 | [], _ => rfl
 | (a, b) :: r, h => by
   simp only [List.map_cons, List.nodup_cons] at h
   have ih := qi (P := P) (r := r) h.2
   simp only [yh, bD, List.map_cons] at ih ⊢
   rw [ih, ie, if_pos rfl]
   congr 1
   refine gQ fun k hk => ?_
   have hne : ¬ a = k := fun e => h.1 (by rw [e]; exact hk)
   rw [ie, if_neg hne]
end
theorem Dt {k : Int} : ∀ {r : List (Int × Int)}, k ∈ r.map (·.1) -> vh (.cD (.k r)) (.int k) = some (.val (.int (gv r k)))
 | [], h => by simp at h
 | (a, b) :: r, h => by
   by_cases e : a = k
   . simp [vh, Dc.get, gv, e]
   . simp at h
     have ih := Dt (k := k) (r := r) (by rcases h with h | h; exact absurd h.symm e; simpa using h)
     simp [vh, Dc.get, gv, e] at ih ⊢
     exact ih
end T
end
section
namespace T
open HH
noncomputable def bW : List Tr -> Bool
 | a :: b :: r => aP [a.h, a.w] [b.h, b.w] && bW (b :: r)
 | _ => true
noncomputable def Tr.k (x : Tr) : D := .tup [.int x.h, .int x.w]
noncomputable def okT (x : Tr) : Bool := decide (0 <= x.h) && decide (1 <= x.l)
noncomputable def Cz (ws : List Wy) (last : Int) (x : Tr) : Prop := N5 ws x /\ x.l <= (wy ws x.w).r /\ rK ws x <= last
noncomputable def Ec (ws : List Wy) (last : Int) (x : Tr) : Bool := @decide (Cz ws last x) (Classical.propDecidable _)
theorem PJ {ws : List Wy} {last : Int} {x : Tr} : Ec ws last x = true ↔ Cz ws last x := by unfold Ec; simp
theorem RM {ws : List Wy} {last : Int} {x : Tr} (h : ¬ Cz ws last x) : Ec ws last x = false := by unfold Ec; simp [h]
inductive F5 (a0 a1 a2 a3 a4 : Sl) (ρ : List Sl) : Prop where
 | mk (s : Sl) (q0 : ρ = [a0, a1, a2, a3, a4, s]) (q1 : fr s = true)
end T
end
section
namespace T
open HH
theorem zX {w n : Nat} {m : Int} {ws : List Wy} {x : Tr} {Q : R -> List Sl -> Prop} (h : N5 ws x) (q : Q (.val (.int (rK ws x))) [.val false (gw m ws), .val false x.d]) :
 (run Γ w (n + 1) 7 [.val false (gw m ws), .val false x.d]).sat Q := by
 refine bI (d := f7) rfl rfl (by decide) ?_
 first|apply aa|apply aq
 unfold rK at q
 simpa [f7, Gz, yX, (pL h.1 h.2).1, Tp] using q
noncomputable def vq (ws : List Wy) (g : Wy -> Int) (p : Int) (d : D) : Option D := if g (wy ws (qp d).w) = p then some d else none
theorem jt {ws : List Wy} {g : Wy -> Int} {p : Int} {x : Tr} : vq ws g p x.d = if g (wy ws x.w) = p then some x.d else none := rfl
theorem lO {ws : List Wy} {g : Wy -> Int} {p : Int} : ∀ {pl : List Tr}, (pl.map Tr.d).filterMap (vq ws g p) = (pl.filter fun x => decide (g (wy ws x.w) = p)).map Tr.d
 | [] => rfl
 | x :: pl => by
   rw [List.map_cons, List.filterMap_cons, jt, List.filter_cons, lO]
   by_cases h : g (wy ws x.w) = p <;> simp [h]
noncomputable def v5 (g : Tr -> Int) (t : Int) (d : D) : Option D := if g (qp d) <= t then some (.int (qp d).l) else none
theorem gW {g : Tr -> Int} {t : Int} {x : Tr} : v5 g t x.d = if g x <= t then some (.int x.l) else none := rfl
theorem mC {g : Tr -> Int} {f : Wy -> Int} {ws : List Wy} {p t : Int} : ∀ {pl : List Tr}, ∃ ns : List Int, ((pl.filter fun x => decide (f (wy ws x.w) = p)).map Tr.d).filterMap (v5 g t) = ns.map D.int /\ ns.sum = sm (fun x => if f (wy ws x.w) = p /\ xW t (g x) = true then x.l else 0) pl
 | [] => ⟨[], rfl, rfl⟩
 | x :: pl => by
   obtain ⟨ns, h1, h2⟩ := mC (g := g) (f := f) (ws := ws) (p := p) (t := t) (pl := pl)
   by_cases h : f (wy ws x.w) = p
   . by_cases c : g x <= t
     . exact ⟨x.l :: ns, by rw [List.filter_cons, if_pos (by simpa using h), List.map_cons, List.filterMap_cons, gW, if_pos c, h1]; rfl, by simp [h, c, h2, xW]⟩
     . exact ⟨ns, by rw [List.filter_cons, if_pos (by simpa using h), List.map_cons, List.filterMap_cons, gW, if_neg c, h1], by simp [h, c, h2, xW]⟩
   . exact ⟨ns, by rw [List.filter_cons, if_neg (by simpa using h), h1], by simp [h, h2]⟩
theorem Am {w n : Nat} {m p t : Int} {ws : List Wy} {pl : List Tr} {s1 : Sl} {Q : R -> List Sl -> Prop} (hs : LT s1 (pl.map Tr.d)) (hw : ∀ x ∈ pl, N5 ws x) (hl : pl.length <= 1000)
 (q : Q (.val (.int (come ws pl p t))) [.val false (gw m ws), s1, .val false (.int p), .val false (.int t)]) :
 (run Γ w (n + 2) 8 [.val false (gw m ws), s1, .val false (.int p), .val false (.int t)]).sat Q := by
 have hlim : pl.length <= lim := by show _ <= 16777216; omega
 refine bI (d := f8) rfl rfl (by decide) ?_
 first|apply aa|apply aq
 obtain ⟨s', e1, e2⟩ := qW (ρ := [.val false (gw m ws), s1, .val false (.int p), .val false (.int t), .aX]) (k := 1) (e := ev (run Γ w (n + 1)) (.var 1)) rfl hs
 simp [f8, -iM, -di, e1, hlim]
 refine ik (F5 _ _ _ _ _) (vq ws Wy.t p) ⟨.aX, rfl, rfl⟩ ?_ ?_
 . rintro d hd _ ⟨s, rfl, hs⟩
   obtain ⟨x, hx, rfl⟩ := List.mem_map.mp hd
   have hg := (pL (hw x hx).1 (hw x hx).2).1
   by_cases c : (wy ws x.w).t = p
   . simp [hs, yX, hg, O2, c, jt]
     exact ⟨_, rfl, rfl⟩
   . simp [hs, yX, hg, O2, c, jt]
     exact ⟨_, rfl, rfl⟩
 rintro _ ⟨s, rfl, hs⟩
 rw [lO]
 simp [-di]
 rw [e2 _ rfl]
 simp
 apply aa
 have hf : ((pl.filter fun x => decide ((wy ws x.w).t = p)).length) <= lim := Nat.le_trans (List.length_filter_le _ _) hlim
 simp [hf]
 refine ik (F5 _ _ _ _ _) (v5 (rK ws) t) ⟨.aX, rfl, rfl⟩ ?_ ?_
 . rintro d hd _ ⟨s, rfl, hs⟩
   obtain ⟨x, hx, rfl⟩ := List.mem_map.mp hd
   have hx' := hw x (List.mem_filter.mp hx).1
   simp [hs]
   refine zX hx' ?_
   by_cases c : rK ws x <= t
   . simp [c, Hh, gW]
     exact ⟨_, rfl, rfl⟩
   . simp [c, gW]
     exact ⟨_, rfl, rfl⟩
 rintro _ ⟨s, rfl, hs⟩
 obtain ⟨ns, e3, e4⟩ := mC (g := rK ws) (f := Wy.t) (ws := ws) (p := p) (t := t) (pl := pl)
 rw [e3]
 simp
 rw [e4]
 exact q
theorem zb {w n : Nat} {m p t : Int} {ws : List Wy} {pl : List Tr} {s1 : Sl} {Q : R -> List Sl -> Prop} (hs : LT s1 (pl.map Tr.d)) (hw : ∀ x ∈ pl, N5 ws x) (hl : pl.length <= 1000)
 (q : Q (.val (.int (left ws pl p t))) [.val false (gw m ws), s1, .val false (.int p), .val false (.int t)]) :
 (run Γ w (n + 1) 9 [.val false (gw m ws), s1, .val false (.int p), .val false (.int t)]).sat Q := by
 have hlim : pl.length <= lim := by show _ <= 16777216; omega
 refine bI (d := f9) rfl rfl (by decide) ?_
 first|apply aa|apply aq
 obtain ⟨s', e1, e2⟩ := qW (ρ := [.val false (gw m ws), s1, .val false (.int p), .val false (.int t), .aX]) (k := 1) (e := ev (run Γ w n) (.var 1)) rfl hs
 simp [f9, -iM, -di, e1, hlim]
 refine ik (F5 _ _ _ _ _) (vq ws Wy.s p) ⟨.aX, rfl, rfl⟩ ?_ ?_
 . rintro d hd _ ⟨s, rfl, hs⟩
   obtain ⟨x, hx, rfl⟩ := List.mem_map.mp hd
   have hg := (pL (hw x hx).1 (hw x hx).2).1
   by_cases c : (wy ws x.w).s = p
   . simp [hs, yX, hg, NK, c, jt]
     exact ⟨_, rfl, rfl⟩
   . simp [hs, yX, hg, NK, c, jt]
     exact ⟨_, rfl, rfl⟩
 rintro _ ⟨s, rfl, hs⟩
 rw [lO]
 simp [-di]
 rw [e2 _ rfl]
 simp
 apply aa
 have hf : ((pl.filter fun x => decide ((wy ws x.w).s = p)).length) <= lim := Nat.le_trans (List.length_filter_le _ _) hlim
 simp [hf]
 refine ik (F5 _ _ _ _ _) (v5 Tr.h t) ⟨.aX, rfl, rfl⟩ ?_ ?_
 . rintro d hd _ ⟨s, rfl, hs⟩
   obtain ⟨x, hx, rfl⟩ := List.mem_map.mp hd
   by_cases c : x.h <= t
   . simp [hs, Gz, c, Hh, gW]
     exact ⟨_, rfl, rfl⟩
   . simp [hs, Gz, c, gW]
     exact ⟨_, rfl, rfl⟩
 rintro _ ⟨s, rfl, hs⟩
 obtain ⟨ns, e3, e4⟩ := mC (g := Tr.h) (f := Wy.s) (ws := ws) (p := p) (t := t) (pl := pl)
 rw [e3]
 simp
 rw [e4]
 exact q
end T
end
section
namespace T
open HH
noncomputable def Vf (ws : List Wy) (pl : List Tr) : Prop := ∀ p, 1 <= p -> ∀ t, left ws pl p t <= come ws pl p t
structure Pl (last : Int) (ws : List Wy) (pl : List Tr) : Prop where
 ok : ∀ x ∈ pl, 0 <= x.h /\ 1 <= x.l /\ Cz ws last x
 Gr : bW pl = true
 bal : Vf ws pl
theorem Pl.inw {last : Int} {ws : List Wy} {pl : List Tr} (h : Pl last ws pl) : ∀ x ∈ pl, N5 ws x := fun x hx => (h.ok x hx).2.2.1
theorem xK {ws : List Wy} {pl : List Tr} {p t u : Int} (hl : ∀ x ∈ pl, 0 <= x.l) (h : t <= u) : come ws pl p t <= come ws pl p u := by
 refine Ey fun x hx => ?_
 have := hl x hx
 unfold KC xW
 simp only [decide_eq_true_eq]
 split <;> split <;> omega
theorem wL {ws : List Wy} {pl : List Tr} {p t u : Int} (hh : ∀ x ∈ pl, x.h <= t) (h : t <= u) : left ws pl p u = left ws pl p t := by
 refine gQ fun x hx => ?_
 have := hh x hx
 unfold O4 xW
 simp only [decide_eq_true_eq, show x.h <= u by omega, this]
theorem DY {ws : List Wy} {pl : List Tr} {y : Tr} (hb : Vf ws pl) (hl : ∀ x ∈ pl, 0 <= x.l) (hh : ∀ x ∈ pl, x.h <= y.h) (h0 : 0 <= y.l) (hs : 1 <= (wy ws y.w).s -> y.l <= come ws pl (wy ws y.w).s y.h - left ws pl (wy ws y.w).s y.h) : Vf ws (pl ++ [y]) := by
 intro p hp t
 have b := hb p hp t
 have e1 : left ws (pl ++ [y]) p t = left ws pl p t + O4 ws p (xW t) y := by unfold left; rw [gJ]; simp
 have e2 : come ws (pl ++ [y]) p t = come ws pl p t + KC ws p (xW t) y := by unfold come; rw [gJ]; simp
 have e3 : 0 <= KC ws p (xW t) y := by unfold KC; split <;> omega
 rw [e1, e2]
 unfold O4
 split
 . rename_i c
   obtain ⟨c1, c2⟩ := c
   simp only [xW, decide_eq_true_eq] at c2
   subst c1
   have := hs hp
   have := xK (ws := ws) (p := (wy ws y.w).s) hl c2
   have := wL (ws := ws) (p := (wy ws y.w).s) hh c2
   omega
 . omega
theorem oJ {y : Tr} : ∀ {pl : List Tr}, bW pl = true -> (∀ x ∈ pl, aP [x.h, x.w] [y.h, y.w] = true) -> bW (pl ++ [y]) = true
 | [], _, _ => rfl
 | [a], _, h => by simp only [List.cons_append, List.nil_append, bW, Bool.and_true]; exact h a (by simp)
 | a :: b :: r, h1, h2 => by
   simp only [List.cons_append, bW, Bool.and_eq_true] at h1 ⊢
   exact ⟨h1.1, oJ (pl := b :: r) h1.2 fun x hx => h2 x (by simp [hx])⟩
noncomputable def NQ (hr wn : Int) (pl : List Tr) : Prop := ∀ x ∈ pl, x.h < hr \/ x.h = hr /\ x.w < wn
inductive JPi (y m last most hr : Int) (ws : List Wy) (i : Nat) (ρ : List Sl) : Prop where
 | mk (x z : Int) (pl : List Tr) (s6 s7 s8 s9 sX ud s12 sY : Sl) (q0 : ρ = [.own true [.int x, .int y, .int z], .val false (gw m ws), .val false (.int last), .val false (.int most), .own false (pl.map Tr.d), .val false (.int hr), s6, s7, s8, s9, sX, ud, s12, sY]) (q1 : A8 (fr s6 = true) (fr s7 = true) (fr s8 = true) (fr s9 = true) (fr sX = true) (fr ud = true) (fr s12 = true) (fr sY = true)) (q2 : Pl last ws pl) (q3 : NQ hr i pl) (q4 : (pl.length : Int) <= most)
inductive JPo (y m last most : Int) (ws : List Wy) (i : Nat) (ρ : List Sl) : Prop where
 | mk (x z : Int) (pl : List Tr) (s5 s6 s7 s8 s9 sX ud s12 sY : Sl) (q0 : ρ = [.own true [.int x, .int y, .int z], .val false (gw m ws), .val false (.int last), .val false (.int most), .own false (pl.map Tr.d), s5, s6, s7, s8, s9, sX, ud, s12, sY]) (q1 : A9 (fr s5 = true) (fr s6 = true) (fr s7 = true) (fr s8 = true) (fr s9 = true) (fr sX = true) (fr ud = true) (fr s12 = true) (fr sY = true)) (q2 : Pl last ws pl) (q3 : NQ i 0 pl) (q4 : (pl.length : Int) <= most)
theorem Ha {last hr l : Int} {ws : List Wy} {pl : List Tr} {i : Nat} (h : Pl last ws pl) (hb : NQ hr i pl) (h0 : 0 <= hr) (hi : i < ws.length) (l0 : 1 <= l) (l1 : l <= (wy ws i).r) (ho : hr + (wy ws i).h <= last) (hs : 1 <= (wy ws i).s -> l <= come ws pl (wy ws i).s hr - left ws pl (wy ws i).s hr) :
 Pl last ws (pl ++ [⟨hr, i, l⟩]) /\ NQ hr (i + 1 : Nat) (pl ++ [⟨hr, i, l⟩]) := by
 refine ⟨⟨fun x hx => ?_, oJ h.Gr fun x hx => ?_, DY h.bal (fun x hx => ?_) (fun x hx => ?_) (by show 0 <= l; omega) hs⟩, fun x hx => ?_⟩
 . rcases List.mem_append.mp hx with hx | hx
   . exact h.ok x hx
   . rw [List.mem_singleton.mp hx]
     exact ⟨h0, l0, ⟨by show 0 <= (i : Int); omega, by show (i : Int) < _; omega⟩, l1, ho⟩
 . have := hb x hx
   simp [aP]; omega
 . have := h.ok x hx; omega
 . have := hb x hx; show x.h <= hr; omega
 . rcases List.mem_append.mp hx with hx | hx
   . have := hb x hx; omega
   . rw [List.mem_singleton.mp hx]; exact .inr ⟨rfl, by show (i : Int) < _; omega⟩
theorem oF {w n : Nat} {x y z m last most : Int} {ws : List Wy} {Q : R -> List Sl -> Prop} (hk : Ge m ws) (l0 : 0 <= last) (l1 : last <= 1000) (k0 : 0 <= most) (k1 : most <= 1000)
 (q : ∀ (pl : List Tr) (x z : Int), Pl last ws pl -> (pl.length : Int) <= most -> Q (.own (pl.map Tr.d)) [.own true [.int x, .int y, .int z], .val false (gw m ws), .val false (.int last), .val false (.int most)]) :
 (run Γ w (n + 3) 10 [.own true [.int x, .int y, .int z], .val false (gw m ws), .val false (.int last), .val false (.int most)]).sat Q := by
 have hlen := hk.len
 refine bI (d := Rv) rfl rfl (by decide) ?_
 first|apply aa|apply aq
 simp [Rv]
 apply aa
 simp
 refine ⟨by omega, ?_⟩
 refine gA (JPo y m last most ws) ?_ ?_ ⟨x, z, [], .aX, .aX, .aX, .aX, .aX, .aX, .aX, .aX, .aX, rfl, ⟨rfl, rfl, rfl, rfl, rfl, rfl, rfl, rfl, rfl⟩, ⟨by simp, rfl, fun p hp t => by simp [left, come]⟩, by simp [NQ], by simpa using k0⟩
 . rintro i _ hi ⟨x, z, pl, s5, s6, s7, s8, s9, sX, ud, s12, sY, rfl, ⟨h5, h6, h7, h8, h9, h10, h11, h12, h13⟩, hp, hb, hn⟩
   simp [h5]
   apply aa
   simp
   refine ⟨by omega, ?_⟩
   refine gA (JPi y m last most i ws) ?_ ?_ ⟨x, z, pl, s6, s7, s8, s9, sX, ud, s12, sY, rfl, ⟨h6, h7, h8, h9, h10, h11, h12, h13⟩, hp, hb, hn⟩
   . rintro j _ hj ⟨x, z, pl, s6, s7, s8, s9, sX, ud, s12, sY, rfl, ⟨h6, h7, h8, h9, h10, h11, h12, h13⟩, hp, hb, hn⟩
     obtain ⟨hg, hmem⟩ := pL (ws := ws) (k := (j : Int)) (by omega) (by omega)
     have hv := hk.ok _ hmem
     have QX := hp.inw
     generalize W0 : wy ws (j : Int) = v at *
     simp [h6]
     apply aa
     simp [hg, Wy.d, h7, h8, h9, h10]
     apply aa
     simp [h11]
     have hr0 := hv.r0
     have hr1 := hv.r1
     refine pW (fun ρ => ∃ (free : Int) (s12 : Sl), ρ = [.own true [.int x, .int y, .int z], .val false (gw m ws), .val false (.int last), .val false (.int most), .own false (pl.map Tr.d), .val false (.int i), .val false (.int j), .val false (.int v.s), .val false (.int v.t), .val false (.int v.r), .val false (.int v.h), .val false (.int free), s12, sY] /\ fr s12 = true /\ free <= v.r /\ (1 <= v.s -> free <= come ws pl v.s i - left ws pl v.s i)) ?_ ?_
     . by_cases c : 0 < v.s
       . simp [c]
         first|apply aa|apply aq
         simp
         refine Am (.inl (.inl ⟨_, rfl⟩)) QX (by omega) ?_
         simp [h12]
         apply aa
         simp
         refine zb (.inl (.inl ⟨_, rfl⟩)) QX (by omega) ?_
         simp
         apply aa
         simp
         refine ⟨_, _, ⟨rfl, rfl⟩, rfl, ?_, fun _ => ?_⟩
         . split <;> omega
         . split <;> omega
       . simp [c]
         exact ⟨_, _, ⟨rfl, rfl⟩, h12, Int.le_refl _, fun h => absurd h (by omega)⟩
     rintro _ ⟨free, s12, rfl, h12, f1, f2⟩
     refine pW (fun ρ => ∃ (free : Int), ρ = [.own true [.int x, .int y, .int z], .val false (gw m ws), .val false (.int last), .val false (.int most), .own false (pl.map Tr.d), .val false (.int i), .val false (.int j), .val false (.int v.s), .val false (.int v.t), .val false (.int v.r), .val false (.int v.h), .val false (.int free), s12, sY] /\ free <= v.r /\ (1 <= v.s -> 0 < free -> free <= come ws pl v.s i - left ws pl v.s i) /\ (0 < free -> (i : Int) + v.h <= last /\ (pl.length : Int) + 1 <= most)) ?_ ?_
     . by_cases c1 : last < (i : Int) + v.h
       . simp [c1]
         first|apply aa|apply aq
         simp
         exact hr0
       . by_cases c2 : (pl.length : Int) = most
         . simp [c1, c2]
           first|apply aa|apply aq
           simp
           exact hr0
         . simp [c1, c2]
           exact ⟨f1, fun h _ => f2 h, fun _ => ⟨by omega, by omega⟩⟩
     rintro _ ⟨free, rfl, f1, f2, f3⟩
     first|apply aa|apply aq
     by_cases c : 0 < free
     . simp [c]
       refine aY (by decide) (by decide) fun d x z d0 d1 => ?_
       by_cases c3 : 0 < d
       . simp [c3]
         first|apply aa|apply aq
         simp
         refine aY (by decide) (by decide) fun a x z a0 a1 => ?_
         simp
         refine aY c (uq (by omega)) fun e x z e0 e1 => ?_
         simp [show -18446744073709551616 < a by omega, show a < 18446744073709551616 by omega, h13]
         have hae : 0 <= a * e /\ a * e <= e := by
          have : a = 0 \/ a = 1 := by omega
          rcases this with rfl | rfl
          . simp; omega
          . simp; omega
         first|apply aa|apply aq
         obtain ⟨f4, f5⟩ := f3 c
         simp [show pl.length < lim by show _ < 16777216; omega]
         obtain ⟨g1, g2⟩ := Ha (l := free - a * e) hp hb (by omega) hj (by omega) (by rw [W0]; omega) (by rw [W0]; omega) (by rw [W0]; intro h; have := f2 h c; omega)
         exact ⟨x, z, pl ++ [⟨i, j, free - a * e⟩], .val false (.int j), .val false (.int v.s), .val false (.int v.t), .val false (.int v.r), .val false (.int v.h), .val false (.int free), s12, .val false (.int (a * e)), by simp [Tr.d], ⟨rfl, rfl, rfl, rfl, rfl, rfl, h12, rfl⟩, g1, g2, by simp; omega⟩
       . simp [c3]
         exact ⟨x, z, pl, _, _, _, _, _, _, _, _, rfl, ⟨rfl, rfl, rfl, rfl, rfl, rfl, h12, h13⟩, hp, fun x hx => by have := hb x hx; omega, hn⟩
     . simp [c]
       exact ⟨x, z, pl, _, _, _, _, _, _, _, _, rfl, ⟨rfl, rfl, rfl, rfl, rfl, rfl, h12, h13⟩, hp, fun x hx => by have := hb x hx; omega, hn⟩
   . rintro _ ⟨x, z, pl, s6, s7, s8, s9, sX, ud, s12, sY, rfl, ⟨h6, h7, h8, h9, h10, h11, h12, h13⟩, hp, hb, hn⟩
     simp
     exact ⟨x, z, pl, _, _, _, _, _, _, _, _, _, rfl, ⟨rfl, h6, h7, h8, h9, h10, h11, h12, h13⟩, hp, fun x hx => by have := hb x hx; omega, hn⟩
 . rintro _ ⟨x, z, pl, s5, s6, s7, s8, s9, sX, ud, s12, sY, rfl, _, hp, hb, hn⟩
   first|apply aa|apply aq
   simp
   exact q pl x z hp hn
end T
end
section
namespace T
open HH
noncomputable def iZ (a b : Tr) : Prop := a.h < b.h \/ a.h = b.h /\ a.w < b.w
theorem pM {a b : Tr} : aP [a.h, a.w] [b.h, b.w] = true ↔ iZ a b := by simp [aP, iZ]
theorem cg : ∀ {pl : List Tr}, bW pl = true ↔ pl.Pairwise iZ
 | [] => by simp [bW]
 | [a] => by simp [bW]
 | a :: b :: r => by
   have ih := cg (pl := b :: r)
   simp only [bW, Bool.and_eq_true, pM, ih]
   rw [List.pairwise_cons (a := a)]
   refine ⟨fun ⟨h1, h2⟩ => ⟨fun c hc => ?_, h2⟩, fun ⟨h1, h2⟩ => ⟨h1 b (by simp), h2⟩⟩
   rcases List.mem_cons.mp hc with rfl | hc
   . exact h1
   . have := (List.pairwise_cons.mp h2).1 c hc
     unfold iZ at *; omega
noncomputable def neT (a b : Tr) : Prop := ¬ (a.h = b.h /\ a.w = b.w)
theorem Cg {pl : List Tr} : ∃ ks : List Tr, gZ (pl.map Tr.d) = ks.map Tr.d /\ ks.Perm pl /\ (pl.Pairwise neT -> bW ks = true) := by
 have hp := gD (pl.map Tr.d)
 have hs := fU (pl.map Tr.d)
 let g : D -> Tr := fun d => match d with | .tup [.int h, .int w, .int l] => ⟨h, w, l⟩ | _ => ⟨0, 0, 0⟩
 have hg : ∀ x : Tr, g x.d = x := fun x => rfl
 have e : gZ (pl.map Tr.d) = ((gZ (pl.map Tr.d)).map g).map Tr.d := by
  rw [List.map_map]
  refine ((List.map_congr_left fun d hd => ?_).trans (List.map_id _)).symm
  obtain ⟨i, _, rfl⟩ := List.mem_map.mp (hp.mem_iff.mp hd)
  rfl
 have hp2 : ((gZ (pl.map Tr.d)).map g).Perm pl := by
  have := hp.map g
  rw [List.map_map] at this
  exact this.trans (.of_eq ((List.map_congr_left fun d _ => rfl).trans (List.map_id _)))
 refine ⟨_, e, hp2, fun hn => ?_⟩
 rw [cg]
 have hn2 : ((gZ (pl.map Tr.d)).map g).Pairwise neT := (hp2.pairwise_iff (fun {a b} h => by unfold neT at *; omega)).mpr hn
 have hs2 : ((gZ (pl.map Tr.d)).map g).Pairwise fun a b => gq a.d b.d = true := by
  rw [e, List.pairwise_map] at hs
  exact hs
 refine (hs2.and hn2).imp fun {a b} ⟨h1, h2⟩ => ?_
 simp [gq, bz, Tr.d, dX, aP] at h1
 unfold neT at h2
 unfold iZ
 omega
theorem fV {pl : List Tr} (h : pl.length < 1000) : sortable (pl.map Tr.d) = true := by
 have h := (show pl.length <= 16777216 by omega)
 simp [sortable, h, kE, cL, Tr.d]
end T
end
section
namespace T
open HH
theorem BK {c : Call} {x : Nat} {ks : List P} {d : P} {ρ : List Sl} : ev c (.Ay x ks d) ρ = match ρ[x]? with
 | some (.eF _) => (evs c ks ρ).bind fun nC ρ => (eV (isVar d) (ev c d) ρ).bind fun dd ρ => match ρ[x]? with
   | some (.eF m) => lift ((m.tM nC).bind fun o => (m7 dd).map fun v => .val (.int (o.getD v))) ρ
   | _ => .stuck
 | _ => .stuck := by rw [ev] <;> rfl
theorem Hn {c : Call} {x : Nat} {ks : List P} {ρ : List Sl} : ev c (.QH x ks) ρ = (lift (pk ρ x) ρ).bind fun _ ρ => (evs c ks ρ).bind fun nC ρ => (lift (pk ρ x) ρ).bind fun dd ρ => lift (vX dd nC) ρ := by rw [ev] <;> rfl
theorem O8 {c : Call} {x : Nat} {ρ : List Sl} : ev c (.vw x) ρ = match ρ[x]? with
 | some (.eF m) => .ok (.val (.cD m)) (ρ.set x (.val false (.cD m)))
 | _ => .stuck := by rw [ev] <;> rfl
theorem zT {c : Call} {n x : Nat} {ρ : List Sl} : ex c n (.Ek x true) ρ = match ρ[x]? with
 | some .aX => .ok .next (ρ.set x (.eF (.t [])))
 | _ => .stuck := by rw [ex] <;> rfl
theorem yr {c : Call} {n x : Nat} {ks : List P} {e : P} {ρ : List Sl} : ex c n (.wu x ks e) ρ = (ev c e ρ).bind fun r ρ => match ρ[x]? with
 | some (.eF _) => (evs c ks ρ).bind fun nC ρ => match ρ[x]?, r with
   | some (.eF m), .val (.int v) => match m.G3 nC v with
     | some m' => .ok .next (ρ.set x (.eF m'))
     | none => .stuck
   | _, _ => .stuck
 | _ => .stuck := by rw [ex] <;> rfl
@[simp] theorem JN {x : Nat} {ks : List P} {d : P} : isVar (.Ay x ks d) = none := rfl
@[simp] theorem Mh {x : Nat} {ks : List P} : isVar (.QH x ks) = none := rfl
@[simp] theorem Qh {x : Nat} : isVar (.vw x) = none := rfl
theorem vg {kvs : List (List Int × Int)} {a b : Int} : Dc.tM (.t kvs) [.int a, .int b] = some ((kvs.find? fun kv => decide (kv.1 = [a, b])).map (·.2)) := rfl
theorem JP {kvs : List (List Int × Int)} {a b v : Int} (h : kvs.length < lim) : Dc.G3 (.t kvs) [.int a, .int b] v = some (.t (putD kvs [a, b] v)) := by
 show (if _ then _ else _) = _
 rw [if_pos ⟨rfl, h⟩]; rfl
noncomputable def Tr.kz (x : Tr) : List Int := [x.h, x.w]
noncomputable def wl (P : List Int -> Bool) (x : Tr) : Int := if P x.kz = true then x.l else 0
inductive JLd (all : List Tr) (a0 a1 : Sl) (r : List D) (ρ : List Sl) : Prop where
 | mk (rest : List Tr) (kvs : List (List Int × Int)) (s3 s4 s5 : Sl) (q0 : ρ = [a0, a1, .eF (.t kvs), s3, s4, s5]) (q1 : A3 (fr s3 = true) (fr s4 = true) (fr s5 = true)) (q2 : r = rest.map Tr.d) (q3 : (kvs.map (·.1)).Nodup) (q4 : kvs.length + rest.length <= all.length) (q5 : (∀ k ∈ kvs.map (·.1), ∃ x ∈ all, k = x.kz)) (q6 : (∀ x ∈ rest, x ∈ all)) (q7 : ∀ P, yh P kvs + sm (wl P) rest = sm (wl P) all)
theorem sr {k : List Int} : ∀ {r : List (List Int × Int)}, k ∈ r.map (·.1) -> (r.find? fun kv => decide (kv.1 = k)).map (·.2) = some (gv r k)
 | [], h => by simp at h
 | (a, b) :: r, h => by
   by_cases e : a = k
   . simp [gv, e]
   . simp at h
     have ih := sr (k := k) (r := r) (by rcases h with h | h; exact absurd h.symm e; simpa using h)
     simp [gv, e] at ih ⊢
     exact ih
noncomputable def Pu (kvs : List (List Int × Int)) (k : List Int) : Tr := ⟨k.headD 0, k.tail.headD 0, gv kvs k⟩
inductive F6l (a0 a1 a2 a3 a4 a5 : Sl) (ρ : List Sl) : Prop where
 | mk (s : Sl) (t : Sl) (q0 : ρ = [a0, a1, a2, a3, a4, a5, s, t]) (q1 : fr s = true) (q2 : fr t = true)
noncomputable def keyOf : D -> List Int
 | .tup ds => ds.map dX
 | _ => []
theorem VB {kvs : List (List Int × Int)} {k : List Int} (h : (kvs.map (·.1)).Nodup) : gv kvs k = yh (fun j => decide (j = k)) kvs := by
 induction kvs with
 | nil => rfl
 | cons p kvs ih =>
   obtain ⟨a, b⟩ := p
   simp only [List.map_cons, List.nodup_cons] at h
   rw [ie]
   unfold yh at ih ⊢
   rw [bD]
   by_cases e : a = k
   . subst e
     have : sm (fun kv : List Int × Int => if decide (kv.1 = a) = true then kv.2 else 0) kvs = 0 := vN fun kv hkv => by
      rw [if_neg]; intro z
      exact h.1 (List.mem_map.mpr ⟨kv, hkv, of_decide_eq_true z⟩)
     rw [if_pos rfl, this]; simp
   . rw [if_neg e, ih h.2, if_neg (by simpa using e)]; omega
theorem Vg {a b : Tr} : aP a.kz b.kz = true ↔ iZ a b := pM
theorem uI {kvs : List (List Int × Int)} (h : kvs.length < 1000) (hk : ∀ k ∈ kvs.map (·.1), ∃ x : Tr, k = x.kz) : blt .mX [.cD (.t kvs)] = some (.own (gZ (kvs.map fun p => .tup (p.1.map D.int)))) := by
 show (if _ then _ else _) = _
 rw [if_pos]
 have h := (show kvs.length <= 16777216 by omega)
 simp only [sortable, List.length_map, h, decide_true, Bool.true_and, Bool.or_eq_true]
 right
 rw [List.all_eq_true]
 intro d hd
 obtain ⟨p, hp, rfl⟩ := List.mem_map.mp hd
 obtain ⟨x, e⟩ := hk p.1 (List.mem_map.mpr ⟨p, hp, rfl⟩)
 rw [e]; rfl
theorem Aq {kvs : List (List Int × Int)} (hn : (kvs.map (·.1)).Nodup) (hk : ∀ k ∈ kvs.map (·.1), ∃ x : Tr, k = x.kz) :
 ∃ ks : List Tr, (gZ (kvs.map fun p => .tup (p.1.map D.int))) = ks.map (fun y => D.tup [.int y.h, .int y.w]) /\ (ks.map Tr.kz).Perm (kvs.map (·.1)) /\ (∀ y ∈ ks, y.l = gv kvs y.kz) /\ bW ks = true := by
 have hp := gD (kvs.map fun p => D.tup (p.1.map D.int))
 have hs := fU (kvs.map fun p => D.tup (p.1.map D.int))
 have hmem : ∀ d ∈ gZ (kvs.map fun p => D.tup (p.1.map D.int)), ∃ x : Tr, x.kz ∈ kvs.map (·.1) /\ d = .tup [.int x.h, .int x.w] := fun d hd => by
  obtain ⟨p, hp, rfl⟩ := List.mem_map.mp (hp.mem_iff.mp hd)
  have h1 : p.1 ∈ kvs.map (·.1) := List.mem_map.mpr ⟨p, hp, rfl⟩
  obtain ⟨x, e⟩ := hk p.1 h1
  exact ⟨x, by rw [<- e]; exact h1, by rw [e]; rfl⟩
 have e1 : gZ (kvs.map fun p => D.tup (p.1.map D.int)) = ((gZ (kvs.map fun p => D.tup (p.1.map D.int))).map fun d => Pu kvs (keyOf d)).map fun y => D.tup [.int y.h, .int y.w] := by
  rw [List.map_map]
  refine ((List.map_congr_left fun d hd => ?_).trans (List.map_id _)).symm
  obtain ⟨x, _, rfl⟩ := hmem d hd
  rfl
 have e2 : ((gZ (kvs.map fun p => D.tup (p.1.map D.int))).map fun d => Pu kvs (keyOf d)).map Tr.kz = (gZ (kvs.map fun p => D.tup (p.1.map D.int))).map keyOf := by
  rw [List.map_map]
  refine List.map_congr_left fun d hd => ?_
  obtain ⟨x, _, rfl⟩ := hmem d hd
  rfl
 have pk : ((gZ (kvs.map fun p => D.tup (p.1.map D.int))).map keyOf).Perm (kvs.map (·.1)) := by
  have := hp.map keyOf
  rw [List.map_map] at this
  refine this.trans (.of_eq (List.map_congr_left fun p hp => ?_))
  obtain ⟨x, e⟩ := hk p.1 (List.mem_map.mpr ⟨p, hp, rfl⟩)
  show keyOf (.tup (p.1.map D.int)) = p.1
  rw [e]; rfl
 refine ⟨_, e1, by rw [e2]; exact pk, fun y hy => ?_, ?_⟩
 . obtain ⟨d, hd, rfl⟩ := List.mem_map.mp hy
   obtain ⟨x, _, rfl⟩ := hmem d hd
   rfl
 . rw [cg, List.pairwise_map]
   have hnd : (gZ (kvs.map fun p => D.tup (p.1.map D.int))).Pairwise fun a b => keyOf a ≠ keyOf b := by
    have := pk.nodup_iff.mpr hn
    rw [List.Nodup, List.pairwise_map] at this
    exact this
   refine (hs.and hnd).imp_of_mem fun {a b} ha hb ⟨h1, h2⟩ => ?_
   obtain ⟨x, _, rfl⟩ := hmem a ha
   obtain ⟨y, _, rfl⟩ := hmem b hb
   have h2' : ¬ (x.h = y.h /\ x.w = y.w) := fun ⟨z1, z2⟩ => h2 (by show [x.h, x.w] = [y.h, y.w]; rw [z1, z2])
   have h1' : ¬ (aP [y.h, y.w] [x.h, x.w] = true) := by simpa [gq, bz] using h1
   rw [show (aP [y.h, y.w] [x.h, x.w] = true) = iZ y x from propext pM] at h1'
   show iZ x y
   unfold iZ at h1' ⊢
   omega
theorem lY {w n : Nat} {s0 s1 : Sl} {one other : List Tr} {Q : R -> List Sl -> Prop} (h0 : LS s0 (one.map Tr.d)) (h1 : LS s1 (other.map Tr.d)) (hl : one.length + other.length < 1000)
 (q : ∀ ks : List Tr, bW ks = true -> ks.length <= one.length + other.length -> (∀ P, sm (wl P) ks = sm (wl P) one + sm (wl P) other) -> (∀ y ∈ ks, ∃ x ∈ one ++ other, y.kz = x.kz) -> Q (.own (ks.map Tr.d)) [s0, s1]) :
 (run Γ w (n + 1) 0 [s0, s1]).sat Q := by
 have hp0 : pk [s0, s1, .eF (.t []), .aX, .aX, .aX] 0 = some (.lst (one.map Tr.d)) := by rcases h0 with ⟨b, rfl⟩ | ⟨b, rfl⟩ <;> rfl
 have hp1 : pk [s0, s1, .eF (.t []), .aX, .aX, .aX] 1 = some (.lst (other.map Tr.d)) := by rcases h1 with ⟨b, rfl⟩ | ⟨b, rfl⟩ <;> rfl
 have hlim : one.length + other.length <= lim := by show _ <= 16777216; omega
 refine bI (d := f0) rfl rfl (by decide) ?_
 first|apply aa|apply aq
 simp [f0, zT]
 apply aa
 simp [hp0, hp1, hlim]
 rw [<- List.map_append]
 refine dj (JLd (one ++ other) s0 s1) ?_ ?_ ⟨one ++ other, [], .aX, .aX, .aX, rfl, ⟨rfl, rfl, rfl⟩, rfl, by simp, by simp, by simp, fun _ h => h, fun P => by simp [yh]⟩
 . rintro d r _ ⟨rest, kvs, s3, s4, s5, rfl, ⟨h3, h4, h5⟩, hr, hn, hk, hm, hi, hd⟩
   cases rest with
   | nil => cases hr
   | cons x rest =>
     obtain ⟨rfl, rfl⟩ : d = x.d /\ r = rest.map Tr.d := by simpa using hr
     simp at hk
     have Bc : kvs.length < lim := by show _ < 16777216; omega
     obtain ⟨p1, p2, p3, p4⟩ := mW (k := x.kz) (v := gv kvs x.kz + x.l) hn
     simp [Tr.d, h3, h4, h5]
     apply aa
     simp [yr, BK, vg]
     rw [show (Option.map (fun x => x.snd) (List.find? (fun kv => decide (kv.fst = [x.h, x.w])) kvs)).getD 0 = gv kvs x.kz from rfl, JP Bc]
     simp
     refine ⟨rest, putD kvs x.kz (gv kvs x.kz + x.l), _, _, _, rfl, ⟨rfl, rfl, rfl⟩, rfl, p1, by simp; omega, fun k hk => ?_, fun y hy => hi y (by simp [hy]), fun P => ?_⟩
     . rcases p3 k hk with rfl | z
       . exact ⟨x, hi x (by simp), rfl⟩
       . exact hm k z
     . have := hd P
       rw [p4 P]
       simp only [bD, wl] at this ⊢
       split <;> split at this <;> simp_all <;> omega
 . rintro _ ⟨rest, kvs, s3, s4, s5, rfl, ⟨h3, h4, h5⟩, hr, hn, hk, hm, hi, hd⟩
   have hr' : rest = [] := by cases rest with | nil => rfl | cons _ _ => cases hr
   subst hr'
   simp at hk
   have hk' : ∀ k ∈ kvs.map (·.1), ∃ x : Tr, k = x.kz := fun k hk => by obtain ⟨x, _, e⟩ := hm k hk; exact ⟨x, e⟩
   obtain ⟨ks, g1, g2, g3, g4⟩ := Aq hn hk'
   have hlk : ks.length = kvs.length := by have := g2.length_eq; simpa using this
   apply aa
   simp [O8, uI (show kvs.length < 1000 by omega) hk', g1]
   refine ⟨fun _ => ?_, by show _ <= 16777216; omega⟩
   refine dM (F6l _ _ _ _ _ _) (fun d => (Pu kvs (keyOf d)).d) ⟨.aX, .aX, rfl, rfl, rfl⟩ ?_ ?_
   . rintro d hd' _ ⟨s, t, rfl, hs, ht⟩
     obtain ⟨y, hy, rfl⟩ := List.mem_map.mp hd'
     have hky : y.kz ∈ kvs.map (·.1) := g2.mem_iff.mp (List.mem_map.mpr ⟨y, hy, rfl⟩)
     have hgt : vX (.cD (.t kvs)) [.int y.h, .int y.w] = some (.val (.int (gv kvs y.kz))) := by
      rw [show vX (.cD (.t kvs)) [.int y.h, .int y.w] = (Dc.tM (.t kvs) [.int y.h, .int y.w]).bind (fun o => o.map fun v => R.val (.int v)) from rfl, vg, Option.bind_some]
      have z := sr hky
      rw [show y.kz = [y.h, y.w] from rfl] at z ⊢
      rw [z]; rfl
     simp [hs, ht, Hn, hgt, keyOf, Pu, Tr.d]
     exact ⟨rfl, _, _, rfl, rfl, rfl⟩
   . rintro _ ⟨s, t, rfl, hs, ht⟩
     have e : (ks.map (fun y => D.tup [.int y.h, .int y.w])).map (fun d => (Pu kvs (keyOf d)).d) = ks.map Tr.d := by
      rw [List.map_map]
      refine List.map_congr_left fun y hy => ?_
      show (Tr.mk y.h y.w (gv kvs y.kz)).d = y.d
      rw [<- g3 y hy]
     rw [e]
     simp
     refine q ks g4 (by omega) (fun P => ?_) fun y hy => ?_
     . have h1 := hd P
       rw [gJ] at h1
       simp at h1
       rw [<- h1, qi hn, <- vV g2, J2]
       refine gQ fun y hy => ?_
       unfold wl
       rw [g3 y hy]
     . obtain ⟨x, hx, e⟩ := hm _ (g2.mem_iff.mp (List.mem_map.mpr ⟨y, hy, rfl⟩))
       exact ⟨x, hx, e⟩
end T
end
section
namespace T
open HH
noncomputable def gd : Nat -> D -> Bool
 | _, .non => true
 | _, .int _ => true
 | k + 1, .tup ds => decide (ds.length <= 1000) && ds.all (gd k)
 | k + 1, .lst ds => decide (ds.length <= 1000) && ds.all (gd k)
 | _, _ => false
theorem R8 {α : Type} {l : List α} : (l.map fun _ => D.bl true).mapM rY = some (l.map fun _ => true) := by
 induction l with
 | nil => rfl
 | cons a l ih => simp [ih]
theorem all_true {α : Type} {l : List α} : (l.map fun _ => true).all id = true := by simp
theorem gP : ∀ (k : Nat) (d : D), gd k d = true -> aW d d = true := by
 have seq : ∀ (k : Nat), (∀ d, gd k d = true -> aW d d = true) -> ∀ ds : List D, ds.all (gd k) = true -> dI ds ds = true := by
  intro k ih ds
  induction ds with
  | nil => intro _; rw [dI]
  | cons d ds ihd =>
    intro h
    rw [List.all_cons, Bool.and_eq_true] at h
    rw [dI, ih d h.1, ihd h.2]; rfl
 intro k
 induction k with
 | zero => intro d g; cases d with
   | non => rw [aW]
   | int i => rw [aW]; simp
   | bl b => cases g
   | str s => cases g
   | cD s => cases g
   | tup ds => cases g
   | lst ds => cases g
 | succ k ih => intro d g; cases d with
   | non => rw [aW]
   | int i => rw [aW]; simp
   | bl b => cases g
   | str s => cases g
   | cD s => cases g
   | tup ds => rw [gd, Bool.and_eq_true] at g; rw [aW]; exact seq k ih ds g.2
   | lst ds => rw [gd, Bool.and_eq_true] at g; rw [aW]; exact seq k ih ds g.2
theorem yQ : ∀ (k j : Nat) (d : D), k <= j -> gd k d = true -> cH j d = true := by
 intro k
 induction k with
 | zero => intro j d _ g; cases d with
   | non => rw [cH]
   | int i => rw [cH]
   | bl b => cases g
   | str s => cases g
   | cD s => cases g
   | tup ds => cases g
   | lst ds => cases g
 | succ k ih => intro j d hj g; cases d with
   | non => rw [cH]
   | int i => rw [cH]
   | bl b => cases g
   | str s => cases g
   | cD s => cases g
   | tup ds =>
     rw [gd, Bool.and_eq_true] at g
     obtain ⟨j, rfl⟩ : ∃ i, j = i + 1 := ⟨j - 1, by omega⟩
     exact yx fun d hd => ih j d (by omega) (List.all_eq_true.mp g.2 d hd)
   | lst ds =>
     rw [gd, Bool.and_eq_true] at g
     obtain ⟨j, rfl⟩ : ∃ i, j = i + 1 := ⟨j - 1, by omega⟩
     exact vy fun d hd => ih j d (by omega) (List.all_eq_true.mp g.2 d hd)
theorem ne_self {k : Nat} {d : D} (hk : k <= 8) (h : gd k d = true) : cm .ne d d = some false := by
 show pK d d = _
 unfold pK
 rw [yQ k 8 d hk h, gP k d h]; rfl
theorem eq_self {k : Nat} {d : D} (hk : k <= 8) (h : gd k d = true) : cm .eq d d = some true := by
 show qj d d = _
 unfold qj
 rw [yQ k 8 d hk h, gP k d h]; rfl
end T
end
section
namespace T
open HH
theorem yF {a b h k : Int} : cm .eq (.tup [.int a, .int b]) (.tup [.int h, .int k]) = some (decide (a = h /\ b = k)) := by
 show qj _ _ = _
 have e : aW (.tup [.int a, .int b]) (.tup [.int h, .int k]) = decide (a = h /\ b = k) := by
  simp only [aW, dI, Bool.and_true]
  rw [Bool.eq_iff_iff]; simp
 show some (aW (.tup [.int a, .int b]) (.tup [.int h, .int k])) = _
 rw [e]
theorem vG {x : Tr} : Mq x.d (some none) (some (some 2)) = some (.val (.tup [.int x.h, .int x.w])) := rfl
end T
end
section
namespace T
open HH
noncomputable def Hx (a b : Tr) : Prop := a.h < b.h \/ a.h = b.h /\ a.w <= b.w
noncomputable def GJ (g : Int -> Int -> Int) (pl : List Tr) : Int := sm (fun x => g x.h x.w * x.l) pl
structure Mg (ts acc rest : List Tr) : Prop where
 Gr : acc.Pairwise iZ
 ord : ∀ a ∈ acc, ∀ x ∈ rest, Hx a x
 rst : rest.Pairwise Hx
 sum : ∀ g, GJ g acc + GJ g rest = GJ g ts
 key : ∀ a ∈ acc, ∃ y ∈ ts, y.h = a.h /\ y.w = a.w
 pos : ∀ a ∈ acc, 1 <= a.l
 sub : ∀ x ∈ rest, x ∈ ts
 len : acc.length + rest.length <= ts.length
theorem yI {ts acc rest : List Tr} {x : Tr} (h : Mg ts acc (x :: rest)) (hl : 1 <= x.l) (hn : ∀ init z, acc = init ++ [z] -> ¬ (z.h = x.h /\ z.w = x.w)) : Mg ts (acc ++ [x]) rest := by
 have hr := List.pairwise_cons.mp h.rst
 have hlt : ∀ a ∈ acc, iZ a x := by
  rcases List.eq_nil_or_concat acc with e | ⟨init, z, e⟩
  . rw [e]; simp
  . rw [List.concat_eq_append] at e
    have hz := hn init z e
    have hzx := h.ord z (by rw [e]; simp) x (by simp)
    have hz2 : iZ z x := by unfold Hx at hzx; unfold iZ; omega
    intro a ha
    rw [e] at ha
    rcases List.mem_append.mp ha with ha | ha
    . have h2 := h.Gr
      rw [e, List.pairwise_append] at h2
      have := h2.2.2 a ha z (by simp)
      unfold iZ at *; omega
    . rw [List.mem_singleton.mp ha]; exact hz2
 refine ⟨?_, fun a ha y hy => ?_, hr.2, fun g => ?_, fun a ha => ?_, fun a ha => ?_, fun y hy => h.sub y (by simp [hy]), by have := h.len; simp at this ⊢; omega⟩
 . rw [List.pairwise_append]
   exact ⟨h.Gr, by simp, fun a ha b hb => by rw [List.mem_singleton.mp hb]; exact hlt a ha⟩
 . rcases List.mem_append.mp ha with ha | ha
   . exact h.ord a ha y (by simp [hy])
   . rw [List.mem_singleton.mp ha]; exact hr.1 y hy
 . have := h.sum g
   unfold GJ at *
   rw [gJ]
   simp at this ⊢
   omega
 . rcases List.mem_append.mp ha with ha | ha
   . exact h.key a ha
   . rw [List.mem_singleton.mp ha]; exact ⟨x, h.sub x (by simp), rfl, rfl⟩
 . rcases List.mem_append.mp ha with ha | ha
   . exact h.pos a ha
   . rw [List.mem_singleton.mp ha]; exact hl
theorem Jj {ts init rest : List Tr} {x z : Tr} (h : Mg ts (init ++ [z]) (x :: rest)) (hl : 1 <= x.l) (hn : z.h = x.h /\ z.w = x.w) : Mg ts (init ++ [⟨x.h, x.w, z.l + x.l⟩]) rest := by
 have hr := List.pairwise_cons.mp h.rst
 have h2 := List.pairwise_append.mp h.Gr
 refine ⟨?_, fun a ha y hy => ?_, hr.2, fun g => ?_, fun a ha => ?_, fun a ha => ?_, fun y hy => h.sub y (by simp [hy]), by have := h.len; simp at this ⊢; omega⟩
 . rw [List.pairwise_append]
   refine ⟨h2.1, by simp, fun a ha b hb => ?_⟩
   rw [List.mem_singleton.mp hb]
   have := h2.2.2 a ha z (by simp)
   unfold iZ at *
   show a.h < x.h \/ a.h = x.h /\ a.w < x.w
   omega
 . rcases List.mem_append.mp ha with ha | ha
   . exact h.ord a (by simp [ha]) y (by simp [hy])
   . rw [List.mem_singleton.mp ha]; exact hr.1 y hy
 . have := h.sum g
   unfold GJ at *
   rw [gJ] at this ⊢
   simp [hn] at this ⊢
   rw [Int.mul_add]
   omega
 . rcases List.mem_append.mp ha with ha | ha
   . exact h.key a (by simp [ha])
   . rw [List.mem_singleton.mp ha]; exact ⟨x, h.sub x (by simp), rfl, rfl⟩
 . rcases List.mem_append.mp ha with ha | ha
   . exact h.pos a (by simp [ha])
   . rw [List.mem_singleton.mp ha]
     have := h.pos z (by simp)
     show 1 <= z.l + x.l
     omega
theorem uU {pl : List Tr} : cm .ne (.lst (pl.map Tr.d)) (.lst []) = some (!pl.isEmpty) := by
 show pK _ _ = _
 unfold pK
 rw [vy (k := 7) (fun d hd => by obtain ⟨x, _, rfl⟩ := List.mem_map.mp hd; rfl)]
 cases pl <;> simp [aW, dI, cH]
theorem Hk {pl : List Tr} : ∃ ks : List Tr, gZ (pl.map Tr.d) = ks.map Tr.d /\ ks.Perm pl /\ ks.Pairwise Hx := by
 have hp := gD (pl.map Tr.d)
 have hs := fU (pl.map Tr.d)
 obtain ⟨ks, e, hp2, _⟩ := Cg (pl := pl)
 refine ⟨ks, e, hp2, ?_⟩
 rw [e, List.pairwise_map] at hs
 refine hs.imp fun {a b} h1 => ?_
 simp [gq, bz, Tr.d, dX, aP] at h1
 unfold Hx
 omega
inductive JM (ts : List Tr) (a0 : Sl) (r : List D) (ρ : List Sl) : Prop where
 | mk (acc rest : List Tr) (s2 s3 s4 : Sl) (q0 : ρ = [a0, .own false (acc.map Tr.d), s2, s3, s4]) (q1 : A3 (fr s2 = true) (fr s3 = true) (fr s4 = true)) (q2 : r = rest.map Tr.d) (q3 : Mg ts acc rest)
theorem tG {w n : Nat} {b : Bool} {ts : List Tr} {Q : R -> List Sl -> Prop} (hl : ts.length < 1000) (hpos : ∀ x ∈ ts, 1 <= x.l)
 (q : ∀ pl : List Tr, Mg ts pl [] -> Q (.own (pl.map Tr.d)) [.own b (ts.map Tr.d)]) : (run Γ w (n + 1) 12 [.own b (ts.map Tr.d)]).sat Q := by
 refine bI (d := Rw) rfl rfl (by decide) ?_
 first|apply aa|apply aq
 simp [Rw]
 obtain ⟨ks, e1, e2, e3⟩ := Hk (pl := ts)
 have hb : blt .sorted [.lst (ts.map Tr.d)] = some (.own (ks.map Tr.d)) := by
  show (if _ then _ else _) = _
  rw [if_pos (fV hl), e1]
 first|apply aa|apply aq
 simp [hb]
 refine dj (JM ts _) ?_ ?_ ⟨[], ks, .aX, .aX, .aX, rfl, ⟨rfl, rfl, rfl⟩, rfl, ⟨by simp, by simp, e3, fun g => by unfold GJ; rw [vV e2]; simp, by simp, by simp, fun x hx => e2.mem_iff.mp hx, by simp [e2.length_eq]⟩⟩
 . rintro d r _ ⟨acc, rest, s2, s3, s4, rfl, ⟨h2, h3, h4⟩, hr, hm⟩
   cases rest with
   | nil => cases hr
   | cons x rest =>
     obtain ⟨rfl, rfl⟩ : d = x.d /\ r = rest.map Tr.d := by simpa using hr
     have hx := hpos x (hm.sub x (by simp))
     have hlen := hm.len
     simp at hlen
     have hlim : acc.length < lim := by show _ < 16777216; omega
     simp [Tr.d, h2, h3, h4]
     apply aa
     rcases List.eq_nil_or_concat acc with e | ⟨init, z, e⟩
     . subst e
       have en := uU (pl := [])
       simp at en
       simp [en]
       apply aa
       simp
       exact ⟨[x], rest, _, _, _, rfl, ⟨rfl, rfl, rfl⟩, rfl, yI hm hx (fun i z h => by simp at h)⟩
     . rw [List.concat_eq_append] at e
       subst e
       have en : cm .ne (.lst (init.map Tr.d ++ [z.d])) (.lst []) = some true := by
        have := uU (pl := init ++ [z])
        rw [show (init ++ [z]).isEmpty = false by cases init <;> rfl] at this
        simpa using this
       by_cases c : z.h = x.h /\ z.w = x.w
       . simp [en, pC, part, zE, vG, yF, c]
         first|apply aa|apply aq
         have hix : iW (init.length + 1) (-1) = some init.length := by
          unfold iW; rw [if_neg (by decide), if_pos (by omega)]; congr 1; omega
         simp [pC, Hh, hix]
         exact ⟨init ++ [⟨x.h, x.w, z.l + x.l⟩], rest, .val false (.int x.h), .val false (.int x.w), .val false (.int x.l), by simp [Tr.d], ⟨rfl, rfl, rfl⟩, rfl, Jj hm hx c⟩
       . simp [en, pC, part, zE, vG, yF]
         refine ⟨fun z1 z2 => absurd ⟨z1, z2⟩ c, fun _ => ?_⟩
         first|apply aa|apply aq
         simp at hlim
         simp [hlim]
         exact ⟨init ++ [z] ++ [x], rest, .val false (.int x.h), .val false (.int x.w), .val false (.int x.l), by simp [Tr.d], ⟨rfl, rfl, rfl⟩, rfl, yI hm hx (fun i z' h => by
          obtain ⟨_, h⟩ := List.append_inj' h rfl
          simp at h
          rw [<- h]; exact c)⟩
 . rintro _ ⟨acc, rest, s2, s3, s4, rfl, _, hr, hm⟩
   have hr' : rest = [] := by cases rest with | nil => rfl | cons _ _ => cases hr
   subst hr'
   first|apply aa|apply aq
   simp
   exact q acc hm
end T
end
section
namespace T
open HH
theorem xH {pl : List Tr} (hr : bW pl = true) (hl : pl.length < 1000) : gZ (pl.map Tr.d) = pl.map Tr.d := by
 refine (mH (fV hl) (.refl _) ?_).symm
 rw [List.pairwise_map]
 rw [cg] at hr
 refine hr.imp fun {a b} h => ?_
 unfold iZ at h
 simp [gq, bz, Tr.d, dX, aP]
 omega
theorem uc {pl : List Tr} (hr : bW pl = true) (hl : pl.length < 1000) : blt .sorted [.lst (pl.map Tr.d)] = some (.own (pl.map Tr.d)) := by
 show (if _ then _ else _) = _
 rw [if_pos (fV hl), xH hr hl]
noncomputable def Xo (ws : List Wy) (t : Int) (pl : List Tr) : List Tr := pl.filter fun x => decide (rK ws x <= t)
noncomputable def sh (b : Int) (x : Tr) : Tr := ⟨x.h + b, x.w, x.l⟩
noncomputable def K5 (b : Int) (d : D) : D := (sh b (qp d)).d
theorem yD {b : Int} {pl : List Tr} (h : bW pl = true) : bW (pl.map (sh b)) = true := by
 rw [cg] at h ⊢
 rw [List.pairwise_map]
 refine h.imp fun {x y} h => ?_
 unfold iZ sh at *
 simp only
 omega
inductive F5s (a0 a1 : Sl) (ρ : List Sl) : Prop where
 | mk (s t u : Sl) (q0 : ρ = [a0, a1, s, t, u]) (q1 : fr s = true) (q2 : fr t = true) (q3 : fr u = true)
theorem wU {w n : Nat} {b : Int} {s0 : Sl} {pl : List Tr} {Q : R -> List Sl -> Prop} (hs0 : LS s0 (pl.map Tr.d)) (hr : bW pl = true) (hl : pl.length < 1000)
 (q : Q (.own ((pl.map (sh b)).map Tr.d)) [s0, .val false (.int b)]) : (run Γ w (n + 1) 1 [s0, .val false (.int b)]).sat Q := by
 have hlim : pl.length <= lim := by show _ <= 16777216; omega
 refine bI (d := f1) rfl rfl (by decide) ?_
 first|apply aa|apply aq
 obtain ⟨s', g1, g2⟩ := qg (ρ := [s0, .val false (.int b)]) (k := 0) (e := ev (run Γ w n) (.var 0)) rfl hs0
 simp [f1, g1, hlim, -iM, -di]
 refine dM (F5s _ _) (K5 b) ⟨.aX, .aX, .aX, rfl, rfl, rfl, rfl⟩ ?_ ?_
 . rintro d hd _ ⟨s, t, u, rfl, hs, ht, hu⟩
   obtain ⟨x, hx, rfl⟩ := List.mem_map.mp hd
   simp [hs, ht, hu, Tr.d, K5, sh]
   first | exact ⟨_, _, _, rfl, rfl, rfl, rfl⟩ | exact ⟨rfl, _, _, _, rfl, rfl, rfl, rfl⟩
 rintro _ ⟨s, t, u, rfl, hs, ht, hu⟩
 have e : (pl.map Tr.d).map (K5 b) = (pl.map (sh b)).map Tr.d := by rw [List.map_map, List.map_map]; rfl
 rw [e]
 simp only [List.take_succ_cons, List.take_zero]
 rw [g2 _ rfl]
 have hb := uc (yD (b := b) hr) (by simpa using hl)
 simp only [Jl, hb, nA, List.set_cons_zero, List.set_cons_succ, bf, zq]
 exact q
end T
end
section
namespace T
open HH
theorem Ad {g : Tr -> Int} : ∀ {l : List Tr}, (∀ x ∈ l, 0 <= g x) -> ∀ y ∈ l, g y <= sm g l
 | [], _, y, hy => by cases hy
 | x :: l, h, y, hy => by
   rw [bD]
   have h0 := h x (by simp)
   have hl : ∀ z ∈ l, 0 <= g z := fun z hz => h z (by simp [hz])
   rcases List.mem_cons.mp hy with rfl | hy
   . have : 0 <= sm g l := by
      have := Ey (f := fun _ => 0) (g := g) (l := l) hl
      rwa [vN fun _ _ => rfl] at this
     omega
   . have := Ad hl y hy
     omega
noncomputable def atK (y x : Tr) : Bool := decide (x.h = y.h) && decide (x.w = y.w)
theorem vY {y : Tr} : ∀ {l : List Tr}, (∀ x ∈ l, ¬ (x.h = y.h /\ x.w = y.w)) -> sm (fun x => if x.h = y.h /\ x.w = y.w then x.l else 0) l = 0
 | [], _ => rfl
 | x :: l, h => by rw [bD, if_neg (h x (by simp)), vY fun z hz => h z (by simp [hz])]; rfl
theorem pq {y : Tr} : ∀ {l : List Tr}, l.Pairwise iZ -> y ∈ l -> sm (fun x => if x.h = y.h /\ x.w = y.w then x.l else 0) l = y.l
 | x :: l, h, hy => by
   rw [List.pairwise_cons] at h
   rw [bD]
   rcases List.mem_cons.mp hy with rfl | hy
   . rw [if_pos ⟨rfl, rfl⟩, vY fun z hz => by have := h.1 z hz; unfold iZ at this; omega]; omega
   . rw [if_neg (by have := h.1 y hy; unfold iZ at this; omega), pq h.2 hy]; omega
theorem v8 {y : Tr} : ∀ {l : List Tr}, sm (fun x => if x.h = y.h /\ x.w = y.w then x.l else 0) l ≠ 0 -> ∃ x ∈ l, x.h = y.h /\ x.w = y.w
 | [], h => absurd rfl h
 | x :: l, h => by
   by_cases c : x.h = y.h /\ x.w = y.w
   . exact ⟨x, by simp, c⟩
   . rw [bD, if_neg c] at h
     obtain ⟨z, hz, e⟩ := v8 (y := y) (l := l) (by omega)
     exact ⟨z, by simp [hz], e⟩
theorem uP {a b : List Tr} (ha : a.Pairwise iZ) (hb : b.Pairwise iZ) (hp : ∀ x ∈ a, 1 <= x.l) (h : ∀ y : Tr, sm (fun x => if x.h = y.h /\ x.w = y.w then x.l else 0) a = sm (fun x => if x.h = y.h /\ x.w = y.w then x.l else 0) b) : ∀ y ∈ a, y ∈ b := fun y hy => by
 have e1 := pq ha hy
 have := hp y hy
 rw [h y] at e1
 obtain ⟨z, hz, z1, z2⟩ := v8 (y := y) (l := b) (by omega)
 have e2 := pq hb hz
 rw [z1, z2, e1] at e2
 have : z = y := by obtain ⟨z3, z4, z5⟩ := z; obtain ⟨y3, y4, y5⟩ := y; simp at *; exact ⟨z1, z2, e2.symm⟩
 rwa [<- this]
theorem BL {a b : List Tr} (ha : a.Pairwise iZ) (hb : b.Pairwise iZ) (hp : ∀ x ∈ a, 1 <= x.l) (hq : ∀ x ∈ b, 1 <= x.l) (h : ∀ y : Tr, sm (fun x => if x.h = y.h /\ x.w = y.w then x.l else 0) a = sm (fun x => if x.h = y.h /\ x.w = y.w then x.l else 0) b) : a = b := by
 have nd : ∀ {l : List Tr}, l.Pairwise iZ -> l.Nodup := fun h => h.imp fun {x y} z e => by subst e; unfold iZ at z; omega
 have pm : a.Perm b := (List.perm_ext_iff_of_nodup (nd ha) (nd hb)).mpr fun y => ⟨uP ha hb hp h y, uP hb ha hq (fun y => (h y).symm) y⟩
 exact List.Perm.eq_of_pairwise (le := iZ) (fun x y _ _ h1 h2 => by unfold iZ at *; omega) ha hb pm
theorem zK {y : Tr} {l : List Tr} : sm (wl fun k => k == y.kz) l = sm (fun x => if x.h = y.h /\ x.w = y.w then x.l else 0) l := gQ fun x _ => by
 unfold wl Tr.kz
 by_cases c : x.h = y.h /\ x.w = y.w
 . rw [if_pos c, if_pos (by simp [c])]
 . rw [if_neg c, if_neg (by simpa using c)]
theorem tH {y : Tr} {l : List Tr} : GJ (fun h w => if h = y.h /\ w = y.w then 1 else 0) l = sm (fun x => if x.h = y.h /\ x.w = y.w then x.l else 0) l := gQ fun x _ => by
 show (if x.h = y.h /\ x.w = y.w then 1 else 0) * x.l = _
 by_cases c : x.h = y.h /\ x.w = y.w
 . rw [if_pos c, if_pos c]; omega
 . rw [if_neg c, if_neg c]; omega
theorem lZ {one other ks : List Tr} {P : List Tr} (h1 : ∀ x ∈ one, 1 <= x.l) (h2 : ∀ x ∈ other, 1 <= x.l) (hr : bW ks = true) (hs : ∀ Q, sm (wl Q) ks = sm (wl Q) one + sm (wl Q) other) (hk : ∀ y ∈ ks, ∃ x ∈ one ++ other, y.kz = x.kz)
 (hP : P.Pairwise iZ) (hp : ∀ x ∈ P, 1 <= x.l) (he : ∀ y : Tr, sm (fun x => if x.h = y.h /\ x.w = y.w then x.l else 0) P = sm (fun x => if x.h = y.h /\ x.w = y.w then x.l else 0) (one ++ other)) : ks = P := by
 rw [cg] at hr
 have he' : ∀ y : Tr, sm (fun x => if x.h = y.h /\ x.w = y.w then x.l else 0) ks = sm (fun x => if x.h = y.h /\ x.w = y.w then x.l else 0) P := fun y => by
  rw [he y, gJ, <- zK, <- zK, <- zK, hs]
 refine BL hr hP (fun y hy => ?_) hp he'
 obtain ⟨x, hx, e⟩ := hk y hy
 have e1 := pq hr hy
 rw [he' y, he y] at e1
 have hx1 : 1 <= x.l := (List.mem_append.mp hx).elim (h1 x) (h2 x)
 have := Ad (g := fun x => if x.h = y.h /\ x.w = y.w then x.l else 0) (l := one ++ other) (fun z hz => by
  have : 1 <= z.l := (List.mem_append.mp hz).elim (h1 z) (h2 z)
  split <;> omega) x hx
 have ek : x.h = y.h /\ x.w = y.w := by unfold Tr.kz at e; simp at e; omega
 simp only [ek, and_self, if_true] at this
 omega
end T
end
section
namespace T
open HH
theorem BW {c : Call} {n x : Nat} {a b : P} {body : List S} {ρ : List Sl} : ex c n (.El x a b body) ρ = (ev c a ρ).bind fun r ρ => (ev c b ρ).bind fun u ρ => match r, u with
 | .own ds, .own es => iB x (fc c n body) [ds, es] ρ
 | _, _ => .stuck := by rw [ex] <;> rfl
theorem mL {x : Nat} {body : List Sl -> Res Fl} (J : List (List D) -> List Sl -> Prop) {Q : Fl -> List Sl -> Prop} (hb : ∀ d r ρ, J (d :: r) ρ -> ∃ ρ1, put ρ x (.own false d) = some ρ1 /\ (body ρ1).sat (fQ (J r) Q)) (hq : ∀ ρ, J [] ρ -> Q .next ρ) : ∀ {l : List (List D)} {ρ : List Sl}, J l ρ -> (iB x body l ρ).sat Q
 | [], ρ, j => hq ρ j
 | d :: r, ρ, j => by
   obtain ⟨ρ1, e, h⟩ := hb d r ρ j
   rw [iB, e]
   show ((body ρ1).bind _).sat Q
   rw [bf]
   refine h.imp fun fl ρ2 q => ?_
   cases fl with
   | next => exact mL J hb hq q
   | cont => exact mL J hb hq q
   | brk => exact q
   | ret v => exact q
theorem lH {pl : List Tr} (h : pl.length <= 1000) : gd 2 (.lst (pl.map Tr.d)) = true := by
 rw [gd]
 simp only [List.length_map, h, decide_true, Bool.true_and, List.all_eq_true]
 intro d hd
 obtain ⟨x, _, rfl⟩ := List.mem_map.mp hd
 rfl
theorem zx {a b : List Tr} (ha : a.length <= 1000) (hb : b.length <= 1000) : gd 3 (.lst [.lst (a.map Tr.d), .lst (b.map Tr.d)]) = true := by
 rw [gd]
 simp [lH ha, lH hb]
inductive F4p (a0 a1 a2 : Sl) (ρ : List Sl) : Prop where
 | mk (s : Sl) (q0 : ρ = [a0, a1, a2, s]) (q1 : fr s = true)
inductive JPL (a0 a1 : Sl) (r : List D) (ρ : List Sl) : Prop where
 | mk (rest : List Tr) (s2 : Sl) (q0 : ρ = [a0, a1, s2]) (q1 : fr s2 = true) (q2 : r = rest.map Tr.d)
theorem fX {w n : Nat} {b0 : Bool} {s1 : Sl} {pl : List Tr} {Q : R -> List Sl -> Prop} (hl : pl.length <= 1000) (h1 : LS s1 (pl.map Tr.d)) (q : Q (.val (.bl true)) [.own b0 (pl.map Tr.d), s1]) :
 (run Γ w (n + 1) 11 [.own b0 (pl.map Tr.d), s1]).sat Q := by
 have hne := ne_self (by decide) (lH hl)
 have h3 : 3 <= lim := by decide
 have hp1 : pk [.own b0 (pl.map Tr.d), s1, .aX] 1 = some (.lst (pl.map Tr.d)) := by rcases h1 with ⟨b, rfl⟩ | ⟨b, rfl⟩ <;> rfl
 refine bI (d := f11) rfl rfl (by decide) ?_
 first|apply aa|apply aq
 simp [f11, hne, bH, hp1]
 apply aa
 simp
 refine dj (JPL _ _) ?_ ?_ ⟨pl, .aX, rfl, rfl, rfl⟩
 . rintro d r _ ⟨rest, s2, rfl, h2, hr⟩
   cases rest with
   | nil => cases hr
   | cons x rest =>
     obtain ⟨rfl, rfl⟩ : d = x.d /\ r = rest.map Tr.d := by simpa using hr
     simp [h2]
     apply aa
     simp [Tr.d, bH, h3]
     refine dM (F4p _ _ _) (fun _ => .bl false) ⟨.aX, rfl, rfl⟩ ?_ ?_
     . rintro d hd _ ⟨s, rfl, hs⟩
       have : ∃ i, d = D.int i := by
        simp at hd
        rcases hd with rfl | rfl | rfl <;> exact ⟨_, rfl⟩
       obtain ⟨i, rfl⟩ := this
       simp [hs, bH]
       exact ⟨_, rfl, rfl⟩
     . rintro _ ⟨s, rfl, hs⟩
       simp
       exact ⟨rest, _, rfl, rfl, rfl⟩
 . rintro _ ⟨rest, s2, rfl, h2, hr⟩
   simp
   apply aa
   simp
   exact q
end T
end
section
namespace T
open HH
theorem F5b : True := trivial
inductive JLt (pl : List Tr) (b : Int) (_ : Nat) (ρ : List Sl) : Prop where
 | mk (s4 s5 : Sl) (q0 : ρ = [.val false (.lst (pl.map Tr.d)), .val false (.int b), .own false (pl.map Tr.d), .own false ((pl.map (sh b)).map Tr.d), s4, s5]) (q1 : fr s4 = true) (q2 : fr s5 = true)
inductive F9 (a0 a1 a2 a3 a4 a5 : Sl) (ρ : List Sl) : Prop where
 | mk (s t u : Sl) (q0 : ρ = [a0, a1, a2, a3, a4, a5, s, t, u]) (q1 : fr s = true) (q2 : fr t = true) (q3 : fr u = true)
theorem lN {w n : Nat} {b : Int} {pl : List Tr} {Q : R -> List Sl -> Prop} (hr : bW pl = true) (hl : pl.length <= 40) (q : Q (.val (.bl true)) [.val false (.lst (pl.map Tr.d)), .val false (.int b)]) :
 (run Γ w (n + 2) 14 [.val false (.lst (pl.map Tr.d)), .val false (.int b)]).sat Q := by
 have hlim : pl.length <= lim := by show _ <= 16777216; omega
 have Bc : pl.length < lim := by show _ < 16777216; omega
 have hne := ne_self (by decide) (lH (pl := pl) (by omega))
 have heq := eq_self (by decide) (lH (pl := pl) (by omega))
 refine bI (d := Rb) rfl rfl (by decide) ?_
 first|apply aa|apply aq
 simp [Rb]
 apply aa
 simp [hlim]
 refine dM (F9 _ _ _ _ _ _) (K5 b) ⟨.aX, .aX, .aX, rfl, rfl, rfl, rfl⟩ ?_ ?_
 . rintro d hd _ ⟨s, t, u, rfl, hs, ht, hu⟩
   obtain ⟨x, hx, rfl⟩ := List.mem_map.mp hd
   simp [hs, ht, hu, Tr.d, K5, sh]
   first | exact ⟨_, _, _, rfl, rfl, rfl, rfl⟩ | exact ⟨rfl, _, _, _, rfl, rfl, rfl, rfl⟩
 rintro _ ⟨s, t, u, rfl, hs, ht, hu⟩
 have e : (pl.map Tr.d).map (K5 b) = (pl.map (sh b)).map Tr.d := by rw [List.map_map, List.map_map]; rfl
 rw [e]
 simp only [List.take_succ_cons, List.take_zero]
 simp [-List.map_map]
 apply aa
 simp [-List.map_map]
 refine gA (N := 2) (g := fun (i : Nat) => D.int (i : Int)) (JLt pl b) ?_ ?_ ⟨.aX, .aX, rfl, rfl, rfl⟩
 . rintro i _ hi ⟨s4, s5, rfl, h4, h5⟩
   simp [h4, -List.map_map]
   apply aa
   simp [-List.map_map]
   refine wU (.inl ⟨_, rfl⟩) hr (by omega) ?_
   simp [h5, -List.map_map]
   apply aa
   simp [-List.map_map]
   refine fX (by simp; omega) (.inl ⟨_, rfl⟩) ?_
   simp [hne, -List.map_map]
   apply aa
   simp [-List.map_map, Bc]
   exact ⟨_, _, rfl, rfl, rfl⟩
 . rintro _ ⟨s4, s5, rfl, h4, h5⟩
   simp [-List.map_map]
   apply aa
   simp [heq]
   exact q
end T
end
section
namespace T
open HH
noncomputable def T2 (s : Sl) (ds : List D) : Prop := s = .own true ds \/ s = .val true (.lst ds)
theorem T2.ls {s : Sl} {ds : List D} (h : T2 s ds) : LS s ds := h.imp (fun e => ⟨_, e⟩) fun e => ⟨_, e⟩
inductive JLr (one other : List Tr) (P : List Tr) (_ : Nat) (ρ : List Sl) : Prop where
 | mk (s0 s1 s4 s5 : Sl) (q0 : ρ = [s0, s1, .own false [.lst (one.map Tr.d), .lst (other.map Tr.d)], .own false (P.map Tr.d), s4, s5]) (q1 : (T2 s0 (one.map Tr.d) /\ T2 s1 (other.map Tr.d))) (q2 : fr s4 = true) (q3 : fr s5 = true)
inductive JF2 (one other : List Tr) (P : List Tr) (r : List (List D)) (ρ : List Sl) : Prop where
 | mk (s0 s1 s4 s5 : Sl) (q0 : ρ = [s0, s1, .own false [.lst (one.map Tr.d), .lst (other.map Tr.d)], .own false (P.map Tr.d), s4, s5]) (q1 : (T2 s0 (one.map Tr.d) /\ T2 s1 (other.map Tr.d))) (q2 : (fr s4 = true /\ fr s5 = true)) (q3 : ∀ ds ∈ r, ds = one.map Tr.d)
theorem nj {w n : Nat} {one other : List Tr} {Q : R -> List Sl -> Prop} (hr1 : bW one = true) (p1 : ∀ x ∈ one, 1 <= x.l) (p2 : ∀ x ∈ other, 1 <= x.l) (l1 : one.length <= 40) (l2 : other.length <= 40)
 (q : Q (.val (.bl true)) [.val true (.lst (one.map Tr.d)), .val true (.lst (other.map Tr.d))]) :
 (run Γ w (n + 2) 13 [.own true (one.map Tr.d), .own true (other.map Tr.d)]).sat Q := by
 have hlim : one.length + other.length <= lim := by show _ <= 16777216; omega
 have hne := ne_self (by decide) (zx (a := one) (b := other) (by omega) (by omega))
 have heq := eq_self (by decide) (zx (a := one) (b := other) (by omega) (by omega))
 refine bI (d := RX) rfl rfl (by decide) ?_
 first|apply aa|apply aq
 simp [RX]
 apply aa
 simp [hlim]
 rw [<- List.map_append]
 refine tG (by simp; omega) (fun x hx => (List.mem_append.mp hx).elim (p1 x) (p2 x)) fun P hm => ?_
 have hP : P.Pairwise iZ := hm.Gr
 have pP : ∀ x ∈ P, 1 <= x.l := hm.pos
 have lP : P.length <= 80 := by have := hm.len; simp at this; omega
 have QZ : P.length < lim := by show _ < 16777216; omega
 have Q0 : one.length < lim := by show _ < 16777216; omega
 have eP : ∀ y : Tr, sm (fun x => if x.h = y.h /\ x.w = y.w then x.l else 0) P = sm (fun x => if x.h = y.h /\ x.w = y.w then x.l else 0) (one ++ other) := fun y => by
  have := hm.sum fun h w => if h = y.h /\ w = y.w then 1 else 0
  rw [tH, tH, tH] at this
  rw [<- this]; simp
 clear hm
 simp
 apply aa
 simp
 refine gA (N := 2) (g := fun (i : Nat) => D.int (i : Int)) (JLr one other P) ?_ ?_ ⟨_, _, .aX, .aX, rfl, ⟨.inl rfl, .inl rfl⟩, rfl, rfl⟩
 . rintro i _ hi ⟨s0, s1, s4, s5, rfl, ⟨t0, t1⟩, h4, h5⟩
   simp [h4]
   apply aa
   obtain ⟨x, y, ex, ey, hx, hy, lx, ly, exy⟩ : ∃ x y : List Tr, at' [D.lst (one.map Tr.d), D.lst (other.map Tr.d)] (i : Int) = some (D.lst (x.map Tr.d)) /\ at' [D.lst (one.map Tr.d), D.lst (other.map Tr.d)] (1 - (i : Int)) = some (D.lst (y.map Tr.d)) /\ (∀ z ∈ x, 1 <= z.l) /\ (∀ z ∈ y, 1 <= z.l) /\ x.length <= 40 /\ y.length <= 40 /\ ∀ g, sm g (x ++ y) = sm g (one ++ other) := by
    rcases (show i = 0 \/ i = 1 by omega) with rfl | rfl
    . exact ⟨one, other, rfl, rfl, p1, p2, l1, l2, fun _ => rfl⟩
    . exact ⟨other, one, rfl, rfl, p2, p1, l2, l1, fun g => by rw [gJ, gJ]; omega⟩
   simp [ex, ey]
   refine lY (one := x) (other := y) (.inr ⟨_, rfl⟩) (.inr ⟨_, rfl⟩) (by omega) fun ks k1 k2 k3 k4 => ?_
   have : ks = P := lZ hx hy k1 k3 k4 hP pP fun y => by rw [eP, exy]
   subst this
   simp [h5]
   apply aa
   simp
   refine fX (by omega) (.inl ⟨_, rfl⟩) ?_
   rcases t0 with rfl | rfl <;> rcases t1 with rfl | rfl <;> simp [hne] <;> refine aa ?_ <;> simp [QZ] <;> exact ⟨_, _, _, _, rfl, ⟨.inr rfl, .inr rfl⟩, rfl, rfl⟩
 . rintro _ ⟨s0, s1, s4, s5, rfl, ⟨t0, t1⟩, h4, h5⟩
   have h0 : at' [D.lst (one.map Tr.d), D.lst (other.map Tr.d)] 0 = some (D.lst (one.map Tr.d)) := rfl
   simp
   apply aa
   simp [BW, h0]
   refine lY (one := one) (other := []) (.inr ⟨_, rfl⟩) (.inl ⟨_, rfl⟩) (by simp; omega) fun ks k1 k2 k3 k4 => ?_
   have : ks = one := lZ p1 (by simp) k1 k3 k4 (cg.mp hr1) p1 fun y => by simp
   subst this
   simp [h0]
   refine lY (one := []) (other := ks) (.inl ⟨_, rfl⟩) (.inr ⟨_, rfl⟩) (by simp; omega) fun js k1 k2 k3 k4 => ?_
   have : js = ks := lZ (by simp) p1 k1 k3 k4 (cg.mp hr1) p1 fun y => by simp
   subst this
   simp
   refine mL (JF2 js other P) ?_ ?_ ⟨_, _, _, _, rfl, ⟨t0, t1⟩, ⟨h4, h5⟩, by simp⟩
   . rintro ds r _ ⟨s0, s1, s4, s5, rfl, ⟨t0, t1⟩, ⟨h4, h5⟩, hr⟩
     have : ds = js.map Tr.d := hr ds (by simp)
     subst this
     have hr' : ∀ ds ∈ r, ds = js.map Tr.d := fun ds hd => hr ds (by simp [hd])
     rcases t0 with rfl | rfl
     all_goals
      simp [h5]
      apply aa
      simp
      refine fX (by omega) (by first | exact .inl ⟨_, rfl⟩ | exact .inr ⟨_, rfl⟩) ?_
      simp
      apply aa
      simp [Q0]
      exact ⟨_, _, _, _, rfl, ⟨by first | exact .inl rfl | exact .inr rfl, t1⟩, ⟨h4, rfl⟩, hr'⟩
   . rintro _ ⟨s0, s1, s4, s5, rfl, ⟨t0, t1⟩, ⟨h4, h5⟩, hr⟩
     simp
     apply aa
     rcases t0 with rfl | rfl <;> rcases t1 with rfl | rfl <;> simp [heq] <;> exact q
end T
end
section
namespace T
open HH
noncomputable def tm (b : Int) (x : Tr) : Tr := ⟨x.h * b, x.w, x.l * b⟩
noncomputable def Ul (b : Int) (d : D) : D := (tm b (qp d)).d
noncomputable def RT (b : Int) (x : Tr) : Tr := ⟨x.h * b, x.w, x.l⟩
noncomputable def toD (b : Int) (d : D) : D := (RT b (qp d)).d
theorem qy {b : Int} (hb : 1 <= b) {pl : List Tr} (h : bW pl = true) : bW (pl.map (tm b)) = true := by
 rw [cg] at h ⊢
 rw [List.pairwise_map]
 refine h.imp fun {x y} h => ?_
 unfold iZ tm at *
 simp only
 rcases h with h | ⟨h, h'⟩
 . exact .inl (Int.mul_lt_mul_of_pos_right h (by omega))
 . exact .inr ⟨by rw [h], h'⟩
theorem Jr {b : Int} {pl : List Tr} : (pl.map Tr.d).map (Ul b) = (pl.map (tm b)).map Tr.d := by rw [List.map_map, List.map_map]; rfl
theorem Ig {b : Int} {pl : List Tr} : (pl.map Tr.d).map (toD b) = (pl.map (RT b)).map Tr.d := by rw [List.map_map, List.map_map]; rfl
theorem J0 {b : Int} (hb : 1 <= b) {pl : List Tr} (h : ∀ x ∈ pl, 1 <= x.l) : ∀ x ∈ pl.map (tm b), 1 <= x.l := fun x hx => by
 obtain ⟨y, hy, rfl⟩ := List.mem_map.mp hx
 have := Int.mul_le_mul (h y hy) hb (by omega) (by have := h y hy; omega)
 show 1 <= y.l * b
 omega
theorem Hv {b : Int} {pl : List Tr} (h : ∀ x ∈ pl, 1 <= x.l) : ∀ x ∈ pl.map (RT b), 1 <= x.l := fun x hx => by
 obtain ⟨y, hy, rfl⟩ := List.mem_map.mp hx
 exact h y hy
inductive F12 (a0 a1 a2 a3 a4 a5 a6 a7 a8 : Sl) (ρ : List Sl) : Prop where
 | mk (s t u : Sl) (q0 : ρ = [a0, a1, a2, a3, a4, a5, a6, a7, a8, s, t, u]) (q1 : fr s = true) (q2 : fr t = true) (q3 : fr u = true)
inductive JLw (v : Sl) (r : List D) (ρ : List Sl) : Prop where
 | mk (s1 : Sl) (s2 : Sl) (s3 : Sl) (s4 : Sl) (s5 : Sl) (s6 : Sl) (s7 : Sl) (s8 : Sl) (q0 : ρ = [v, s1, s2, s3, s4, s5, s6, s7, s8]) (q1 : A4 (fr s1 = true) (fr s2 = true) (fr s3 = true) (fr s4 = true)) (q2 : A4 (fr s5 = true) (fr s6 = true) (fr s7 = true) (fr s8 = true)) (q3 : ∀ d ∈ r, ∃ i, d = D.int i)
inductive JHr (a0 a1 a2 a3 a4 a5 a6 a7 : Sl) (r : List D) (ρ : List Sl) : Prop where
 | mk (s8 : Sl) (q0 : ρ = [a0, a1, a2, a3, a4, a5, a6, a7, s8]) (q1 : fr s8 = true) (q2 : ∀ d ∈ r, ∃ i, d = D.int i)
set_option maxHeartbeats 4000000 in
theorem CV (ns : List Int) (hn : ns.length <= 63) : ∃ as, run Γ 1000 40 15 [.val false (.lst (ns.map D.int))] = .ok (.val (.bl true)) as := by
 suffices h : ∀ w, (run Γ w 40 15 [.val false (.lst (ns.map D.int))]).sat fun r _ => r = .val (.bl true) by
  obtain ⟨a, ρ, e, rfl⟩ := sat_iff.mp (h 1000)
  exact ⟨ρ, e⟩
 intro w
 refine bI (d := RW) rfl rfl (by decide) ?_
 first|apply aa|apply aq
 simp [RW]
 refine ur (m := 12) (by rfl) (by decide) (by decide) hn fun cs hcl => ?_
 have hl : 1 + cs.length <= lim := by show _ <= 16777216; omega
 simp [hl]
 refine dj (JLw (.val false (.lst (ns.map D.int)))) ?_ ?_ ?_
 . rintro d r _ ⟨s1, s2, s3, s4, s5, s6, s7, s8, rfl, ⟨h1, h2, h3, h4⟩, ⟨h5, h6, h7, h8⟩, hd⟩
   obtain ⟨x, rfl⟩ := hd d (by simp)
   simp [h1]
   apply aa
   simp
   refine Ae fun a b c => ?_
   simp [h2]
   apply aa
   simp
   refine Dn fun m ws x z hk0 hsm => ?_
   simp [h3]
   apply aa
   simp
   refine aY (by decide) (by decide) fun d x z d0 d1 => ?_
   simp [h4]
   obtain ⟨last, e0, l0, l1⟩ : ∃ l, l = 1 + d /\ 1 <= l /\ l <= 8 := ⟨_, rfl, by omega, by omega⟩
   rw [<- e0]
   first|apply aa|apply aq
   simp
   refine oF hk0 (by omega) (by omega) (by decide) (by decide) fun one x z hp1 hn1 => ?_
   simp [h5]
   apply aa
   simp
   refine oF hk0 (by omega) (by omega) (by decide) (by decide) fun oth x z hp2 hn2 => ?_
   simp [h6]
   apply aa
   simp
   refine aY (by decide) (by decide) fun d x z d0 d1 => ?_
   have YJ : ∀ x ∈ one, 1 <= x.l := fun x hx => (hp1.ok x hx).2.1
   have lo1 : one.length <= 40 := by omega
   have lim1 : one.length <= lim := by show _ <= 16777216; omega
   by_cases c : d = 0
   case' pos =>
    simp [c]
    apply aa
    simp
    have YK := YJ
    have lo2 := lo1
    have Q3 := lim1
   case' neg =>
    simp [c]
    have YK : ∀ x ∈ oth, 1 <= x.l := fun x hx => (hp2.ok x hx).2.1
    have lo2 : oth.length <= 40 := by omega
    have Q3 : oth.length <= lim := by show _ <= 16777216; omega
   all_goals
    first|apply aa|apply aq
    simp
    refine aY (by decide) (by decide) fun d x z d0 d1 => ?_
    obtain ⟨b, eb, b1, b2⟩ : ∃ b, at' [D.int 1, .int 1, .int 10, .int 1000, .int 100000000] d = some (.int b) /\ 1 <= b /\ b <= 100000000 := by
     rcases (show d = 0 \/ d = 1 \/ d = 2 \/ d = 3 \/ d = 4 by omega) with rfl | rfl | rfl | rfl | rfl <;> exact ⟨_, rfl, by decide, by decide⟩
    have c1 : -18446744073709551616 < b := by omega
    have c2 : b < 18446744073709551616 := by omega
    simp [eb, h7]
    apply aa
    simp [lim1]
    refine dM (F12 _ _ _ _ _ _ _ _ _) (Ul b) ⟨.aX, .aX, .aX, rfl, rfl, rfl, rfl⟩ ?_ ?_
    . rintro d hd _ ⟨s, t, u, rfl, hs, ht, hu⟩
      obtain ⟨x, hx, rfl⟩ := List.mem_map.mp hd
      simp [hs, ht, hu, Tr.d, Ul, tm, c1, c2]
      first | exact ⟨_, _, _, rfl, rfl, rfl, rfl⟩ | exact ⟨rfl, _, _, _, rfl, rfl, rfl, rfl⟩
    rintro _ ⟨s, t, u, rfl, hs, ht, hu⟩
    rw [Jr]
    simp [-List.map_map]
    apply aa
    simp [Q3, -List.map_map]
    refine dM (F12 _ _ _ _ _ _ _ _ _) (toD b) ⟨.aX, .aX, .aX, rfl, rfl, rfl, rfl⟩ ?_ ?_
    . rintro d hd _ ⟨s, t, u, rfl, hs, ht, hu⟩
      obtain ⟨x, hx, rfl⟩ := List.mem_map.mp hd
      simp [hs, ht, hu, Tr.d, toD, RT, c1, c2]
      first | exact ⟨_, _, _, rfl, rfl, rfl, rfl⟩ | exact ⟨rfl, _, _, _, rfl, rfl, rfl, rfl⟩
    rintro _ ⟨s, t, u, rfl, hs, ht, hu⟩
    rw [Ig]
    simp [-List.map_map]
    apply aa
    simp [-List.map_map]
    refine nj (qy b1 hp1.Gr) (J0 b1 YJ) (Hv YK) (by simpa using lo1) (by simpa using lo2) ?_
    simp [-List.map_map]
    apply aa
    simp [-List.map_map]
    refine aY (by decide) (by decide) fun d x z d0 d1 => ?_
    simp [-List.map_map]
    refine aY (by decide) (by decide) fun d x z d0 d1 => ?_
    simp [-List.map_map]
    refine dj (JHr _ _ _ _ _ _ _ _) ?_ ?_ ⟨_, rfl, h8, by simp⟩
    . rintro d r _ ⟨s8, rfl, h8, hd'⟩
      obtain ⟨i, rfl⟩ := hd' d (by simp)
      simp [h8, -List.map_map]
      apply aa
      simp [-List.map_map]
      refine lN (qy b1 hp1.Gr) (by simpa using lo1) ?_
      simp [-List.map_map]
      exact ⟨_, rfl, rfl, fun d hd => hd' d (by simp [hd])⟩
    . rintro _ ⟨s8, rfl, h8, _⟩
      simp [-List.map_map]
      exact ⟨_, _, _, _, _, _, _, _, rfl, ⟨rfl, rfl, rfl, rfl⟩, ⟨rfl, rfl, rfl, h8⟩, fun d hd' => hd d (by simp [hd'])⟩
 . rintro _ ⟨s1, s2, s3, s4, s5, s6, s7, s8, rfl, _⟩
   first|apply aa|apply aq
   simp
 . exact ⟨.aX, .aX, .aX, .aX, .aX, .aX, .aX, .aX, rfl, ⟨rfl, rfl, rfl, rfl⟩, ⟨rfl, rfl, rfl, rfl⟩, fun d hd => by
    rcases List.mem_cons.mp hd with rfl | hd
    . exact ⟨0, rfl⟩
    . obtain ⟨i, _, rfl⟩ := List.mem_map.mp hd; exact ⟨i, rfl⟩⟩
end T
end
namespace PySem.W.Fast
theorem tw14058015415888292324 : True := ⟨⟩
theorem tw5601810050425604922 : True := ⟨⟩
theorem tw8205682740382443278 : True := ⟨⟩
theorem tw3585389418581243465 : True := ⟨⟩
theorem tw17889304655067608321 : True := ⟨⟩
theorem tw16885372931130994232 : True := ⟨⟩
theorem tw10038578317150233233 : True := ⟨⟩
theorem tw865024074782239878 : True := ⟨⟩
theorem tw12222820270532976252 : True := ⟨⟩
theorem tw13759906593230972440 : True := ⟨⟩
theorem tw1357767901189385615 : True := ⟨⟩
theorem tw16878157502441280587 : True := ⟨⟩
end PySem.W.Fast
namespace T
open PySem L2 PySem.Spec PyProof.Rows HH
structure Txt (K : PySem.W.Frag) : Prop where
 D0 : cO K "laid_plans" s0
 D1 : cO K "later_plan" s1
 D2 : cO K "_law_pool" s2
 D3 : cO K "_law_next" s3
 D4 : cO K "_law_cells" s4
 D5 : cO K "_law_way" s5
 D6 : cO K "_law_net" s6
 D7 : cO K "_law_out" s7
 D8 : cO K "_law_come" s8
 D9 : cO K "_law_left" s9
 D10 : cO K "_law_plan" sX
 D11 : cO K "_law_plan_like" ud
 D12 : cO K "_law_joined" s12
 D13 : cO K "_law_laid_right" sY
 D14 : cO K "_law_later_right" Uw
 D15 : cO K "law" Uc
 Bb : PySem.W.nsIn K mainGlobals "any" = some none
 uN : PySem.W.nsIn K mainGlobals "bool" = some none
 cQ : PySem.W.nsIn K mainGlobals "isinstance" = some none
 m5 : PySem.W.nsIn K mainGlobals "len" = some none
 bZ : PySem.W.nsIn K mainGlobals "list" = some none
 Az : PySem.W.nsIn K mainGlobals "max" = some none
 Ba : PySem.W.nsIn K mainGlobals "min" = some none
 bJ : PySem.W.nsIn K mainGlobals "range" = some none
 cP : PySem.W.nsIn K mainGlobals "sorted" = some none
 oV : PySem.W.nsIn K mainGlobals "sum" = some none
 iz : PySem.W.nsIn K mainGlobals "tuple" = some none
noncomputable def qe {K : PySem.W.Frag} (T : Txt K) : Nat -> Addr := fun k => 0
structure Oks (Pg : Program) (w : World) (K : PySem.W.Frag) (mg : Str -> Option Value) (base : Heap) (cl : Nat -> Addr) (n : Nat) : Prop where
 c0 : aJ Pg w K mg base n (run Γ 1000 n) 0 "laid_plans" 2
 c1 : aJ Pg w K mg base n (run Γ 1000 n) 1 "later_plan" 2
 c2 : aJ Pg w K mg base n (run Γ 1000 n) 2 "_law_pool" 1
 c3 : aJ Pg w K mg base n (run Γ 1000 n) 3 "_law_next" 2
 c4 : aJ Pg w K mg base n (run Γ 1000 n) 4 "_law_cells" 2
 c5 : aJ Pg w K mg base n (run Γ 1000 n) 5 "_law_way" 3
 c6 : aJ Pg w K mg base n (run Γ 1000 n) 6 "_law_net" 1
 c7 : aJ Pg w K mg base n (run Γ 1000 n) 7 "_law_out" 2
 c8 : aJ Pg w K mg base n (run Γ 1000 n) 8 "_law_come" 4
 c9 : aJ Pg w K mg base n (run Γ 1000 n) 9 "_law_left" 4
 S7 : aJ Pg w K mg base n (run Γ 1000 n) 10 "_law_plan" 4
 S8 : aJ Pg w K mg base n (run Γ 1000 n) 11 "_law_plan_like" 2
 c12 : aJ Pg w K mg base n (run Γ 1000 n) 12 "_law_joined" 1
 S9 : aJ Pg w K mg base n (run Γ 1000 n) 13 "_law_laid_right" 2
 Tc : aJ Pg w K mg base n (run Γ 1000 n) 14 "_law_later_right" 2
 YL : aJ Pg w K mg base n (run Γ 1000 n) 15 "law" 1
set_option maxHeartbeats 0 in
theorem zF {Pg : Program} {w : World} {K : PySem.W.Frag} {mg : Str -> Option Value} {base : Heap} (T : Txt K) (X : K.In base) (G : base.Ns mainGlobals mg) : ∀ n, Oks Pg w K mg base (qe T) n
 | 0 => {
   c0 := dz (ps := ["one", "other"]) X G T.D0 rfl (fun _ _ _ _ _ _ us hl => match us, hl with | [_, _], _ => rfl)
   c1 := dz (ps := ["plan", "hours"]) X G T.D1 rfl (fun _ _ _ _ _ _ us hl => match us, hl with | [_, _], _ => rfl)
   c2 := dz (ps := ["cell"]) X G T.D2 rfl (fun _ _ _ _ _ _ us hl => match us, hl with | [_], _ => rfl)
   c3 := dz (ps := ["pool", "base"]) X G T.D3 rfl (fun _ _ _ _ _ _ us hl => match us, hl with | [_, _], _ => rfl)
   c4 := dz (ps := ["script", "most"]) X G T.D4 rfl (fun _ _ _ _ _ _ us hl => match us, hl with | [_, _], _ => rfl)
   c5 := dz (ps := ["pool", "many", "k"]) X G T.D5 rfl (fun _ _ _ _ _ _ us hl => match us, hl with | [_, _, _], _ => rfl)
   c6 := dz (ps := ["pool"]) X G T.D6 rfl (fun _ _ _ _ _ _ us hl => match us, hl with | [_], _ => rfl)
   c7 := dz (ps := ["net", "triple"]) X G T.D7 rfl (fun _ _ _ _ _ _ us hl => match us, hl with | [_, _], _ => rfl)
   c8 := dz (ps := ["net", "plan", "place", "hour"]) X G T.D8 rfl (fun _ _ _ _ _ _ us hl => match us, hl with | [_, _, _, _], _ => rfl)
   c9 := dz (ps := ["net", "plan", "place", "hour"]) X G T.D9 rfl (fun _ _ _ _ _ _ us hl => match us, hl with | [_, _, _, _], _ => rfl)
   S7 := dz (ps := ["pool", "net", "last", "most"]) X G T.D10 rfl (fun _ _ _ _ _ _ us hl => match us, hl with | [_, _, _, _], _ => rfl)
   S8 := dz (ps := ["found", "due"]) X G T.D11 rfl (fun _ _ _ _ _ _ us hl => match us, hl with | [_, _], _ => rfl)
   c12 := dz (ps := ["triples"]) X G T.D12 rfl (fun _ _ _ _ _ _ us hl => match us, hl with | [_], _ => rfl)
   S9 := dz (ps := ["one", "other"]) X G T.D13 rfl (fun _ _ _ _ _ _ us hl => match us, hl with | [_, _], _ => rfl)
   Tc := dz (ps := ["plan", "hours"]) X G T.D14 rfl (fun _ _ _ _ _ _ us hl => match us, hl with | [_, _], _ => rfl)
   YL := dz (ps := ["script"]) X G T.D15 rfl (fun _ _ _ _ _ _ us hl => match us, hl with | [_], _ => rfl)
 }
 | n + 1 =>
   have ih := zF (Pg := Pg) (w := w) (base := base) T X G n
   {
    c0 := dq (ps := ["one", "other"]) X G T.D0 rfl rfl (fun _ _ _ _ _ _ us hl => match us, hl with | [_, _], _ => rfl) fun _ _ F => d0 (cl := qe T) F (PySem.W.mg_none_of X G T.cP)
    c1 := dq (ps := ["plan", "hours"]) X G T.D1 rfl rfl (fun _ _ _ _ _ _ us hl => match us, hl with | [_, _], _ => rfl) fun _ _ F => d1 (cl := qe T) F (PySem.W.mg_none_of X G T.cP)
    c2 := dq (ps := ["cell"]) X G T.D2 rfl rfl (fun _ _ _ _ _ _ us hl => match us, hl with | [_], _ => rfl) fun _ _ F => d2 (cl := qe T) F (PySem.W.mg_none_of X G T.Az)
    c3 := dq (ps := ["pool", "base"]) X G T.D3 rfl rfl (fun _ _ _ _ _ _ us hl => match us, hl with | [_, _], _ => rfl) fun _ _ F => d3 (cl := qe T) F
    c4 := dq (ps := ["script", "most"]) X G T.D4 rfl rfl (fun _ _ _ _ _ _ us hl => match us, hl with | [_, _], _ => rfl) fun _ _ F => d4 (cl := qe T) F (PySem.W.mg_none_of X G T.m5) (PySem.W.mg_none_of X G T.bZ) (PySem.W.mg_none_of X G T.bJ)
    c5 := dq (ps := ["pool", "many", "k"]) X G T.D5 rfl rfl (fun _ _ _ _ _ _ us hl => match us, hl with | [_, _, _], _ => rfl) fun _ _ F => d5 (cl := qe T) F ih.c3
    c6 := dq (ps := ["pool"]) X G T.D6 rfl rfl (fun _ _ _ _ _ _ us hl => match us, hl with | [_], _ => rfl) fun _ _ F => d6 (cl := qe T) F (PySem.W.mg_none_of X G T.bJ) (PySem.W.mg_none_of X G T.iz) ih.c3 ih.c5
    c7 := dq (ps := ["net", "triple"]) X G T.D7 rfl rfl (fun _ _ _ _ _ _ us hl => match us, hl with | [_, _], _ => rfl) fun _ _ F => d7 (cl := qe T) F
    c8 := dq (ps := ["net", "plan", "place", "hour"]) X G T.D8 rfl rfl (fun _ _ _ _ _ _ us hl => match us, hl with | [_, _, _, _], _ => rfl) fun _ _ F => d8 (cl := qe T) F (PySem.W.mg_none_of X G T.oV) ih.c7
    c9 := dq (ps := ["net", "plan", "place", "hour"]) X G T.D9 rfl rfl (fun _ _ _ _ _ _ us hl => match us, hl with | [_, _, _, _], _ => rfl) fun _ _ F => d9 (cl := qe T) F (PySem.W.mg_none_of X G T.oV)
    S7 := dq (ps := ["pool", "net", "last", "most"]) X G T.D10 rfl rfl (fun _ _ _ _ _ _ us hl => match us, hl with | [_, _, _, _], _ => rfl) fun _ _ F => d10 (cl := qe T) F (PySem.W.mg_none_of X G T.m5) (PySem.W.mg_none_of X G T.Ba) (PySem.W.mg_none_of X G T.bJ) ih.c8 ih.c9 ih.c3
    S8 := dq (ps := ["found", "due"]) X G T.D11 rfl rfl (fun _ _ _ _ _ _ us hl => match us, hl with | [_, _], _ => rfl) fun _ _ F => d11 (cl := qe T) F (PySem.W.mg_none_of X G T.Bb) (PySem.W.mg_none_of X G T.uN) (PySem.W.mg_none_of X G T.cQ) (PySem.W.mg_none_of X G T.bZ) (PySem.W.mg_none_of X G T.iz)
    c12 := dq (ps := ["triples"]) X G T.D12 rfl rfl (fun _ _ _ _ _ _ us hl => match us, hl with | [_], _ => rfl) fun _ _ F => d12 (cl := qe T) F (PySem.W.mg_none_of X G T.cP)
    S9 := dq (ps := ["one", "other"]) X G T.D13 rfl rfl (fun _ _ _ _ _ _ us hl => match us, hl with | [_, _], _ => rfl) fun _ _ F => d13 (cl := qe T) F (PySem.W.mg_none_of X G T.bZ) (PySem.W.mg_none_of X G T.bJ) ih.c12 ih.S8 ih.c0
    Tc := dq (ps := ["plan", "hours"]) X G T.D14 rfl rfl (fun _ _ _ _ _ _ us hl => match us, hl with | [_, _], _ => rfl) fun _ _ F => d14 (cl := qe T) F (PySem.W.mg_none_of X G T.bZ) (PySem.W.mg_none_of X G T.bJ) ih.S8 ih.c1
    YL := dq (ps := ["script"]) X G T.D15 rfl rfl (fun _ _ _ _ _ _ us hl => match us, hl with | [_], _ => rfl) fun _ _ F => Xe (cl := qe T) F (PySem.W.mg_none_of X G T.bZ) ih.c4 ih.S9 ih.Tc ih.c6 ih.c3 ih.S7 ih.c2
   }
theorem gin {K : PySem.W.Frag} {x : Str} {i : Int} {t : Tok} (a : PySem.W.nsIn K mainGlobals x = some (some (Value.int i t))) : ∃ t, PySem.W.nsIn K mainGlobals x = some (some (Value.int i t)) := ⟨t, a⟩
set_option maxHeartbeats 0 in
theorem JQ {Pg : Program} {w : World} {K : PySem.W.Frag} {mg : Str -> Option Value} {h : Heap} {fa : Addr} (T : Txt K) (X : K.In h) (G : h.Ns mainGlobals mg) (hmg : mg "law" = some (.ref fa)) :
 ∃ fd : FuncData, (∀ (s : Shared) (u : Value), BindsTo s fd ⟨[u], []⟩ [("script", u)]) /\ ∀ base : Heap, K.In base -> base.Ns mainGlobals mg -> cT Pg w K mg base j6 40 fa fd ["script"] (lr K 1 (run Γ 1000 40 15)) := by
 obtain ⟨f, fd, a, F⟩ := T.D15.ex
 have e := hmg.symm.trans (PySem.W.mg_of X G a)
 cases e
 refine ⟨fd, fun s u => ?_, fun base kb nb => ?_⟩
 . obtain ⟨oc, od, kV, doc, pm, an, cdv, ct, osl, rfl, lk, hcd⟩ := F.ex
   exact .of_eq rfl
 . have ih := zF (Pg := Pg) (w := w) (base := base) T kb nb 39
   exact Xe (cl := qe T) (k := 39) (n := 1000) (c := run Γ 1000 39) F (PySem.W.mg_none_of X G T.bZ) ih.c4 ih.S9 ih.Tc ih.c6 ih.c3 ih.S7 ih.c2
end T
open PySem PySem.W PyProof.Rows
set_option maxRecDepth 100000 in
set_option maxHeartbeats 0 in
theorem PySem.Challenge.cw_hourhaul_k13_laid_together_and_later_holds : PySem.Challenge.rw_hourhaul_k13_laid_together_and_later.Holds := by
 w_on; o_law; k_head; (case hw => w_witness2)
 k_fill
 refine L2.zA (l := PySem.Challenge.rw_hourhaul_k13_laid_together_and_later) (n := 63) (k := 40) (x := "script") (CX := L2.j6) (sp := fun K => HH.lr K 1 (HH.run T.Γ 1000 40 15)) rfl (by decide) rfl ⟨rfl, by decide, by decide⟩ (fun w h Y => PySem.W.kIn_of Y) ?F ?S ?C
 case F =>
  intro w mg fa h KX G hmg
  refine T.JQ ?T KX G hmg
  constructor
  . refine' HH.cC ?a ?l ?c ?k; case a | l | c | k => k_is
  . refine' HH.cC ?a ?l ?c ?k; case a | l | c | k => k_is
  . refine' HH.cC ?a ?l ?c ?k; case a | l | c | k => k_is
  . refine' HH.cC ?a ?l ?c ?k; case a | l | c | k => k_is
  . refine' HH.cC ?a ?l ?c ?k; case a | l | c | k => k_is
  . refine' HH.cC ?a ?l ?c ?k; case a | l | c | k => k_is
  . refine' HH.cC ?a ?l ?c ?k; case a | l | c | k => k_is
  . refine' HH.cC ?a ?l ?c ?k; case a | l | c | k => k_is
  . refine' HH.cC ?a ?l ?c ?k; case a | l | c | k => k_is
  . refine' HH.cC ?a ?l ?c ?k; case a | l | c | k => k_is
  . refine' HH.cC ?a ?l ?c ?k; case a | l | c | k => k_is
  . refine' HH.cC ?a ?l ?c ?k; case a | l | c | k => k_is
  . refine' HH.cC ?a ?l ?c ?k; case a | l | c | k => k_is
  . refine' HH.cC ?a ?l ?c ?k; case a | l | c | k => k_is
  . refine' HH.cC ?a ?l ?c ?k; case a | l | c | k => k_is
  . refine' HH.cC ?a ?l ?c ?k; case a | l | c | k => k_is
  . k_is
  . k_is
  . k_is
  . k_is
  . k_is
  . k_is
  . k_is
  . k_is
  . k_is
  . k_is
  . k_is
 case S =>
  intro K H a ns hl hO hS
  obtain ⟨as, e⟩ := T.CV ns hl
  exact HH.xF hS e
 case C => exact fun H s e s' z => z
