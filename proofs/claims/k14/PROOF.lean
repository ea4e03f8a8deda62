import PyProof.Rows.All
import Wide.All
import OpenK.AllK
import Wide.FinOn
import Lean
import PyProof.EqAt
import PyProof.EqKinds
import PyProof.TupleCall
import PySem.Str
import PySem.Builtin.Int.W1All
import PyProof.NeKinds
import PyProof.ZipIter
import PyProof.SumWalkG
import PyProof.MinMaxWalk
import PyProof.WalksMore
import PyProof.SeqI3
import PyProof.WalkInts
import PyProof.Rows.CallKwBuiltin
import PyProof.Rows.Tup
import PyProof.CollectIter
import PyProof.EnumMake
import PyProof.TupleOfSeq
import PyProof.ListNew
import PyProof.ReprLoop
import PyProof.StationsW
import PyProof.ExcClass3
import PyProof.Rows.CatchBare
import OpenK.KOwn
import KE.KIsAll
import PyProof.NsDelKeeps
import PyProof.RulesAs
import PyProof.ExcArgsOwn
import PyProof.ListRange
import KE.RegKIsAll
import KE.KRevIter
import PyProof.Rows.SortRuns
import KE.KSortTup
import PyProof.DictWalks
import KE.KDictList
import PyProof.SetScanFacts
import PyProof.SetKind
import PyProof.Rows.SetFrom
import PyProof.ExcBaseAll.ValueError
import PySem.Challenge.RW_hourhaul_k14_till_and_turned
set_option Elab.async false
set_option linter.all false
set_option maxRecDepth 100000
set_option genSizeOf false
set_option compiler.extract_closed false
set_option bootstrap.genMatcherCode false
section
namespace L2
open PySem PySem.Spec PyProof.Rows
noncomputable abbrev Key := Sum Int Str
noncomputable def GQ : Key -> Value -> Bool
 | .inl k, v => Value.isInt k v
 | .inr x, v => Value.isStrOf x v
noncomputable def U6 (w : World) : Key -> Int
 | .inl k => hashInt k
 | .inr x => hashStr w x
theorem bL : ∀ {k : Key} {v : Value}, GQ k v = true -> (∃ i t, k = Sum.inl i /\ v = Value.int i t) \/ (∃ x t, k = Sum.inr x /\ v = Value.str x t)
 | .inl i, v, h => by
   obtain ⟨t, e⟩ := Value.isInt_shape (k := i) (v := v) h
   exact .inl ⟨i, t, rfl, e⟩
 | .inr x, v, h => by
   obtain ⟨t, e⟩ := Value.isStrOf_shape (x := x) (v := v) h
   exact .inr ⟨x, t, rfl, e⟩
theorem Hw (a b : Int) : decide ((Sum.inl a : Key) = Sum.inl b) = (a == b) := by
 by_cases e : a = b
 . subst e; simp
 . have h : ¬ (Sum.inl a : Key) = Sum.inl b := fun q => e (Sum.inl.inj q)
   rw [decide_eq_false h]
   exact (beq_eq_false_iff_ne.mpr e).symm
theorem Kq (a b : Str) : decide ((Sum.inr a : Key) = Sum.inr b) = decide (a = b) := by
 by_cases e : a = b
 . subst e; simp
 . have h : ¬ (Sum.inr a : Key) = Sum.inr b := fun q => e (Sum.inr.inj q)
   rw [decide_eq_false h, decide_eq_false e]
theorem JX (a : Int) (b : Str) : decide ((Sum.inl a : Key) = Sum.inr b) = false := decide_eq_false (fun q => nomatch q)
theorem JH (a : Str) (b : Int) : decide ((Sum.inr a : Key) = Sum.inl b) = false := decide_eq_false (fun q => nomatch q)
noncomputable def xN (prog : Program) (w : World) : PySem.KeyKind prog w Key where
 is := GQ
 hash := U6 w
 inj := fun v a b ha hb => by
  rcases bL ha with ⟨i, t, rfl, rfl⟩ | ⟨x, t, rfl, rfl⟩
  . rcases bL hb with ⟨j, u, rfl, e⟩ | ⟨y, u, rfl, e⟩
    . injection e with e1 _; rw [e1]
    . exact nomatch e
  . rcases bL hb with ⟨j, u, rfl, e⟩ | ⟨y, u, rfl, e⟩
    . exact nomatch e
    . injection e with e1 _; rw [e1]
 byValue := fun k v h => by
  rcases bL h with ⟨i, t, rfl, rfl⟩ | ⟨x, t, rfl, rfl⟩ <;> rfl
 pyHash := fun hv h => by
  rcases bL hv with ⟨i, t, rfl, rfl⟩ | ⟨x, t, rfl, rfl⟩
  . exact wpAny_pyHash_int h
  . exact wpAny_pyHash_str h
 eqBool := fun hu hv h => by
  rcases bL hu with ⟨i, t, rfl, rfl⟩ | ⟨x, t, rfl, rfl⟩
  . rcases bL hv with ⟨j, u, rfl, rfl⟩ | ⟨y, u, rfl, rfl⟩
    . rw [Hw] at h; exact wpAny_eqBool_int h
    . rw [JX] at h; exact SeqAt.EqAt.int_str i t y u _ _ _ _ h
  . rcases bL hv with ⟨j, u, rfl, rfl⟩ | ⟨y, u, rfl, rfl⟩
    . rw [JH] at h; exact SeqAt.EqAt.str_int x t j u _ _ _ _ h
    . rw [Kq] at h; exact wpAny_eqBool_str h
 «strs» := fun k x t v h => by
  rcases bL h with ⟨i, u, rfl, e⟩ | ⟨y, u, rfl, e⟩
  . exact nomatch e
  . injection e with e1 _
    subst e1
    cases v <;> rfl
end L2
namespace L2
open PySem PySem.Spec PyProof.Rows
inductive V where
 | non | bl (b : Bool) | int (i : Int) | str (x : Str) | Xa (b : Array UInt8) | flt (b : UInt64) | ref (a : Addr) | ty (n : String)
 deriving DecidableEq
noncomputable def RelV : V -> Value -> Prop
 | .non, u => u = Value.none
 | .bl b, u => u = Value.bool b
 | .int i, u => ∃ t, u = Value.int i t
 | .str x, u => ∃ t, u = Value.str x t
 | .Xa b, u => ∃ t, u = Value.bytes b t
 | .flt b, u => ∃ t, u = Value.float b t
 | .ref a, u => u = Value.ref a
 | .ty n, u => u = Value.type n
noncomputable abbrev Vals : List V -> List Value -> Prop := Paired RelV
theorem Vals.length {xs : List V} {us : List Value} (r : Vals xs us) : xs.length = us.length := Paired.length r
theorem Vals.get : ∀ {xs : List V} {us : List Value} {i : Nat} {x : V}, Vals xs us -> xs[i]? = some x -> ∃ u, us[i]? = some u /\ RelV x u
 | _, _, _, _, .nil, e => by simp at e
 | _, _, 0, _, .cons r _, e => by simp at e; subst e; exact ⟨_, rfl, r⟩
 | _, _, i + 1, x, .cons _ t, e => by
   obtain ⟨u, h1, h2⟩ := Vals.get (i := i) (x := x) t (by simpa using e)
   exact ⟨u, by simpa using h1, h2⟩
theorem Vals.set {x : V} {u : Value} (r : RelV x u) : ∀ {xs : List V} {us : List Value} (i : Nat), Vals xs us -> Vals (xs.set i x) (us.set i u)
 | _, _, _, .nil => .nil
 | _, _, 0, .cons _ t => .cons r t
 | _, _, i + 1, .cons q t => .cons q (Vals.set r i t)
theorem Vals.append : ∀ {xs ys : List V} {us ws : List Value}, Vals xs us -> Vals ys ws -> Vals (xs ++ ys) (us ++ ws)
 | _, _, _, _, .nil, s => s
 | _, _, _, _, .cons r t, s => .cons r (Vals.append t s)
theorem Vals.take : ∀ {xs : List V} {us : List Value} (n : Nat), Vals xs us -> Vals (xs.take n) (us.take n)
 | _, _, 0, _ => .nil
 | _, _, _ + 1, .nil => .nil
 | _, _, n + 1, .cons r t => .cons r (Vals.take n t)
theorem Vals.drop : ∀ {xs : List V} {us : List Value} (n : Nat), Vals xs us -> Vals (xs.drop n) (us.drop n)
 | _, _, 0, r => r
 | _, _, _ + 1, .nil => .nil
 | _, _, n + 1, .cons _ t => Vals.drop n t
noncomputable def QD : Option V -> Option Value -> Prop
 | some v, some u => RelV v u
 | none, none => True
 | _, _ => False
noncomputable def KV {κ : Type} : List (κ × V) -> List (κ × Value) -> Prop := Paired fun (p : κ × V) (q : κ × Value) => p.1 = q.1 /\ RelV p.2 q.2
noncomputable def kV : Key -> V
 | .inl i => .int i
 | .inr x => .str x
inductive HO where
 /-- a list -/
 | lst (xs : List V)
 /-- a tuple (never changes) -/
 | tup (xs : List V)
 /-- a dict whose keys are ints and texts; one whose keys are tuples of ints and texts (the empty one is both) -/
 | dK (kvs : List (Key × V)) | dT (kvs : List (List Key × V))
 /-- a set of ints: its members, its size -/
 | set (S : Int -> Bool) (n : Nat)
 /-- an instance of the class at C, its dict at dx, its attributes -/
 | ins (C dx : Addr) (fs : List (Str × V))
 /-- the dict of the instance at x -/
 | own (x : Addr)
 /-- the dict of an exception -/
 | xd (fs : List (Str × V))
 /-- a bound method, f of x -/
 | met (f x : Addr)
 /-- a range object lo, lo + 1, .. below hi -/
 | v5 (lo hi : Int)
 /-- a thing that is known to the object (the script; a dict while a loop walks it): read, never written while it is so -/
 | jc (o : Obj) (u : HO)
 /-- a code object's table -/
 | K4 (ps : Array Value)
 /-- any other thing, by what is true of its one object (a def of one's own: SetO a S n := HO.ext fun h => ..) -/
 | ext (φ : Heap -> Prop)
noncomputable abbrev Hp := Addr -> Option HO
noncomputable def upd (H : Hp) (a : Addr) (o : HO) : Hp := fun b => if b = a then some o else H b
theorem bI {H : Hp} {a : Addr} {o : HO} : upd H a o a = some o := by unfold upd; rw [if_pos rfl]
theorem aN {H : Hp} {a b : Addr} {o : HO} (h : b ≠ a) : upd H a o b = H b := by unfold upd; rw [if_neg h]
theorem fJ {H : Hp} {a b : Addr} {o : HO} (h : H a = some o) (h' : H b = none) : a ≠ b := by
 intro e; subst e; rw [h] at h'; cases h'
section
variable (P : Program) (w : World)
noncomputable def di (H : Hp) (h : Heap) (a : Addr) : HO -> Prop
 | .lst xs => xs.length <= sizeLine /\ ∃ (its : List Value) (n : Nat), Vals xs its /\ h.get? a = some { cls := .type "list", data := .seq its.toArray n }
 | .tup xs => xs.length <= sizeLine /\ ∃ its : List Value, Vals xs its /\ IsTup h a its.toArray
 | .dK kvs => kvs.length <= sizeLine /\ (a == sysModules) = false /\ ∃ vs, KV kvs vs /\ h.DictOf (xN P w) a vs
 | .dT kvs => kvs.length <= sizeLine /\ (a == sysModules) = false /\ ∃ xs : List (List Key × Addr × Value),
  Paired (fun (p : List Key × V) (q : List Key × Addr × Value) => p.1 = q.1 /\ H q.2.1 = some (.tup (p.1.map kV)) /\ RelV p.2 q.2.2) kvs xs /\
  ∃ o es ep, h.get? a = some o /\ o.ExactDict /\ o.data = .dict es ep /\ es.toList = xs.map (entryOfKey (tupleKind (xN P w))) /\ (xs.map (·.1)).Nodup
 | .set S n => h.SetOf (intKind P w) a S n
 | .ins C dx fs => H dx = some (.own a) /\ fs.length <= 1000 /\ dx ≠ a /\ h.get? a = some (PySem.W.instObj C dx) /\
  ∃ mA, h.Ns1 dx mA /\ (∀ f, QD (fs.lookup f) (mA f)) /\ PySem.Within mA (fs.map (·.1))
 | .own _ => ∃ o, h.get? a = some o
 | .xd fs => ∃ mA, h.Ns1 a mA /\ ∀ f, QD (fs.lookup f) (mA f)
 | .v5 lo hi => ∃ t u v, h.get? a = some { cls := .type "range", data := .fields #[.int lo t, .int hi u, .int 1 v] }
 | .jc o u => h.get? a = some o /\ di H h a u
 | .K4 ps => h.get? a = some { cls := .none, data := .fields ps }
 | .met f x => h.get? a = some (PySem.W.methodObj (.ref f) (.ref x))
 | .ext φ => φ h /\ (∃ o, h.get? a = some o) /\ ∀ h1 h2 : Heap, φ h1 -> (∀ o, h1.get? a = some o -> h2.get? a = some o) -> φ h2
noncomputable def oW (H : Hp) (h : Heap) : Prop := ∀ a o, H a = some o -> di P w H h a o
end
section
variable {P : Program} {w : World} {H H' : Hp} {h h' : Heap} {a : Addr} {o : HO}
theorem di.lt (x : di P w H h a o) : a < h.objs.size := by
 cases o with
 | lst xs => obtain ⟨_, _, _, _, e⟩ := x; exact Heap.lt_size e
 | tup xs => obtain ⟨_, _, _, p⟩ := x; exact p.lt
 | dK kvs => obtain ⟨_, _, _, _, o, _, _, e, _⟩ := x; exact Heap.lt_size e
 | dT kvs => obtain ⟨_, _, _, _, o, _, _, e, _⟩ := x; exact Heap.lt_size e
 | set S n => obtain ⟨o, _, _, _, e, _⟩ := x; exact Heap.lt_size e
 | ins C dx fs => obtain ⟨_, _, _, e, _⟩ := x; exact Heap.lt_size e
 | own y => obtain ⟨_, e⟩ := x; exact Heap.lt_size e
 | xd fs => obtain ⟨_, ⟨_, _, _, e, _⟩, _⟩ := x; exact Heap.lt_size e
 | v5 lo hi => obtain ⟨_, _, _, e⟩ := x; exact Heap.lt_size e
 | jc ob u => obtain ⟨e, _⟩ := x; exact Heap.lt_size e
 | K4 ps => exact Heap.lt_size (show h.get? a = some _ from x)
 | met f y => exact Heap.lt_size (show h.get? a = some _ from x)
 | ext φ => obtain ⟨_, ⟨_, e⟩, _⟩ := x; exact Heap.lt_size e
theorem Paired.Q9 {α β : Type} {F G : α -> β -> Prop} : ∀ {l₁ : List α} {l₂ : List β}, Paired F l₁ l₂ -> (∀ a b, F a b -> G a b) -> Paired G l₁ l₂
 | _, _, .nil, _ => .nil
 | _, _, .cons r t, f => .cons (f _ _ r) (Paired.Q9 t f)
theorem di.stay (x : di P w H h a o) (k : ∀ b u, (b = a \/ H b = some (.own a)) -> h.get? b = some u -> h'.get? b = some u)
 (ho : ∀ b, H b = some (.own a) -> H' b = some (.own a)) (ht : ∀ b xs, H b = some (.tup xs) -> H' b = some (.tup xs)) : di P w H' h' a o := by
 induction o with
 | lst xs => obtain ⟨z, its, n, r, e⟩ := x; exact ⟨z, its, n, r, k _ _ (.inl rfl) e⟩
 | tup xs => obtain ⟨z, its, r, ob, e, c⟩ := x; exact ⟨z, its, r, ob, k _ _ (.inl rfl) e, c⟩
 | dK kvs => obtain ⟨z, y, vs, r, ob, es, ep, e, c⟩ := x; exact ⟨z, y, vs, r, ob, es, ep, k _ _ (.inl rfl) e, c⟩
 | dT kvs =>
   obtain ⟨z, y, xs, r, ob, es, ep, e, c⟩ := x
   exact ⟨z, y, xs, Paired.Q9 r fun p q z => ⟨z.1, ht _ _ z.2.1, z.2.2⟩, ob, es, ep, k _ _ (.inl rfl) e, c⟩
 | set S n => obtain ⟨ob, es, ep, t, e, c⟩ := x; exact ⟨ob, es, ep, t, k _ _ (.inl rfl) e, c⟩
 | ins C dx fs =>
   obtain ⟨d, z, ne, e, mA, ⟨od, es, ep, e2, c⟩, r⟩ := x
   exact ⟨ho _ d, z, ne, k _ _ (.inl rfl) e, mA, ⟨od, es, ep, k _ _ (.inr d) e2, c⟩, r⟩
 | own y => obtain ⟨ob, e⟩ := x; exact ⟨ob, k _ _ (.inl rfl) e⟩
 | xd fs => obtain ⟨mA, ⟨od, es, ep, e, c⟩, r⟩ := x; exact ⟨mA, ⟨od, es, ep, k _ _ (.inl rfl) e, c⟩, r⟩
 | v5 lo hi => obtain ⟨t, u, v, e⟩ := x; exact ⟨t, u, v, k _ _ (.inl rfl) e⟩
 | jc ob u ih => obtain ⟨e, q⟩ := x; exact ⟨k _ _ (.inl rfl) e, ih q⟩
 | K4 ps =>
   have e : h.get? a = some { cls := .none, data := .fields ps } := x
   show h'.get? a = some { cls := .none, data := .fields ps }
   exact k a _ (.inl rfl) e
 | met f y =>
   have e : h.get? a = some (PySem.W.methodObj (.ref f) (.ref y)) := x
   show h'.get? a = some (PySem.W.methodObj (.ref f) (.ref y))
   exact k a _ (.inl rfl) e
 | ext φ => obtain ⟨p, ⟨o, e⟩, st⟩ := x; exact ⟨st _ _ p fun o q => k _ _ (.inl rfl) q, ⟨o, k _ _ (.inl rfl) e⟩, st⟩
theorem oW.lt (x : oW P w H h) (e : H a = some o) : a < h.objs.size := (x a o e).lt
theorem oW.fresh (x : oW P w H h) (e : h.objs.size <= a) : H a = none := by
 cases q : H a with
 | none => rfl
 | some u => exact absurd (Nat.lt_of_lt_of_le (x.lt q) e) (Nat.lt_irrefl _)
theorem oW.kept (x : oW P w H h) (k : ∀ b u, h.get? b = some u -> h'.get? b = some u) : oW P w H h' := fun a o e =>
 (x a o e).stay (fun b u _ q => k b u q) (fun _ q => q) fun _ _ q => q
theorem oW.laid (x : oW P w H h) (k : ∀ b u, h.get? b = some u -> h'.get? b = some u) (hp : h.objs.size <= a) (new : di P w (upd H a o) h' a o) : oW P w (upd H a o) h' := fun b u e => by
 have hn := x.fresh hp
 by_cases hb : b = a
 . subst hb; rw [bI] at e; cases e; exact new
 . rw [aN hb] at e
   exact (x b u e).stay (fun c v _ q => k c v q) (fun c q => by rw [aN (fJ q hn)]; exact q) fun c xs q => by rw [aN (fJ q hn)]; exact q
end
noncomputable def Rd (H : Hp) (a : Addr) (u : HO) : Prop := H a = some u \/ ∃ o, H a = some (.jc o u)
theorem Rd.ok {P : Program} {w : World} {H : Hp} {h : Heap} {a : Addr} {u : HO} (r : Rd H a u) (x : oW P w H h) : di P w H h a u := by
 rcases r with r | ⟨o, r⟩
 . exact x a u r
 . obtain ⟨_, q⟩ := x a _ r
   exact q
noncomputable def R5 : Option HO -> Prop
 | some (.lst _) => True
 | some (.dK _) => True
 | some (.dT _) => True
 | some (.set _ _) => True
 | some (.ins _ _ _) => True
 | some (.ext _) => True
 | _ => False
section
variable {P : Program} {w : World} {H : Hp} {h h' : Heap} {x e : Addr} {o' : HO}
theorem oW.write (ok : oW P w H h) (mu : R5 (H x)) (he : e = x \/ H e = some (.own x)) (k : ∀ b u, b ≠ e -> h.get? b = some u -> h'.get? b = some u) (heo : ∃ u, h'.get? e = some u)
 (new : di P w (upd H x o') h' x o') : oW P w (upd H x o') h' := fun b u q => by
 have Rg : ∀ c y, H c = some (.own y) -> c ≠ x := fun c y r z => by subst z; rw [r] at mu; exact mu
 have Xb : ∀ c xs, H c = some (.tup xs) -> c ≠ x := fun c xs r z => by subst z; rw [r] at mu; exact mu
 by_cases hb : b = x
 . subst hb; rw [bI] at q; cases q; exact new
 . rw [aN hb] at q
   by_cases hbe : b = e
   . have q' : H b = some (.own x) := by
      rcases he with z | z
      . exact absurd (hbe.trans z) hb
      . rw [hbe]; exact z
     rw [q] at q'; cases q'
     obtain ⟨v, hv⟩ := heo
     exact ⟨v, by rw [hbe]; exact hv⟩
   . refine (ok b u q).stay (fun c v hc r => k c v ?_ r) (fun c r => by rw [aN (Rg c b r)]; exact r) fun c xs r => by rw [aN (Xb c xs r)]; exact r
     rcases hc with rfl | hc
     . exact hbe
     . rintro rfl
       rcases he with z | z
       . exact Rg c b hc z
       . rw [hc] at z; cases z; exact hb rfl
end
structure Un (fs ex : List Addr) (H H' : Hp) (h h' : Heap) : Prop where
 keep : ∀ b o, h.get? b = some o -> H b = none -> b ∉ fs -> b ∉ ex -> h'.get? b = some o
 slot : ∀ b o, h.get? b = some o -> H b = none -> b ∈ fs -> b ∉ ex -> ∃ sl, h'.get? b = some { o with slots := sl }
 free : ∀ b o, h.get? b = some o -> H b = none -> b ∉ ex -> H' b = none
 there : ∀ b o, h.get? b = some o -> b ∉ ex -> ∃ o', h'.get? b = some o'
 tups : ∀ b xs, H b = some (.tup xs) -> H' b = some (.tup xs)
 rG : ∀ b o u, H b = some (.jc o u) -> H' b = some (.jc o u)
 uD : ∀ b ps, H b = some (.K4 ps) -> ∃ more, H' b = some (.K4 (ps ++ more))
section
variable {fs fs' ex ex' : List Addr} {H H1 H2 : Hp} {h h1 h2 h' : Heap} {a x e : Addr} {o : HO}
theorem Un.any (u : Un fs ex H H1 h h1) {b : Addr} {ob : Obj} (q : h.get? b = some ob) (n : H b = none) (hx : b ∉ ex) : ∃ sl, h1.get? b = some { ob with slots := sl } := by
 by_cases hb : b ∈ fs
 . exact u.slot b ob q n hb hx
 . exact ⟨ob.slots, u.keep b ob q n hb hx⟩
theorem Un.kept (k : ∀ b u, h.get? b = some u -> h'.get? b = some u) : Un fs ex H H h h' :=
 ⟨fun b ob q _ _ _ => k b ob q, fun b ob q _ _ _ => ⟨ob.slots, k b ob q⟩, fun _ _ _ n _ => n, fun b ob q _ => ⟨ob, k b ob q⟩, fun _ _ q => q, fun _ _ _ q => q, fun _ ps q => ⟨#[], by rw [q]; simp⟩⟩
theorem Un.refl : Un fs ex H H h h := Un.kept fun _ _ q => q
theorem Un.laid (k : ∀ b u, h.get? b = some u -> h'.get? b = some u) (hp : h.objs.size <= a) (hn : H a = none) : Un fs ex H (upd H a o) h h' where
 keep := fun b u q _ _ _ => k b u q
 slot := fun b u q _ _ _ => ⟨u.slots, k b u q⟩
 free := fun b u q n _ => by rw [aN (Nat.ne_of_lt (Nat.lt_of_lt_of_le (Heap.lt_size q) hp))]; exact n
 there := fun b u q _ => ⟨u, k b u q⟩
 tups := fun b xs q => by rw [aN (fJ q hn)]; exact q
 rG := fun b u xs q => by rw [aN (fJ q hn)]; exact q
 uD := fun b ps q => ⟨#[], by rw [aN (fJ q hn), q]; simp⟩
theorem Un.write (mu : R5 (H x)) (he : e = x \/ H e = some (.own x)) (k : ∀ b u, b ≠ e -> h.get? b = some u -> h'.get? b = some u) (heo : ∃ u, h'.get? e = some u) : Un fs ex H (upd H x o) h h' := by
 have hx : ∀ b, H b = none -> b ≠ x := fun b n z => by subst z; rw [n] at mu; exact mu
 have hb : ∀ b, H b = none -> b ≠ e := fun b n z => by
  subst z
  rcases he with r | r
  . exact hx b n r
  . rw [n] at r; cases r
 have hm : ∀ b u, H b = some u -> ¬ R5 (some u) -> b ≠ x := fun b u q nm z => by subst z; rw [q] at mu; exact nm mu
 refine ⟨fun b u q n _ _ => k b u (hb b n) q, fun b u q n _ _ => ⟨u.slots, k b u (hb b n) q⟩, fun b u q n _ => by rw [aN (hx b n)]; exact n, fun b u q _ => ?_,
  fun b xs q => by rw [aN (hm b _ q fun z => z)]; exact q, fun b u xs q => by rw [aN (hm b _ q fun z => z)]; exact q, fun b ps q => ⟨#[], by rw [aN (hm b _ q fun z => z), q]; simp⟩⟩
 by_cases hbe : b = e
 . subst hbe; exact heo
 . exact ⟨u, k b u hbe q⟩
end
noncomputable def S5 (h : Heap) (H : Hp) : List Addr := (List.range h.objs.size).filter fun a => (H a).isSome
noncomputable def qQ (h : Heap) (H : Hp) : Heap := PySem.W.hideAll h (S5 h H)
theorem yE (h : Heap) (H : Hp) : (qQ h H).objs.size = h.objs.size := PySem.W.hideAll_size _ _
theorem zQ {h : Heap} {H : Hp} {b : Addr} {o : Obj} (e : h.get? b = some o) (n : H b = none) : (qQ h H).get? b = some o :=
 PySem.W.hideAll_get _ e fun hm => by
  have q : (H b).isSome = true := (List.mem_filter.mp hm).2
  rw [n] at q; simp at q
theorem EY {h : Heap} {H : Hp} {b : Addr} {o : Obj} (e : (qQ h H).get? b = some o) : h.get? b = some o /\ H b = none := by
 have e' : h.get? b = some o := PySem.W.of_hideAll (S5 h H) e
 refine ⟨e', ?_⟩
 cases q : H b with
 | none => rfl
 | some x =>
   have hm : b ∈ S5 h H := List.mem_filter.mpr ⟨List.mem_range.mpr (Heap.lt_size e'), by simp [q]⟩
   have z : (qQ h H).get? b = none := PySem.W.hideAll_none (S5 h H) hm
   rw [z] at e; cases e
end L2
namespace L2
open PySem PySem.Spec PyProof.Rows
structure Mod (K : PySem.W.Frag) (mg : Str -> Option Value) (base : Heap) : Prop where
 Xc : K.In base
 glob : base.Ns mainGlobals mg
 blt : ∃ mb, base.Ns builtinsNs mb /\ ∀ x : Str, x ≠ "__name__" -> mb x = bootBuiltins x
 nolimit : base.NoLimit
structure Cx where
 prog : Program
 w : World
 K : PySem.W.Frag
 mg : Str -> Option Value
 base : Heap
 A : Around
 N : List Str
 s₀ : Shared
 H₀ : Hp
 env : Env
 outer : List Env
 stack : List Env
 ex : List Addr
 fn : Str -> Bool
 calm : Bool
 pn : List (Addr × Obj)
 xe : Value -> Shared -> Prop
noncomputable def frs (l : List Env) : List Addr := l.filterMap (·.frame)
noncomputable abbrev Cx.fs (X : Cx) : List Addr := frs X.outer
noncomputable def G7 (sc : Scope) (x : Str) : Prop := sc.names.lookup x = some .local \/ sc.names.lookup x = some .cell \/ sc.names.lookup x = some .free
noncomputable def Loc (sc : Scope) (x : Str) : Prop := sc.names.lookup x = some .local \/ sc.names.lookup x = some .cell
noncomputable def Look (env : Env) (h : Heap) (m : Str -> Option Value) (x : Str) (u : Value) : Prop :=
 (env.kindOf x = some .local /\ m x = some u) \/ ((env.kindOf x = some .cell \/ env.kindOf x = some .free) /\ ∃ c, env.cells.lookup x = some c /\ h.IsCell c (some u))
structure Cx.Ok (X : Cx) : Prop where
 mod : Mod X.K X.mg X.base
 kind : X.env.scope.kind = .function
 glob : X.env.globals = mainGlobals
 blt : X.env.builtins = builtinsNs
 above : X.s₀.heap.objs.size <= X.env.locals
 inj : ∀ x y c, X.env.cells.lookup x = some c -> X.env.cells.lookup y = some c -> x = y
 has : ∀ x, (X.env.kindOf x = some .cell \/ X.env.kindOf x = some .free) -> ∃ c, X.env.cells.lookup x = some c
 cab : ∀ x c, X.fn x = true -> X.env.cells.lookup x = some c -> X.s₀.heap.objs.size <= c
 hd : X.calm = true -> X.A.handled = none
 frames : X.A.frames = some X.stack
 T5 : X.stack = X.outer \/ (X.stack = X.env :: X.outer /\ X.env.frame = some X.env.locals)
 Y7 : ∀ b ∈ X.ex, b ≠ X.env.locals /\ ∀ x c, X.env.cells.lookup x = some c -> c ≠ b
 bs : ∀ b o, X.base.get? b = some o -> X.s₀.heap.get? b = some o /\ X.H₀ b = none
 Hc : X.base.objs.size <= X.s₀.heap.objs.size
 BL : ∀ b o, X.base.get? b = some o -> b ∉ X.ex
 FW : ∀ b ∈ X.ex, b ∉ X.fs
 oF : X.s₀.heap.FunFrames X.base X.outer
 Nz : ∀ b ∈ X.fs, X.H₀ b = none
structure Inv (X : Cx) (pins : List (Addr × Obj)) (σ : List (Option V)) (H : Hp) (s : Shared) : Prop where
 ok : X.Ok
 os : s.os = X.s₀.os
 bare : AllBare s.gens
 base : Un X.fs X.ex X.H₀ H X.s₀.heap s.heap
 loc : ∃ m, s.heap.Ns X.env.locals m /\ ∀ (i : Nat) (x : Str) (v : V), X.N[i]? = some x -> σ[i]? = some (some v) -> G7 X.env.scope x -> ∃ u, RelV v u /\ Look X.env s.heap m x u
 cell : ∀ x c, X.env.cells.lookup x = some c -> ∃ v, s.heap.IsCell c v
 free : H X.env.locals = none
 iy : ∀ x c, X.env.cells.lookup x = some c -> H c = none
 pin : ∀ p ∈ X.pn ++ pins, s.heap.get? p.1 = some p.2 /\ H p.1 = none /\ p.1 ≠ X.env.locals /\ p.1 ∉ X.fs /\ ∀ v, p.2.data ≠ .cell v
 hok : oW X.prog X.w H s.heap
 len : σ.length = X.N.length
section
variable {X : Cx} {pins : List (Addr × Obj)} {σ : List (Option V)} {H H' : Hp} {s : Shared} {h' : Heap}
theorem Cx.Ok.We (ok : X.Ok) {b : Addr} {o : Obj} (e : X.base.get? b = some o) : b ∉ X.fs := fun hb => by
 have := (ok.oF.mem hb).1
 rw [e] at this; cases this
theorem Inv.bs (I : Inv X pins σ H s) : ∀ b o, X.base.get? b = some o -> s.heap.get? b = some o /\ H b = none := fun b o e =>
 ⟨I.base.keep b o (I.ok.bs b o e).1 (I.ok.bs b o e).2 (I.ok.We e) (I.ok.BL b o e), I.base.free b o (I.ok.bs b o e).1 (I.ok.bs b o e).2 (I.ok.BL b o e)⟩
theorem Inv.bk (I : Inv X pins σ H s) : ∀ b o, X.base.get? b = some o -> s.heap.get? b = some o := fun b o e => (I.bs b o e).1
theorem Inv.mod (I : Inv X pins σ H s) : Mod X.K X.mg X.base := I.ok.mod
theorem Inv.Ir (I : Inv X pins σ H s) : X.K.In s.heap := I.ok.mod.Xc.keeps I.bk
theorem Inv.lt (I : Inv X pins σ H s) : X.env.locals < s.heap.objs.size := let ⟨_, hn, _⟩ := I.loc; hn.lt
theorem Inv.sz (I : Inv X pins σ H s) : X.s₀.heap.objs.size <= s.heap.objs.size := Nat.le_trans I.ok.above (Nat.le_of_lt I.lt)
theorem Inv.U7 (I : Inv X pins σ H s) {a : Addr} (h : s.heap.objs.size <= a) : a ∉ X.fs := fun hb => by
 obtain ⟨_, o, ho, _⟩ := I.ok.oF.mem hb
 exact absurd (Nat.lt_of_lt_of_le (Heap.lt_size ho) (Nat.le_trans I.sz h)) (Nat.lt_irrefl _)
theorem Inv.Hz (I : Inv X pins σ H s) : ∀ x c, X.env.cells.lookup x = some c -> c ≠ X.env.locals := fun x c e z => by
 obtain ⟨v, o, ho, hd⟩ := I.cell x c e
 obtain ⟨m, ⟨o', es, ep, ho', hd', _⟩, _⟩ := I.loc
 rw [z, ho'] at ho; cases ho; rw [hd'] at hd; cases hd
theorem Inv.oF (I : Inv X pins σ H s) : s.heap.FunFrames X.base X.outer := by
 have all : ∀ (l : List Env), (∀ b ∈ frs l, b ∈ X.fs) -> X.s₀.heap.FunFrames X.base l -> s.heap.FunFrames X.base l := by
  intro l
  induction l with
  | nil => intro _ _; trivial
  | cons env r ih =>
    intro hs hl
    obtain ⟨hk, ⟨L, o, hf, hn, ho, hd⟩, hr⟩ := hl
    have hL : L ∈ X.fs := hs L (by unfold frs; rw [List.filterMap_cons, hf]; exact List.mem_cons_self)
    obtain ⟨sl, e⟩ := I.base.slot L o ho (I.ok.Nz L hL) hL fun z => I.ok.FW L z hL
    exact ⟨hk, ⟨L, _, hf, hn, e, hd⟩, ih (fun b hb => hs b (by unfold frs; rw [List.filterMap_cons, hf]; exact List.mem_cons_of_mem _ hb)) hr⟩
 exact all X.outer (fun _ hb => hb) I.ok.oF
theorem Inv.stack (I : Inv X pins σ H s) : s.heap.FunFrames X.base X.stack := by
 rcases I.ok.T5 with e | ⟨e, hf⟩
 . rw [e]; exact I.oF
 . rw [e]
   obtain ⟨m, hn, _⟩ := I.loc
   refine .cons (by rw [I.ok.kind]; decide) hf hn ?_ I.oF
   exact Heap.get?_none_of_le (Nat.le_trans I.ok.Hc I.ok.above)
theorem Inv.qg (I : Inv X pins σ H s) : ∀ b ∈ frs X.stack, b ∈ X.env.locals :: X.fs := fun b hb => by
 rcases I.ok.T5 with e | ⟨e, hf⟩
 . rw [e] at hb; exact List.mem_cons_of_mem _ hb
 . rw [e] at hb
   unfold frs at hb
   rw [List.filterMap_cons, hf] at hb
   exact hb
theorem Inv.wD (I : Inv X pins σ H s) : ∀ b ∈ frs X.stack, H b = none := fun b hb => by
 rcases List.mem_cons.mp (I.qg b hb) with e | hb
 . rw [e]; exact I.free
 . obtain ⟨_, o, ho, _⟩ := I.ok.oF.mem hb
   exact I.base.free b o ho (I.ok.Nz b hb) fun z => I.ok.FW b z hb
theorem Inv.step {g' : Array GenState} {t' : Nat} {d' : Drawn} {ch : List Addr} (I : Inv X pins σ H s)
 (hch : ∀ b ∈ ch, (b ∈ X.ex \/ X.s₀.heap.objs.size <= b) /\ b ≠ X.env.locals /\ (∀ x c, X.env.cells.lookup x = some c -> c ≠ b) /\ ∀ p ∈ X.pn ++ pins, p.1 ≠ b)
 (keep : ∀ b o, b ≠ X.env.locals -> b ∉ X.fs -> b ∉ ch -> s.heap.get? b = some o -> H b = none -> h'.get? b = some o)
 (slot : ∀ b o, b ≠ X.env.locals -> b ∈ X.fs -> b ∉ ch -> s.heap.get? b = some o -> H b = none -> ∃ sl, h'.get? b = some { o with slots := sl }) (free : ∀ b o, b ∉ ch -> s.heap.get? b = some o -> H b = none -> H' b = none)
 (there : ∀ b o, b ∉ ch -> s.heap.get? b = some o -> ∃ o', h'.get? b = some o')
 (tups : ∀ b xs, H b = some (.tup xs) -> H' b = some (.tup xs)) (rG : ∀ b o u, H b = some (.jc o u) -> H' b = some (.jc o u)) (uD : ∀ b ps, H b = some (.K4 ps) -> ∃ more, H' b = some (.K4 (ps ++ more)))
 (ns : ∀ m, s.heap.Ns X.env.locals m -> h'.Ns X.env.locals m) (hok : oW X.prog X.w H' h') (hg : AllBare g') :
 Inv X pins σ H' { s with heap := h', gens := g', drawn := d', toks := t' } := by
 have Y8 : ∀ b o, X.s₀.heap.get? b = some o -> b ≠ X.env.locals := fun b o e => Nat.ne_of_lt (Nat.lt_of_lt_of_le (Heap.lt_size e) I.ok.above)
 have T6 : ∀ b o, X.s₀.heap.get? b = some o -> b ∉ X.ex -> b ∉ ch := fun b o e hx hb => by
  rcases (hch b hb).1 with z | z
  . exact hx z
  . exact absurd (Nat.lt_of_lt_of_le (Heap.lt_size e) z) (Nat.lt_irrefl _)
 have cellK : ∀ x c, X.env.cells.lookup x = some c -> ∀ v, s.heap.IsCell c v -> h'.IsCell c v := fun x c e v ⟨o, ho, hd⟩ => by
  have Rh : c ∉ ch := fun z => (hch c z).2.2.1 x c e rfl
  by_cases hc : c ∈ X.fs
  . obtain ⟨sl, q⟩ := slot c o (I.Hz x c e) hc Rh ho (I.iy x c e)
    exact ⟨_, q, hd⟩
  . exact ⟨o, keep c o (I.Hz x c e) hc Rh ho (I.iy x c e), hd⟩
 refine ⟨I.ok, I.os, hg, ⟨fun b o e n hb hx => ?_, fun b o e n hb hx => ?_, fun b o e n hx => ?_, fun b o e hx => ?_, fun b xs e => tups b xs (I.base.tups b xs e), fun b o xs e => rG b o xs (I.base.rG b o xs e), fun b ps e => ?_⟩, ?_, fun x c e => ?_, ?_, fun x c e => ?_, fun p hp => ?_, hok, I.len⟩
 . exact keep b o (Y8 b o e) hb (T6 b o e hx) (I.base.keep b o e n hb hx) (I.base.free b o e n hx)
 . obtain ⟨sl, e1⟩ := I.base.slot b o e n hb hx
   obtain ⟨sl', e2⟩ := slot b _ (Y8 b o e) hb (T6 b o e hx) e1 (I.base.free b o e n hx)
   exact ⟨sl', e2⟩
 . obtain ⟨o', e1⟩ := I.base.there b o e hx
   exact free b o' (T6 b o e hx) e1 (I.base.free b o e n hx)
 . obtain ⟨o', e1⟩ := I.base.there b o e hx
   exact there b o' (T6 b o e hx) e1
 . obtain ⟨m1, e1⟩ := I.base.uD b ps e
   obtain ⟨m2, e2⟩ := uD b _ e1
   exact ⟨m1 ++ m2, by rw [e2, Array.append_assoc]⟩
 . obtain ⟨m, hn, hl⟩ := I.loc
   refine ⟨m, ns m hn, fun i x v e1 e2 e3 => ?_⟩
   obtain ⟨u, r, l⟩ := hl i x v e1 e2 e3
   refine ⟨u, r, ?_⟩
   rcases l with l | ⟨k, c, e, z⟩
   . exact .inl l
   . exact .inr ⟨k, c, e, cellK x c e _ z⟩
 . obtain ⟨v, z⟩ := I.cell x c e
   exact ⟨v, cellK x c e v z⟩
 . obtain ⟨m, ⟨o, _, _, ho, _⟩, _⟩ := I.loc
   exact free _ o (fun z => (hch _ z).2.1 rfl) ho I.free
 . obtain ⟨v, o, ho, hd⟩ := I.cell x c e
   exact free c o (fun z => (hch c z).2.2.1 x c e rfl) ho (I.iy x c e)
 . obtain ⟨e, n, ne, nf, d⟩ := I.pin p hp
   have Rh : p.1 ∉ ch := fun z => (hch p.1 z).2.2.2 p hp rfl
   exact ⟨keep p.1 p.2 ne nf Rh e n, free p.1 p.2 Rh e n, ne, nf, d⟩
theorem Inv.un {t' : Nat} (I : Inv X pins σ H s) (u : Un X.fs [] H H' s.heap h') (hok : oW X.prog X.w H' h') : Inv X pins σ H' { s with heap := h', toks := t' } := by
 obtain ⟨m, ⟨o, es, ep, ho, r⟩, _⟩ := id I.loc
 obtain ⟨sl, hL⟩ := u.any ho I.free (by simp)
 exact I.step (g' := s.gens) (d' := s.drawn) (ch := []) (fun _ z => nomatch z) (fun b o _ hb _ e n => u.keep b o e n hb (by simp)) (fun b o _ hb _ e n => u.slot b o e n hb (by simp)) (fun b o _ e n => u.free b o e n (by simp)) (fun b o _ e => u.there b o e (by simp)) u.tups u.rG u.uD (fun m' hm => by
  obtain ⟨o', es', ep', ho', r'⟩ := hm
  rw [ho] at ho'; cases ho'
  exact ⟨_, es', ep', hL, r'⟩) hok I.bare
theorem Inv.call {g' : Array GenState} {t' : Nat} {d' : Drawn} {ch : List Addr} (I : Inv X pins σ H s) (u : Un (frs X.stack) ch H H' s.heap h') (hok : oW X.prog X.w H' h') (hg : AllBare g')
 (hch : ∀ b ∈ ch, (b ∈ X.ex \/ X.s₀.heap.objs.size <= b) /\ b ≠ X.env.locals /\ (∀ x c, X.env.cells.lookup x = some c -> c ≠ b) /\ ∀ p ∈ X.pn ++ pins, p.1 ≠ b) :
 Inv X pins σ H' { s with heap := h', gens := g', drawn := d', toks := t' } := by
 obtain ⟨m, ⟨o, es, ep, ho, r⟩, _⟩ := id I.loc
 obtain ⟨sl, hL⟩ := u.any ho I.free fun z => (hch _ z).2.1 rfl
 exact I.step (ch := ch) hch (fun b o hL hb hc e n => u.keep b o e n (fun z => (List.mem_cons.mp (I.qg b z)).elim hL hb) hc) (fun b o _ _ hc e n => u.any e n hc) (fun b o hc e n => u.free b o e n hc) (fun b o hc e => u.there b o e hc) u.tups u.rG u.uD (fun m' hm => by
  obtain ⟨o', es', ep', ho', r'⟩ := hm
  rw [ho] at ho'; cases ho'
  exact ⟨_, es', ep', hL, r'⟩) hok hg
theorem Inv.turned {t' : Nat} {it : Addr} (I : Inv X pins σ H s) (k : ∀ b o, b ≠ it -> s.heap.get? b = some o -> h'.get? b = some o) (hn : H it = none) (hL : it ≠ X.env.locals)
 (h1 : it ∈ X.ex \/ X.s₀.heap.objs.size <= it) (h2 : ∀ x c, X.env.cells.lookup x = some c -> c ≠ it) (h3 : ∀ p ∈ X.pn ++ pins, p.1 ≠ it) : Inv X pins σ H { s with heap := h', toks := t' } := by
 have Y9 : ∀ b u, H b = some u -> b ≠ it := fun b u e z => by rw [z, hn] at e; cases e
 refine I.step (g' := s.gens) (d' := s.drawn) (ch := [it]) (fun b hb => ?_) (fun b o _ _ hc e _ => k b o (fun z => hc (by simp [z])) e) (fun b o _ _ hc e _ => ⟨o.slots, k b o (fun z => hc (by simp [z])) e⟩) (fun _ _ _ _ n => n)
  (fun b o hc e => ⟨o, k b o (fun z => hc (by simp [z])) e⟩) (fun _ _ e => e) (fun _ _ _ e => e) (fun b ps e => ⟨#[], by rw [e]; simp⟩) (fun m hm => ?_) (fun b u e => ?_) I.bare
 . have e : b = it := by simpa using hb
   subst e
   exact ⟨h1, hL, h2, h3⟩
 . obtain ⟨o, es, ep, ho, r⟩ := hm
   exact ⟨o, es, ep, k _ o (Ne.symm hL) ho, r⟩
 . refine (I.hok b u e).stay (fun c v hc q => k c v ?_ q) (fun _ q => q) fun _ _ q => q
   rcases hc with z | z
   . rw [z]; exact Y9 b u e
   . exact Y9 c _ z
theorem Inv.tok (I : Inv X pins σ H s) (t : Nat) : Inv X pins σ H { s with toks := t } := I.un (h' := s.heap) (t' := t) Un.refl I.hok
theorem Inv.kept {t' : Nat} (I : Inv X pins σ H s) (k : ∀ b u, s.heap.get? b = some u -> h'.get? b = some u) : Inv X pins σ H { s with heap := h', toks := t' } := I.un (Un.kept k) (I.hok.kept k)
theorem Inv.laid {a : Addr} {o : HO} {t' : Nat} (I : Inv X pins σ H s) (k : ∀ b u, s.heap.get? b = some u -> h'.get? b = some u) (hp : s.heap.objs.size <= a) (new : di X.prog X.w (upd H a o) h' a o) :
 Inv X pins σ (upd H a o) { s with heap := h', toks := t' } := I.un (Un.laid k hp (I.hok.fresh hp)) (I.hok.laid k hp new)
theorem Inv.write {x e : Addr} {o : HO} {t' : Nat} (I : Inv X pins σ H s) (mu : R5 (H x)) (he : e = x \/ H e = some (.own x)) (k : ∀ b u, b ≠ e -> s.heap.get? b = some u -> h'.get? b = some u) (heo : ∃ u, h'.get? e = some u)
 (new : di X.prog X.w (upd H x o) h' x o) : Inv X pins σ (upd H x o) { s with heap := h', toks := t' } := I.un (Un.write mu he k heo) (I.hok.write mu he k heo new)
theorem Inv.wU {Hd : List (Addr × Obj)} (I : Inv X pins σ H s) (h : ∀ p ∈ Hd, s.heap.get? p.1 = some p.2 /\ H p.1 = none /\ p.1 ≠ X.env.locals /\ p.1 ∉ X.fs /\ ∀ v, p.2.data ≠ .cell v) : Inv X Hd σ H s :=
 ⟨I.ok, I.os, I.bare, I.base, I.loc, I.cell, I.free, I.iy, fun p hp => (List.mem_append.mp hp).elim (fun z => I.pin p (List.mem_append_left _ z)) (h p), I.hok, I.len⟩
theorem sy {N : List Str} (hN : N.Nodup) {i j : Nat} {x : Str} (a : N[i]? = some x) (b : N[j]? = some x) : i = j := by
 obtain ⟨h1, e1⟩ := List.getElem?_eq_some_iff.mp a
 obtain ⟨h2, e2⟩ := List.getElem?_eq_some_iff.mp b
 exact (List.getElem_inj hN).mp (e1.trans e2.symm)
theorem pL {M : Model} {A : Around} {E : Value -> Shared -> Prop} {i : Nat} {x : Str} {v : V} {u : Value} {Q : Unit -> Shared -> Prop} (I : Inv X pins σ H s) (hN : X.N.Nodup) (hi : X.N[i]? = some x) (hx : Loc X.env.scope x) (r : RelV v u)
 (h : ∀ s', Inv X pins (σ.set i (some v)) H s' -> (∃ a, Heap.SameBut a s.heap s'.heap /\ (a = X.env.locals \/ X.env.cells.lookup x = some a)) -> Q () s') (hf : X.fn x = true \/ X.env.scope.names.lookup x = some .local := by first | exact .inl rfl | exact .inr rfl | assumption) : wpAny M A (storeName X.env x u) Q E s := by
 obtain ⟨m, hn, hl⟩ := id I.loc
 have hcls : (X.env.scope.kind == .class || (X.env.scope.kind == .module && X.env.locals != X.env.globals)) = false := by rw [I.ok.kind]; rfl
 have hiσ : i < σ.length := by rw [I.len]; exact (List.getElem?_eq_some_iff.mp hi).1
 have Hz := I.Hz
 have tracked : ∀ {a : Addr} {h' : Heap}, (∃ o, s.heap.get? a = some o /\ H a = none) -> Heap.SameBut a s.heap h' -> oW X.prog X.w H h' := fun {a h'} ha hs b ob e => by
  obtain ⟨_, _, hfree⟩ := ha
  refine (I.hok b ob e).stay (fun c w' hc q => (hs.2 c ?_).trans q) (fun _ q => q) fun _ _ q => q
  rintro rfl
  rcases hc with rfl | hc
  . rw [hfree] at e; cases e
  . rw [hfree] at hc; cases hc
 rcases hx with hk | hk
 . refine wpAny_storeName_local hk hn (fun h' hn' hs => ?_) hcls
   obtain ⟨oL, _, _, hoL, _⟩ := id hn
   refine h _ ⟨I.ok, I.os, I.bare, ⟨fun b o e n hb hx => ?_, fun b o e n hb hx => ?_, I.base.free, fun b o e hx => ?_, I.base.tups, I.base.rG, I.base.uD⟩, ⟨_, hn', fun j y v' e1 e2 e3 => ?_⟩, fun y c e => ?_, I.free, I.iy, fun p hp => ?_, tracked ⟨oL, hoL, I.free⟩ hs, by simpa using I.len⟩ ⟨_, hs, .inl rfl⟩
   . exact (hs.2 b (Nat.ne_of_lt (Nat.lt_of_lt_of_le (Heap.lt_size e) I.ok.above))).trans (I.base.keep b o e n hb hx)
   . obtain ⟨sl, e1⟩ := I.base.slot b o e n hb hx
     exact ⟨sl, (hs.2 b (Nat.ne_of_lt (Nat.lt_of_lt_of_le (Heap.lt_size e) I.ok.above))).trans e1⟩
   . obtain ⟨o', e1⟩ := I.base.there b o e hx
     exact ⟨o', (hs.2 b (Nat.ne_of_lt (Nat.lt_of_lt_of_le (Heap.lt_size e) I.ok.above))).trans e1⟩
   . by_cases hj : j = i
     . subst hj
       rw [hi] at e1; cases e1
       rw [List.getElem?_set_self hiσ] at e2
       cases e2
       exact ⟨u, r, .inl ⟨hk, by simp⟩⟩
     . rw [List.getElem?_set_ne (Ne.symm hj)] at e2
       obtain ⟨u', r', q⟩ := hl j y v' e1 e2 e3
       refine ⟨u', r', ?_⟩
       rcases q with ⟨k, e⟩ | ⟨k, c, e, z⟩
       . refine .inl ⟨k, ?_⟩
         have : y ≠ x := fun e => hj (sy hN e1 (e ▸ hi))
         simp [this, e]
       . exact .inr ⟨k, c, e, z.sameBut hs (Hz y c e)⟩
   . obtain ⟨w', z⟩ := I.cell y c e
     exact ⟨w', z.sameBut hs (Hz y c e)⟩
   . obtain ⟨e, n, ne, nf, d⟩ := I.pin p hp
     exact ⟨(hs.2 p.1 ne).trans e, n, ne, nf, d⟩
 . have hfn : X.fn x = true := by
    rcases hf with z | z
    . exact z
    . rw [z] at hk; cases hk
   obtain ⟨c, hc⟩ := I.ok.has x (.inl hk)
   obtain ⟨w', z⟩ := I.cell x c hc
   refine wpAny_storeName_cell I.ok.kind hk hc z (fun h' hc' hs => ?_)
   obtain ⟨oc, hoc, Xd⟩ := id z
   refine h { s with heap := h' } ⟨I.ok, I.os, I.bare, ⟨fun b o e n hb hx => ?_, fun b o e n hb hx => ?_, I.base.free, fun b o e hx => ?_, I.base.tups, I.base.rG, I.base.uD⟩, ⟨m, hn.sameBut hs (Ne.symm (Hz x c hc)), fun j y v' e1 e2 e3 => ?_⟩, fun y c' e => ?_, I.free, I.iy, fun p hp => ?_, tracked ⟨oc, hoc, I.iy x c hc⟩ hs, by simpa using I.len⟩ ⟨c, hs, .inr hc⟩
   . exact (hs.2 b (Nat.ne_of_lt (Nat.lt_of_lt_of_le (Heap.lt_size e) (I.ok.cab x c hfn hc)))).trans (I.base.keep b o e n hb hx)
   . obtain ⟨sl, e1⟩ := I.base.slot b o e n hb hx
     exact ⟨sl, (hs.2 b (Nat.ne_of_lt (Nat.lt_of_lt_of_le (Heap.lt_size e) (I.ok.cab x c hfn hc)))).trans e1⟩
   . obtain ⟨o', e1⟩ := I.base.there b o e hx
     exact ⟨o', (hs.2 b (Nat.ne_of_lt (Nat.lt_of_lt_of_le (Heap.lt_size e) (I.ok.cab x c hfn hc)))).trans e1⟩
   . by_cases hj : j = i
     . subst hj
       rw [hi] at e1; cases e1
       rw [List.getElem?_set_self hiσ] at e2
       cases e2
       exact ⟨u, r, .inr ⟨.inl hk, c, hc, hc'⟩⟩
     . rw [List.getElem?_set_ne (Ne.symm hj)] at e2
       obtain ⟨u', r', q⟩ := hl j y v' e1 e2 e3
       refine ⟨u', r', ?_⟩
       rcases q with q | ⟨k, c', e, z'⟩
       . exact .inl q
       . refine .inr ⟨k, c', e, z'.sameBut hs ?_⟩
         rintro rfl
         exact hj (sy hN e1 (I.ok.inj _ _ _ e hc ▸ hi))
   . by_cases hcc : c' = c
     . subst hcc; exact ⟨_, hc'⟩
     . obtain ⟨w2, z2⟩ := I.cell y c' e
       exact ⟨w2, z2.sameBut hs hcc⟩
   . obtain ⟨e, n, ne, nf, d⟩ := I.pin p hp
     refine ⟨(hs.2 p.1 ?_).trans e, n, ne, nf, d⟩
     intro q
     rw [q, hoc] at e
     have q' : oc = p.2 := Option.some.inj e
     exact d w' (by rw [<- q']; exact Xd)
theorem j5 {M : Model} {A : Around} {E : Value -> Shared -> Prop} {i : Nat} {x : Str} {v : V} {u : Value} {Q : Unit -> Shared -> Prop} (I : Inv X pins σ H s) (hN : X.N.Nodup) (hi : X.N[i]? = some x) (hx : Loc X.env.scope x) (r : RelV v u)
 (h : ∀ s', Inv X pins (σ.set i (some v)) H s' -> Q () s') (hf : X.fn x = true \/ X.env.scope.names.lookup x = some .local := by first | exact .inl rfl | exact .inr rfl | assumption) : wpAny M A (storeName X.env x u) Q E s :=
 pL I hN hi hx r (fun s' I' _ => h s' I') hf
end
noncomputable abbrev XK := Value -> Option Addr -> Hp -> Prop
noncomputable abbrev St := List (Option V)
noncomputable abbrev VK := V -> Hp -> Prop
noncomputable abbrev TE := St -> Hp -> VK -> Prop
noncomputable abbrev TT := St -> Hp -> (Bool -> Hp -> Prop) -> Prop
noncomputable abbrev TA := St -> Hp -> (List V -> Hp -> Prop) -> Prop
structure Ends where
 nx : St -> Hp -> Prop
 rt : VK
 bk : St -> Hp -> Prop := fun _ _ => False
 ct : St -> Hp -> Prop := fun _ _ => False
noncomputable abbrev TS := Ends -> St -> Hp -> Prop
inductive EP (X : Cx) (pins : List (Addr × Obj)) (σ : St) (Q : VK) (u : Value) (s' : Shared) : Prop where
 | mk (v : V) (H' : Hp) (q0 : Inv X pins σ H' s') (q1 : RelV v u) (q2 : Q v H')
noncomputable def TP (X : Cx) (pins : List (Addr × Obj)) (σ : St) (Q : Bool -> Hp -> Prop) (b : Bool) (s' : Shared) : Prop := ∃ H', Inv X pins σ H' s' /\ Q b H'
inductive AP (X : Cx) (pins : List (Addr × Obj)) (σ : St) (Q : List V -> Hp -> Prop) (us : List Value) (s' : Shared) : Prop where
 | mk (vs : List V) (H' : Hp) (q0 : Inv X pins σ H' s') (q1 : Vals vs us) (q2 : Q vs H')
noncomputable def SP (X : Cx) (pins : List (Addr × Obj)) (D : Ends) (f : Flow) (s' : Shared) : Prop :=
 match f with
 | .next => ∃ σ' H', Inv X pins σ' H' s' /\ D.nx σ' H'
 | .brk => ∃ σ' H', Inv X pins σ' H' s' /\ D.bk σ' H'
 | .cont => ∃ σ' H', Inv X pins σ' H' s' /\ D.ct σ' H'
 | .ret u => ∃ v σ' H', Inv X pins σ' H' s' /\ RelV v u /\ D.rt v H'
noncomputable def PE (X : Cx) (e : Expr) (t : TE) : Prop :=
 ∀ (pins : List (Addr × Obj)) (s : Shared) (σ : St) (H : Hp) (Q : VK), Inv X pins σ H s -> t σ H Q -> wpAny (model X.prog X.w) X.A (eval e X.env) (EP X pins σ Q) X.xe s
noncomputable def PT (X : Cx) (e : Expr) (t : TT) : Prop :=
 ∀ (pins : List (Addr × Obj)) (s : Shared) (σ : St) (H : Hp) (Q : Bool -> Hp -> Prop), Inv X pins σ H s -> t σ H Q -> wpAny (model X.prog X.w) X.A (isTrue e X.env (eval e X.env)) (TP X pins σ Q) X.xe s
noncomputable def PW (X : Cx) (e : Expr) (t : TT) : Prop :=
 ∀ (whole : Sem Value) (pins : List (Addr × Obj)) (s : Shared) (σ : St) (H : Hp) (Q : Bool -> Hp -> Prop), Inv X pins σ H s -> t σ H Q -> wpAny (model X.prog X.w) X.A (isTrue e X.env whole) (TP X pins σ Q) X.xe s
theorem PW.pt {X : Cx} {e : Expr} {t : TT} (h : PW X e t) : PT X e t := h _
noncomputable def PA (X : Cx) (es : List Expr) (t : TA) : Prop :=
 ∀ (pos : Pos) (pins : List (Addr × Obj)) (s : Shared) (σ : St) (H : Hp) (Q : List V -> Hp -> Prop), Inv X pins σ H s -> t σ H Q -> wpAny (model X.prog X.w) X.A (spliced (backTo pos (starEach es X.env))) (AP X pins σ Q) X.xe s
noncomputable def PS (X : Cx) (st : Stmt) (t : TS) : Prop :=
 ∀ (pins : List (Addr × Obj)) (s : Shared) (σ : St) (H : Hp) (D : Ends), Inv X pins σ H s -> t D σ H -> wpAny (model X.prog X.w) X.A (exec st X.env) (SP X pins D) X.xe s
noncomputable def xF (X : Cx) (st : List Stmt) (t : TS) : Prop :=
 ∀ (pins : List (Addr × Obj)) (s : Shared) (σ : St) (H : Hp) (D : Ends), Inv X pins σ H s -> t D σ H -> wpAny (model X.prog X.w) X.A (execs st X.env) (SP X pins D) X.xe s
theorem dN {α : Type} {t : Sem α} {Q Q' : α -> Shared -> Prop} {M : Model} {A : Around} {E : Value -> Shared -> Prop} {s : Shared} (h : wpAny M A t Q E s) (hQ : ∀ a s, Q a s -> Q' a s) : wpAny M A t Q' E s := wpAny_mono h hQ fun _ _ x => x
end L2
namespace L2
open PySem PySem.Spec PyProof.Rows
section
variable {X : Cx}
noncomputable def Oz (i : Nat) : TE := fun σ H Q => ∃ v, σ[i]? = some (some v) /\ Q v H
noncomputable def tC (v : V) : TE := fun _ H Q => Q v H
theorem qJ {i : Nat} {x : Str} {pos : Pos} (hN : X.N[i]? = some x) (hv : G7 X.env.scope x) (hd : (x == ("__debug__" : Str)) = false := by decide) (hcd : (x == ("__classdict__" : Str)) = false := by decide) : PE X (.Name x pos) (Oz i) := by
 intro pins s σ H Q I h
 obtain ⟨v, e, h⟩ := h
 obtain ⟨m, hn, hl⟩ := I.loc
 obtain ⟨u, r, l⟩ := hl i x v hN e hv
 have fin : EP X pins σ Q u s := ⟨v, H, I, r, h⟩
 rcases l with ⟨hk, hm⟩ | ⟨hk, c, hc, hcell⟩
 . exact wpAny_Name (wpAny_loadName_local I.ok.kind hk hn hm fin) hd
 . rcases hk with hk | hk
   . exact wpAny_Name (wpAny_loadName_cell I.ok.kind hk hc hcell fin) hd
   . exact wpAny_Name (wpAny_loadName_free I.ok.kind hk hc hcell fin hcd) hd
theorem KR {i j pos} : PE X (.Constant (.int i) j pos) (tC (.int i)) := fun _ _ _ H _ I h => wpAny_Constant_int ⟨.int i, H, I.tok _, ⟨_, rfl⟩, h⟩
theorem Qq {b j pos} : PE X (.Constant (.bool b) j pos) (tC (.bl b)) := fun _ _ _ H _ I h => Constant_bool ⟨.bl b, H, I, rfl, h⟩
noncomputable def Gl (X : Cx) (x : Str) : Prop := X.env.kindOf x = some .globalImplicit
theorem Fg {E : Value -> Shared -> Prop} {pins : List (Addr × Obj)} {s : Shared} {σ : St} {H : Hp} {x : Str} {u : Value} {pos : Pos} {Q : Value -> Shared -> Prop} (I : Inv X pins σ H s) (hg : Gl X x) (hm : X.mg x = some u) (h : Q u s)
 (hd : (x == ("__debug__" : Str)) = false := by decide) : wpAny (model X.prog X.w) X.A (eval (.Name x pos) X.env) Q E s :=
 Calls.Name_function_global I.ok.kind hg (Calls.loadGlobal_global (by rw [I.ok.glob]; exact I.mod.glob.keeps I.bk) hm h) hd
theorem n6 {E : Value -> Shared -> Prop} {pins : List (Addr × Obj)} {s : Shared} {σ : St} {H : Hp} {x : Str} {u : Value} {pos : Pos} {Q : Value -> Shared -> Prop} (I : Inv X pins σ H s) (hg : Gl X x) (hm : X.mg x = none) (hv : bootBuiltins x = some u) (h : Q u s)
 (hn : x ≠ "__name__" := by decide) (hd : (x == ("__debug__" : Str)) = false := by decide) : wpAny (model X.prog X.w) X.A (eval (.Name x pos) X.env) Q E s := by
 obtain ⟨mb, h1, h2⟩ := I.mod.blt
 exact Calls.Name_function_global I.ok.kind hg (Calls.loadGlobal_builtin (by rw [I.ok.glob]; exact I.mod.glob.keeps I.bk) hm (by rw [I.ok.blt]; exact h1.keeps I.bk) ((h2 x hn).trans hv) h) hd
theorem Du {x : Str} {v : V} {u : Value} {pos : Pos} (hg : Gl X x) (hm : X.mg x = none) (hv : bootBuiltins x = some u) (r : RelV v u) (hn : x ≠ "__name__" := by decide) (hd : (x == ("__debug__" : Str)) = false := by decide) : PE X (.Name x pos) (tC v) :=
 fun _ _ _ H _ I h => n6 I hg hm hv ⟨v, H, I, r, h⟩ hn hd
variable {a b : Expr} {ta tb : TE} {pos : Pos}
noncomputable def tB (t : TE) : TT := fun σ H Q => t σ H fun x H1 => ∃ c, x = .bl c /\ Q c H1
theorem Ji {e : Expr} {t : TE} (h : PE X e t) (he : ∀ whole, isTrue e X.env whole = (do let v <- whole; standAt e.pos; holding [v] (truthy v)) := by intro _; rfl) : PT X e (tB t) := by
 intro pins s σ H Q I hw
 refine isTrue_plain (dN (h pins s σ H _ I hw) fun v s1 ⟨x, H1, I1, r1, q1⟩ => ?_) (he _)
 obtain ⟨d, rfl, q⟩ := q1
 cases r1
 exact wpAny_truthy_bool ⟨H1, I1, q⟩
variable {tA T7 : TT} {rest : List Expr}
noncomputable def Wl (t u : TT) : TT := fun σ H Q => t σ H fun c H1 => if c = true then u σ H1 Q else Q false H1
noncomputable def tOr (t u : TT) : TT := fun σ H Q => t σ H fun c H1 => if c = true then Q true H1 else u σ H1 Q
noncomputable def Vm (t : TT) : TT := fun σ H Q => t σ H fun c H1 => Q (!c) H1
theorem CZ (ha : PT X a tA) : PW X (.BoolOp .And [a] pos) tA := by
 intro wh pins s σ H Q I h
 refine isTrue_and (dN (ha pins s σ H Q I h) fun c s1 e => ?_)
 cases c with
 | true => exact isTrue_and_nil e
 | false => exact e
theorem Hs (ha : PT X a tA) : PW X (.BoolOp .Or [a] pos) tA := by
 intro wh pins s σ H Q I h
 refine isTrue_or (dN (ha pins s σ H Q I h) fun c s1 e => ?_)
 cases c with
 | false => exact isTrue_or_nil e
 | true => exact e
theorem J6 (ha : PT X a tA) (hb : PW X (.BoolOp .And (b :: rest) pos) T7) : PW X (.BoolOp .And (a :: b :: rest) pos) (Wl tA T7) := by
 intro wh pins s σ H Q I h
 refine isTrue_and (dN (ha pins s σ H _ I h) fun c s1 ⟨H1, I1, q1⟩ => ?_)
 cases c with
 | true => exact hb wh pins s1 σ H1 Q I1 q1
 | false => exact ⟨H1, I1, q1⟩
theorem Pk (ha : PT X a tA) (hb : PW X (.BoolOp .Or (b :: rest) pos) T7) : PW X (.BoolOp .Or (a :: b :: rest) pos) (tOr tA T7) := by
 intro wh pins s σ H Q I h
 refine isTrue_or (dN (ha pins s σ H _ I h) fun c s1 ⟨H1, I1, q1⟩ => ?_)
 cases c with
 | true => exact ⟨H1, I1, q1⟩
 | false => exact hb wh pins s1 σ H1 Q I1 q1
theorem JN (ha : PT X a tA) : PT X (.UnaryOp .Not a pos) (Vm tA) := by
 intro pins s σ H Q I h
 exact isTrue_not (ha pins s σ H (fun c H1 => Q (!c) H1) I h)
noncomputable def Qg (ta tb : TE) : TE := fun σ H Q => ta σ H fun x H1 => ∃ c, x = .bl c /\ if c = true then tb σ H1 Q else Q (.bl false) H1
theorem Jl {op} {t : TE} (h : PE X a t) : PE X (.BoolOp op [a] pos) t := fun pins s σ H Q I hw => BoolOp_one (h pins s σ H Q I hw)
theorem HR (ha : PE X a ta) (hb : PE X (.BoolOp .And (b :: rest) pos) tb) : PE X (.BoolOp .And (a :: b :: rest) pos) (Qg ta tb) := by
 intro pins s σ H Q I h
 refine BoolOp_and (dN (ha pins s σ H _ I h) fun v s1 ⟨x, H1, I1, r1, q1⟩ => ?_)
 obtain ⟨c, rfl, q1⟩ := q1
 cases r1
 refine wpAny_truthy_bool ?_
 cases c with
 | true => exact hb pins s1 σ H1 Q I1 q1
 | false => exact ⟨.bl false, H1, I1, rfl, q1⟩
end
end L2
namespace L2
open PySem PySem.Spec PyProof.Rows
noncomputable def fU (K : PySem.W.Frag) (H : Hp) (a : Addr) (xs : List V) : Prop :=
 Rd H a (.lst xs) \/
  ∃ (o : Obj) (its : Array Value) (n : Nat), K.lookup a = some o /\ o.cls = .type "list" /\ o.dict = none /\ o.data = .seq its n /\ its.size <= sizeLine /\ Vals xs its.toList
noncomputable def jr (K : PySem.W.Frag) (H : Hp) (a : Addr) (xs : List V) : Prop :=
 Rd H a (.tup xs) \/
  ∃ (o : Obj) (its : Array Value) (n : Nat), K.lookup a = some o /\ o.cls = .type "tuple" /\ o.data = .seq its n /\ its.size <= sizeLine /\ Vals xs its.toList
noncomputable def V6 : Value -> Option V
 | .none => some .non
 | .bool b => some (.bl b)
 | .int i _ => some (.int i)
 | .str x _ => some (.str x)
 | .bytes b _ => some (.Xa b)
 | .float b _ => some (.flt b)
 | .ref a => some (.ref a)
 | .type n => some (.ty n)
 | _ => none
theorem RelV.abs {x : V} {u : Value} (r : RelV x u) : V6 u = some x := by
 cases x with
 | non => cases r; rfl
 | bl _ => cases r; rfl
 | int _ => obtain ⟨t, rfl⟩ := r; rfl
 | str _ => obtain ⟨t, rfl⟩ := r; rfl
 | Xa _ => obtain ⟨t, rfl⟩ := r; rfl
 | flt _ => obtain ⟨t, rfl⟩ := r; rfl
 | ref _ => cases r; rfl
 | ty _ => cases r; rfl
theorem RelV.inj {x y : V} {u : Value} (r : RelV x u) (q : RelV y u) : x = y := Option.some.inj (r.abs.symm.trans q.abs)
theorem Vals.inj : ∀ {xs ys : List V} {us : List Value}, Vals xs us -> Vals ys us -> xs = ys
 | _, _, _, .nil, .nil => rfl
 | _, _, _, .cons r t, .cons r' t' => by rw [r.inj r', Vals.inj t t']
section
variable {X : Cx} {pins : List (Addr × Obj)} {σ : St} {H : Hp} {s : Shared} {a : Addr} {xs ys : List V}
theorem fU.of {K : PySem.W.Frag} (h : H a = some (.lst xs)) : fU K H a xs := .inl (.inl h)
theorem jr.of {K : PySem.W.Frag} (h : H a = some (.tup xs)) : jr K H a xs := .inl (.inl h)
theorem Inv.list (I : Inv X pins σ H s) (h : fU X.K H a xs) : ∃ its : List Value, Vals xs its /\ PlainL s.heap a its.toArray /\ xs.length <= sizeLine := by
 rcases h with h | ⟨o, its, n, hk, hc, hd, hs, hz, r⟩
 . obtain ⟨z, its, n, r, e⟩ := h.ok I.hok
   exact ⟨its, r, ⟨_, n, e, rfl, rfl, rfl⟩, z⟩
 . refine ⟨its.toList, r, ⟨o, n, I.Ir a o hk, hc, hd, by simpa using hs⟩, ?_⟩
   have e := r.length
   simp only [Array.length_toList] at e
   omega
theorem Inv.tuple (I : Inv X pins σ H s) (h : jr X.K H a xs) : ∃ its : List Value, Vals xs its /\ IsTup s.heap a its.toArray /\ xs.length <= sizeLine := by
 rcases h with h | ⟨o, its, n, hk, hc, hs, hz, r⟩
 . obtain ⟨z, its, r, p⟩ := h.ok I.hok
   exact ⟨its, r, p, z⟩
 . refine ⟨its.toList, r, ⟨o, I.Ir a o hk, hc, n, by simpa using hs⟩, ?_⟩
   have e := r.length
   simp only [Array.length_toList] at e
   omega
theorem Inv.rZ (I : Inv X pins σ H s) (h : fU X.K H a xs) (h' : fU X.K H a ys) : xs = ys := by
 obtain ⟨its, r, ⟨o, n, e, _, _, d⟩, _⟩ := I.list h
 obtain ⟨its', r', ⟨o', n', e', _, _, d'⟩, _⟩ := I.list h'
 rw [e] at e'; cases e'
 rw [d] at d'
 injection d' with d1 _
 have : its = its' := by simpa using congrArg Array.toList d1
 subst this
 exact r.inj r'
theorem Inv.pG (I : Inv X pins σ H s) (h : jr X.K H a xs) (h' : jr X.K H a ys) : xs = ys := by
 obtain ⟨its, r, ⟨o, e, _, n, d⟩, _⟩ := I.tuple h
 obtain ⟨its', r', ⟨o', e', _, n', d'⟩, _⟩ := I.tuple h'
 rw [e] at e'; cases e'
 rw [d] at d'
 injection d' with d1 _
 have : its = its' := by simpa using congrArg Array.toList d1
 subst this
 exact r.inj r'
end
noncomputable abbrev Cx.wish (X : Cx) (E : Value -> Shared -> Prop) : Cx := { X with xe := E }
noncomputable abbrev Cx.Qd (X : Cx) : Cx := X.wish fun _ _ => False
theorem Cx.Ok.wish {X : Cx} (ok : X.Ok) (E : Value -> Shared -> Prop) : (X.wish E).Ok :=
 ⟨ok.mod, ok.kind, ok.glob, ok.blt, ok.above, ok.inj, ok.has, ok.cab, ok.hd, ok.frames, ok.T5, ok.Y7, ok.bs, ok.Hc, ok.BL, ok.FW, ok.oF, ok.Nz⟩
theorem Cx.Ok.gW {X : Cx} {E : Value -> Shared -> Prop} (ok : (X.wish E).Ok) : X.Ok :=
 ⟨ok.mod, ok.kind, ok.glob, ok.blt, ok.above, ok.inj, ok.has, ok.cab, ok.hd, ok.frames, ok.T5, ok.Y7, ok.bs, ok.Hc, ok.BL, ok.FW, ok.oF, ok.Nz⟩
section
variable {X : Cx} {pins : List (Addr × Obj)} {σ : St} {H : Hp} {s : Shared} {E : Value -> Shared -> Prop}
theorem Inv.wish (I : Inv X pins σ H s) (E : Value -> Shared -> Prop) : Inv (X.wish E) pins σ H s := ⟨I.ok.wish E, I.os, I.bare, I.base, I.loc, I.cell, I.free, I.iy, I.pin, I.hok, I.len⟩
theorem Inv.gW (I : Inv (X.wish E) pins σ H s) : Inv X pins σ H s := ⟨I.ok.gW, I.os, I.bare, I.base, I.loc, I.cell, I.free, I.iy, I.pin, I.hok, I.len⟩
theorem SP.gW {D : Ends} {f : Flow} {s' : Shared} (h : SP (X.wish E) pins D f s') : SP X pins D f s' := by
 cases f with
 | next => obtain ⟨σ', H', I, q⟩ := h; exact ⟨σ', H', I.gW, q⟩
 | brk => obtain ⟨σ', H', I, q⟩ := h; exact ⟨σ', H', I.gW, q⟩
 | cont => obtain ⟨σ', H', I, q⟩ := h; exact ⟨σ', H', I.gW, q⟩
 | ret u => obtain ⟨v, σ', H', I, r, q⟩ := h; exact ⟨v, σ', H', I.gW, r, q⟩
theorem xF.Qd {st : List Stmt} {t : TS} (h : xF X.Qd st t) : xF X st t := fun pins s σ H D I hw =>
 wpAny_mono (h pins s σ H D (I.wish _) hw) (fun _ _ q => q.gW) fun _ _ z => False.elim z
end
section
variable {X : Cx} {st : Stmt} {rest : List Stmt} {t u : TS} {e : Expr} {te : TE} {pos : Pos}
noncomputable def O8 : TS := fun D σ H => D.nx σ H
noncomputable def VD (t u : TS) : TS := fun D σ H => t { D with nx := u D } σ H
theorem Dl : xF X [] O8 := fun _ _ σ H _ I h => wpAny_execs_nil ⟨σ, H, I, h⟩
theorem zT (h1 : PS X st t) (h2 : xF X rest u) : xF X (st :: rest) (VD t u) := by
 intro pins s σ H D I h
 refine wpAny_execs_cons (dN (h1 pins s σ H { D with nx := u D } I h) fun f s1 q => ?_)
 cases f with
 | next =>
   obtain ⟨σ', H', I', q⟩ := q
   exact h2 pins s1 σ' H' D I' q
 | ret v => exact q
 | brk => exact q
 | cont => exact q
theorem Inv.quiet {pins : List (Addr × Obj)} {σ : St} {H : Hp} {s : Shared} (I : Inv X pins σ H s) : interactive X.env = false := by simp [interactive, I.ok.kind]
noncomputable def N8 (te : TE) : TS := fun D σ H => te σ H fun _ H1 => D.nx σ H1
theorem wj (he : PE X e te) (hs : swapsWith e none pos.line X.env = pure false := by rfl) : PS X (.Expr e pos) (N8 te) := by
 intro pins s σ H D I h
 exact wpAny_Expr_any (dN (he pins s σ H _ I h) fun v s1 ⟨x, H1, I1, r1, q1⟩ => ⟨σ, H1, I1, q1⟩) I.quiet hs
noncomputable def W3 (te : TE) : TS := fun D σ H => te σ H D.rt
theorem Ab (he : PE X e te) : PS X (.Return (some e) pos) (W3 te) := by
 intro pins s σ H D I h
 exact wpAny_Return_some (dN (he pins s σ H _ I h) fun v s1 ⟨x, H1, I1, r1, q1⟩ => ⟨x, σ, H1, I1, r1, q1⟩)
noncomputable def UJ (c : TT) (t u : TS) : TS := fun D σ H => c σ H fun b H1 => if b = true then t D σ H1 else u D σ H1
theorem Oh {c : Expr} {a b : List Stmt} {tc : TT} (hc : PT X c tc) (ha : xF X a t) (hb : xF X b u) : PS X (.If c a b pos) (UJ tc t u) := by
 intro pins s σ H D I h
 refine wpAny_If (dN (hc pins s σ H _ I h) fun d s1 ⟨H1, I1, q1⟩ => ?_)
 cases d with
 | true => exact ha pins s1 σ H1 D I1 q1
 | false => exact hb pins s1 σ H1 D I1 q1
end
noncomputable abbrev TG := V -> St -> Hp -> (St -> Hp -> Prop) -> Prop
noncomputable abbrev yS := List V -> St -> Hp -> (St -> Hp -> Prop) -> Prop
noncomputable def PG (X : Cx) (target : Expr) (t : TG) : Prop :=
 ∀ (pins : List (Addr × Obj)) (s : Shared) (σ : St) (H : Hp) (v : V) (u : Value) (Q : St -> Hp -> Prop), Inv X pins σ H s -> RelV v u -> t v σ H Q ->
   wpAny (model X.prog X.w) X.A (assign target X.env u) (fun _ s' => ∃ σ' H', Inv X pins σ' H' s' /\ Q σ' H') X.xe s
noncomputable def Tf (X : Cx) (ts : List Expr) (t : yS) : Prop :=
 ∀ (pins : List (Addr × Obj)) (s : Shared) (σ : St) (H : Hp) (vs : List V) (us : List Value) (Q : St -> Hp -> Prop), Inv X pins σ H s -> Vals vs us -> t vs σ H Q ->
   wpAny (model X.prog X.w) X.A (assignInOrder ((assignEach ts X.env).map (·.2)) us) (fun _ s' => ∃ σ' H', Inv X pins σ' H' s' /\ Q σ' H') X.xe s
noncomputable abbrev Hy := V -> V -> V -> Hp -> (Hp -> Prop) -> Prop
noncomputable def Qy (X : Cx) (t : Hy) : Prop :=
 ∀ (pins : List (Addr × Obj)) (s : Shared) (σ : St) (H : Hp) (o i v : V) (ov iv u : Value) (Q : Hp -> Prop), Inv X pins σ H s -> RelV o ov -> RelV i iv -> RelV v u -> t o i v H Q ->
   wpAny (model X.prog X.w) X.A (setItem ov iv u) (fun _ s' => ∃ H', Inv X pins σ H' s' /\ Q H') X.xe s
section
variable {X : Cx} {pos : Pos}
noncomputable def m7 (i : Nat) : TG := fun v σ H Q => Q (σ.set i (some v)) H
theorem aF {i : Nat} {x : Str} (hN : X.N.Nodup) (hi : X.N[i]? = some x) (hx : Loc X.env.scope x) (hf : X.fn x = true \/ X.env.scope.names.lookup x = some .local := by first | exact .inl rfl | exact .inr rfl | assumption) : PG X (.Name x pos) (m7 i) := by
 intro pins s σ H v u Q I r h
 exact wpAny_assign_Name (j5 I hN hi hx r (fun s' I' => ⟨_, H, I', h⟩) hf)
noncomputable def J4 : yS := fun vs σ H Q => vs = [] /\ Q σ H
noncomputable def Bf (t : TG) (u : yS) : yS := fun vs σ H Q => ∃ v r, vs = v :: r /\ t v σ H fun σ' H' => u r σ' H' Q
theorem dH : Tf X [] J4 := by
 intro pins s σ H vs us Q I r h
 obtain ⟨e, h⟩ := h
 subst e
 cases r
 exact assignInOrder_nil ⟨σ, H, I, h⟩
theorem aH {e : Expr} {es : List Expr} {t : TG} {u : yS} (h1 : PG X e t) (h2 : Tf X es u)
 (hs : (assignEach (e :: es) X.env).map (·.2) = assign e X.env :: (assignEach es X.env).map (·.2) := by rfl) : Tf X (e :: es) (Bf t u) := by
 intro pins s σ H vs us Q I r h
 obtain ⟨v, vr, e1, h⟩ := h
 subst e1
 cases r with
 | cons r rr =>
   rw [hs]
   refine assignInOrder_cons (dN (h1 pins s σ H _ _ _ I r h) fun _ s1 ⟨σ1, H1, I1, q1⟩ => ?_)
   exact h2 pins s1 σ1 H1 _ _ Q I1 rr q1
noncomputable def JW (K : PySem.W.Frag) (n : Nat) (t : yS) : TG := fun v σ H Q => ∃ a xs, v = .ref a /\ jr K H a xs /\ xs.length = n /\ t xs σ H Q
theorem fO {es : List Expr} {k : Nat} {t : yS} {n : Nat} (hc : X.calm = true) (h : Tf X es t)
 (hn : (assignEach es X.env).length = n := by rfl) (hst : (assignEach es X.env).findIdx? (·.1) = none := by rfl) : PG X (.Tuple es k pos) (JW X.K n t) := by
 intro pins s σ H v u Q I r hw
 obtain ⟨a, xs, e1, hq, hl, hw⟩ := hw
 subst e1
 cases r
 obtain ⟨its, rv, ht, hz⟩ := I.tuple hq
 refine assign_Tuple_tuple (I.ok.hd hc) ht (by simp [hn, <- hl, rv.length]) hst fun h' hx => ?_
 have I1 : Inv X pins σ H { s with heap := h' } := I.kept (t' := s.toks) fun b o e => hx b o (Nat.ne_of_lt (Heap.lt_size e)) e
 exact h pins _ σ H xs _ Q I1 (by simpa using rv) hw
noncomputable def U3 (to ti : TE) (t : Hy) : TG := fun v σ H Q => to σ H fun o H1 => ti σ H1 fun i H2 => t o i v H2 fun H3 => Q σ H3
theorem Ka {o i : Expr} {to ti : TE} {t : Hy} (ho : PE X o to) (hi : PE X i ti) (hs : Qy X t)
 (ha : ∀ v, assign (.Subscript o i pos) X.env v = (do
  let ov <- holding [v] (eval o X.env)
  let iv <- holding [v, ov] (eval i X.env)
  standAt pos
  holding [v, ov, iv] (setItem ov iv v)
  release [v, ov, iv] []) := by intro _; rfl) : PG X (.Subscript o i pos) (U3 to ti t) := by
 intro pins s σ H v u Q I r h
 rw [ha]
 refine wpAny_bind (wpAny_holding (dN (ho pins s σ H _ I h) fun ov s1 ⟨x, H1, I1, r1, q1⟩ => ?_))
 refine wpAny_bind (wpAny_holding (dN (hi pins s1 σ H1 _ I1 q1) fun iv s2 ⟨y, H2, I2, r2, q2⟩ => ?_))
 refine wpAny_bind (wpAny_standAt (wpAny_bind (wpAny_holding (dN (hs pins s2 σ H2 x y v ov iv u _ I2 r1 r2 r q2) fun _ s3 ⟨H3, I3, q3⟩ => ?_))))
 exact wpAny_release ⟨σ, H3, I3, q3⟩
noncomputable def Kr (te : TE) (g : TG) : TS := fun D σ H => te σ H fun x H1 => g x σ H1 D.nx
theorem zy {tg e : Expr} {te : TE} {g : TG} (he : PE X e te) (hg : PG X tg g) (hs : swapsWithSole [tg] e pos.line X.env = pure false := by rfl) (hw : swappedStores [tg] e X.env = pure none := by rfl)
 (h1 : (assignEach [tg] X.env).map (·.2) = [assign tg X.env] := by rfl) : PS X (.Assign [tg] e pos) (Kr te g) := by
 intro pins s σ H D I h
 refine wpAny_Assign_stores (dN (he pins s σ H _ I h) fun v s1 ⟨x, H1, I1, r1, q1⟩ => ?_) hs hw
 rw [h1]
 exact dN (hg pins s1 σ H1 x v _ I1 r1 q1) fun _ s2 q => q
theorem J2 {i : Nat} {x : Str} {e : Expr} {te : TE} {pos' : Pos} (hN : X.N.Nodup) (hi : X.N[i]? = some x) (hx : Loc X.env.scope x) (he : PE X e te) (hs : swapsWith e (some (.Name x pos')) pos.line X.env = pure false := by rfl) (hf : X.fn x = true \/ X.env.scope.names.lookup x = some .local := by first | exact .inl rfl | exact .inr rfl | assumption) :
 PS X (.Assign [.Name x pos'] e pos) (Kr te (m7 i)) := by
 intro pins s σ H D I h
 refine wpAny_Assign_Name (dN (he pins s σ H _ I h) fun v s1 ⟨y, H1, I1, r1, q1⟩ => ?_) hs
 exact j5 I1 hN hi hx r1 (fun s2 I2 => ⟨_, H1, I2, q1⟩) hf
noncomputable def V4 (i j : Nat) (ta : TA) : TS := fun D σ H => ta σ H fun vs H1 => ∃ v w, vs = [v, w] /\ D.nx ((σ.set i (some v)).set j (some w)) H1
theorem Ja {i j : Nat} {x y : Str} {a b : Expr} {ta : TA} {px py pt : Pos} {kt k2 K5} (hc : X.calm = true) (hN : X.N.Nodup) (hi : X.N[i]? = some x) (hj : X.N[j]? = some y) (hij : i ≠ j)
 (hx : X.env.scope.names.lookup x = some .local) (hy : X.env.scope.names.lookup y = some .local) (ha : PA X [a, b] ta)
 (hw : swappedStores [.Tuple [.Name x px, .Name y py] kt pt] (.Tuple [a, b] k2 K5) X.env = pure (some [x, y]))
 (hs : swapsWithSole [.Tuple [.Name x px, .Name y py] kt pt] (.Tuple [a, b] k2 K5) pos.line X.env = pure false := by rfl) :
 PS X (.Assign [.Tuple [.Name x px, .Name y py] kt pt] (.Tuple [a, b] k2 K5) pos) (V4 i j ta) := by
 intro pins s σ H D I h
 rw [exec_Assign_arm]
 refine wpAny_bind (wpAny_standAt ?_)
 rw [hs]
 refine wpAny_bind (wpAny_pure ?_)
 rw [if_neg (by decide)]
 refine wpAny_bind (Tuple_ (dN (ha _ pins s σ H _ I h) fun us s1 ⟨vs, H1, I1, r1, q1⟩ => ?_))
 obtain ⟨v, w, e1, q1⟩ := q1
 subst e1
 obtain ⟨u1, u2, rfl, rv, Ri⟩ : ∃ u1 u2, us = [u1, u2] /\ RelV v u1 /\ RelV w u2 := by
  cases r1 with
  | cons p q =>
    cases q with
    | cons p' q' =>
      cases q'
      exact ⟨_, _, rfl, p, p'⟩
 refine wpAny_newObj_type ?_ (by show 2 <= sizeLine; decide)
 have I2 : Inv X pins σ H1 { s1 with heap := s1.heap.push { cls := .type "tuple", data := .seq [u1, u2].toArray } } := I1.kept (t' := s1.toks) fun b o e => Heap.get?_push_of_some _ e
 rw [hw]
 refine wpAny_bind (wpAny_pure ?_)
 show wpAny (model X.prog X.w) X.A (do rule "assign.swapped-stores"; let items <- unpackItems (.ref s1.heap.objs.size) 2 none; assignInOrder [fun v => bindName X.env y v, fun v => bindName X.env x v] items.reverse; pure Flow.next) _ _ _
 refine wpAny_bind (wpAny_rule (wpAny_bind (unpackItems_tuple (items := #[u1, u2]) (I.ok.hd hc) (IsTup.new s1.heap _) fun h' hx' => ?_)))
 have I3 := I2.kept (h' := h') (t' := s1.toks) fun b o e => hx' b o (Nat.ne_of_lt (Heap.lt_size e)) e
 show wpAny _ _ (assignInOrder [fun v => bindName X.env y v, fun v => bindName X.env x v] [u2, u1] >>= fun _ => pure Flow.next) _ _ _
 refine wpAny_bind (assignInOrder_cons (wpAny_bindName (j5 I3 hN hj (.inl hy) Ri (fun s2 I4 => ?_) (.inr hy))))
 refine assignInOrder_cons (wpAny_bindName (j5 I4 hN hi (.inl hx) rv (fun s3 I5 => assignInOrder_nil (wpAny_pure ?_)) (.inr hx)))
 rw [List.set_comm _ _ (Ne.symm hij)] at I5
 exact ⟨_, H1, I5, q1⟩
end
structure It where
 go : Nat -> Hp -> Prop
 K6 : Nat -> Hp -> V -> Hp -> Prop
 stop : Nat -> Hp -> Prop
noncomputable def nA (X : Cx) (pins : List (Addr × Obj)) (H : Hp) (b : Addr) : Prop :=
 H b = none /\ b ≠ X.env.locals /\ b ∉ X.fs /\ (b ∈ X.ex \/ X.s₀.heap.objs.size <= b) /\ (∀ x c, X.env.cells.lookup x = some c -> c ≠ b) /\ ∀ p ∈ X.pn ++ pins, p.1 ≠ b
theorem Inv.Fy {X : Cx} {pins : List (Addr × Obj)} {σ : St} {H H' : Hp} {s : Shared} {b : Addr} (I : Inv X pins σ H s) (hb : s.heap.objs.size <= b) (hn : H' b = none) : nA X pins H' b := by
 refine ⟨hn, Nat.ne_of_gt (Nat.lt_of_lt_of_le I.lt hb), I.U7 hb, .inr (Nat.le_trans I.sz hb), fun x c e z => ?_, fun p hp z => ?_⟩
 . obtain ⟨v, q⟩ := I.cell x c e
   exact absurd (Nat.lt_of_lt_of_le q.lt (by rw [z]; exact hb)) (Nat.lt_irrefl _)
 . exact absurd (Nat.lt_of_lt_of_le (Heap.lt_size (I.pin p hp).1) (by rw [z]; exact hb)) (Nat.lt_irrefl _)
structure Turn (P : Program) (w : World) (K : PySem.W.Frag) (tg : Expr) (J : It) (fp : List Addr) (it : Addr) (tn : Nat -> Heap -> Prop) : Prop where
 mem : it ∈ fp
 obj : ∀ i h, tn i h -> ∀ b ∈ fp, ∃ o, h.get? b = some o /\ ∀ v, o.data ≠ .cell v
 keep : ∀ i h h', tn i h -> (∀ b ∈ fp, ∀ o, h.get? b = some o -> h'.get? b = some o) -> tn i h'
 item : ∀ (X : Cx), X.prog = P -> X.w = w -> X.K = K -> X.calm = true -> ∀ (i : Nat) (pins : List (Addr × Obj)) (s : Shared) (σ : St) (H : Hp) (E : Value -> Shared -> Prop), Inv X pins σ H s -> (∀ b ∈ fp, nA X pins H b) -> tn i s.heap -> J.go i H ->
  wpAny (model P w) X.A (pyNext (.ref it)) (fun r s1 => ∃ u, r = some u /\
   wpAny (model P w) X.A (letOwnedTupleGo tg (.ref it) u) (fun _ s2 => ∃ x H', Inv X pins σ H' s2 /\ RelV x u /\ J.K6 i H x H' /\ tn (i + 1) s2.heap /\ ∀ b ∈ fp, H' b = none) E s1) E s
 done : ∀ (X : Cx), X.prog = P -> X.w = w -> X.K = K -> X.calm = true -> ∀ (i : Nat) (pins : List (Addr × Obj)) (s : Shared) (σ : St) (H : Hp) (E : Value -> Shared -> Prop), Inv X pins σ H s -> (∀ b ∈ fp, nA X pins H b) -> tn i s.heap -> J.stop i H ->
  wpAny (model P w) X.A (pyNext (.ref it)) (fun r s1 => r = none /\ Inv X pins σ H s1) E s
 self : ∀ (A : Around) (i : Nat) (s : Shared) (Q : Value -> Shared -> Prop) (E : Value -> Shared -> Prop), tn i s.heap -> Q (.ref it) s -> wpAny (model P w) A (pyIter (.ref it)) Q E s
noncomputable abbrev TI := St -> Hp -> (It -> Hp -> Prop) -> Prop
noncomputable def PIE (X : Cx) (pins : List (Addr × Obj)) (σ : St) (tg : Expr) (R : It -> Hp -> Prop) (itv : Value) (s2 : Shared) : Prop :=
 ∃ (it : Addr) (fp : List Addr) (tn : Nat -> Heap -> Prop) (J : It) (H' : Hp), itv = .ref it /\ Inv X pins σ H' s2 /\ Turn X.prog X.w X.K tg J fp it tn /\ tn 0 s2.heap /\ (∀ b ∈ fp, nA X pins H' b) /\ R J H'
noncomputable def PI (X : Cx) (tg iter : Expr) (wi : TI) : Prop :=
 ∀ (pins : List (Addr × Obj)) (s : Shared) (σ : St) (H : Hp) (R : It -> Hp -> Prop), Inv X pins σ H s -> wi σ H R ->
   wpAny (model X.prog X.w) X.A (eval iter X.env) (fun v s1 => wpAny (model X.prog X.w) X.A (pyIter v) (PIE X pins σ tg R) X.xe s1) X.xe s
theorem yZ {M : Model} {A : Around} {E : Value -> Shared -> Prop} {s : Shared} {tg : Expr} {it : Addr} {u : Value} {o : Obj} {n : String} {vs : Array Value} {Q : Unit -> Shared -> Prop} (ho : s.heap.get? it = some o) (hc : o.cls = .type n) (hd : o.data = .fields vs)
 (hn : ["enumerate", "zip", "dict_itemiterator", "dict_reverseitemiterator", "odict_iterator", "itertools.zip_longest", "itertools.pairwise"].contains n = false) (hQ : Q () s) : wpAny M A (letOwnedTupleGo tg (.ref it) u) Q E s := by
 unfold letOwnedTupleGo
 cases tg <;> first
  | exact wpAny_pure hQ
  | (cases u <;> first
   | exact wpAny_pure hQ
   | (refine wpAny_bind (wpAny_load ho ?_)
      rw [hc, hd]
      show wpAny M A (if (["enumerate", "zip", "dict_itemiterator", "dict_reverseitemiterator", "odict_iterator", "itertools.zip_longest", "itertools.pairwise"].contains n && vs[0]? == some (rawInt _)) = true then _ else _) Q E s
      rw [if_neg (by intro h; rw [hn, Bool.false_and] at h; cases h)]
      exact wpAny_pure hQ))
noncomputable def KQ (K : PySem.W.Frag) (a : Addr) : It :=
 ⟨fun i H => ∃ xs x, fU K H a xs /\ xs[i]? = some x, fun i H x H' => H' = H /\ ∀ xs, fU K H a xs -> xs[i]? = some x, fun i H => ∃ xs, fU K H a xs /\ xs.length <= i⟩
noncomputable def Nb (K : PySem.W.Frag) (a : Addr) : It :=
 ⟨fun i H => ∃ xs x, jr K H a xs /\ xs[i]? = some x, fun i H x H' => H' = H /\ ∀ xs, jr K H a xs -> xs[i]? = some x, fun i H => ∃ xs, jr K H a xs /\ xs.length <= i⟩
noncomputable def Ov (lo : Int) (n : Nat) : It := ⟨fun i _ => i < n, fun i H x H' => H' = H /\ x = .int (lo + i), fun i _ => n <= i⟩
theorem yj {P : Program} {w : World} {K : PySem.W.Frag} {tg : Expr} (a it : Addr) : Turn P w K tg (KQ K a) [it] it (fun i h => h.IsListIter it a i) where
 mem := by simp
 obj := fun i h st b hb => by
  have e : b = it := by simpa using hb
  subst e
  obtain ⟨o, e, c, d⟩ := st
  exact ⟨o, e, fun v z => by rw [d] at z; cases z⟩
 keep := fun i h h' st k => st.at fun o e => k it (by simp) o e
 item := by
  intro X hP hw hK hc i pins s σ H E I hf st hg
  subst hP hw hK
  obtain ⟨xs, x, hq, hx⟩ := hg
  obtain ⟨its, rv, p, hz⟩ := I.list hq
  obtain ⟨u, hu, ru⟩ := rv.get hx
  obtain ⟨f0, f1, f2, f3, f4, f5⟩ := hf it (by simp)
  refine wpAny_pyNext_list_item st p.isList (x := u) (by simpa using hu) fun h' st' sb => ?_
  have I1 : Inv X pins σ H { s with heap := h' } := I.turned (t' := s.toks) (fun b o hb e => (sb.2 b hb).trans e) f0 f1 f3 f4 f5
  obtain ⟨o, e, c, d⟩ := id st'
  exact ⟨u, rfl, yZ (s := { s with heap := h' }) e c d (by decide) ⟨x, H, I1, ru, ⟨rfl, fun ys hy => by rw [I.rZ hy hq]; exact hx⟩, st', fun b hb => (hf b hb).1⟩⟩
 done := by
  intro X hP hw hK hc i pins s σ H E I hf st hg
  subst hP hw hK
  obtain ⟨xs, hq, hx⟩ := hg
  obtain ⟨its, rv, p, hz⟩ := I.list hq
  obtain ⟨f0, f1, f2, f3, f4, f5⟩ := hf it (by simp)
  have hl := rv.length
  exact wpAny_pyNext_list_end (I.ok.hd hc) st p.isList (by simp; omega) fun h' eb => ⟨rfl, I.turned (t' := s.toks) (fun b o hb e => eb b o hb e) f0 f1 f3 f4 f5⟩
 self := fun _ _ _ _ _ st h => wpAny_pyIter_listiter st h
theorem vJ {P : Program} {w : World} {K : PySem.W.Frag} {tg : Expr} (a it : Addr) : Turn P w K tg (Nb K a) [it] it (fun i h => h.IsTupleIter it a i) where
 mem := by simp
 obj := fun i h st b hb => by
  have e : b = it := by simpa using hb
  subst e
  obtain ⟨o, e, c, d⟩ := st
  exact ⟨o, e, fun v z => by rw [d] at z; cases z⟩
 keep := fun i h h' st k => st.at fun o e => k it (by simp) o e
 item := by
  intro X hP hw hK hc i pins s σ H E I hf st hg
  subst hP hw hK
  obtain ⟨xs, x, hq, hx⟩ := hg
  obtain ⟨its, rv, p, hz⟩ := I.tuple hq
  obtain ⟨u, hu, ru⟩ := rv.get hx
  obtain ⟨f0, f1, f2, f3, f4, f5⟩ := hf it (by simp)
  refine wpAny_pyNext_tuple_item st (show s.heap.IsTuple a its.toArray from p) (x := u) (by simpa using hu) fun h' st' sb => ?_
  have I1 : Inv X pins σ H { s with heap := h' } := I.turned (t' := s.toks) (fun b o hb e => (sb.2 b hb).trans e) f0 f1 f3 f4 f5
  obtain ⟨o, e, c, d⟩ := id st'
  exact ⟨u, rfl, yZ (s := { s with heap := h' }) e c d (by decide) ⟨x, H, I1, ru, ⟨rfl, fun ys hy => by rw [I.pG hy hq]; exact hx⟩, st', fun b hb => (hf b hb).1⟩⟩
 done := by
  intro X hP hw hK hc i pins s σ H E I hf st hg
  subst hP hw hK
  obtain ⟨xs, hq, hx⟩ := hg
  obtain ⟨its, rv, p, hz⟩ := I.tuple hq
  obtain ⟨f0, f1, f2, f3, f4, f5⟩ := hf it (by simp)
  have hl := rv.length
  exact wpAny_pyNext_tuple_end (I.ok.hd hc) st (show s.heap.IsTuple a its.toArray from p) (by simp; omega) fun h' eb => ⟨rfl, I.turned (t' := s.toks) (fun b o hb e => eb b o hb e) f0 f1 f3 f4 f5⟩
 self := fun _ _ _ _ _ st h => wpAny_pyIter_tupleiter st h
theorem vd {P : Program} {w : World} {K : PySem.W.Frag} {tg : Expr} (it : Addr) (lo : Int) (n : Nat) : Turn P w K tg (Ov lo n) [it] it (fun i h => IsRangeIter h it (lo + (i : Nat) * 1) ((n : Int) - (i : Nat)) 1) where
 mem := by simp
 obj := fun i h st b hb => by
  have e : b = it := by simpa using hb
  subst e
  exact ⟨_, st, fun v z => by
   have z' : Data.fields _ = Data.cell v := z
   cases z'⟩
 keep := fun i h h' st k => k it (by simp) _ st
 item := by
  intro X hP hw hK hc i pins s σ H E I hf st hg
  subst hP hw hK
  obtain ⟨f0, f1, f2, f3, f4, f5⟩ := hf it (by simp)
  have W := Walks.range (prog := X.prog) (w := X.w) (I.ok.hd hc) it lo 1 n
  refine W.item i s _ _ hg st fun v h' tk hv st' kk => ?_
  obtain ⟨t, rfl⟩ := hv
  have I1 : Inv X pins σ H { s with heap := h', toks := tk } := I.turned (fun b o hb e => kk b o (by simpa using hb) e) f0 f1 f3 f4 f5
  refine ⟨_, rfl, yZ (s := { s with heap := h', toks := tk }) (n := "range_iterator") st' rfl rfl (by decide) ⟨.int (lo + i), H, I1, ⟨t, ?_⟩, ⟨rfl, rfl⟩, st', fun b hb => (hf b hb).1⟩⟩
  rw [Int.mul_one]
 done := by
  intro X hP hw hK hc i pins s σ H E I hf st hg
  subst hP hw hK
  obtain ⟨f0, f1, f2, f3, f4, f5⟩ := hf it (by simp)
  exact wpAny_pyNext_range_end (I.ok.hd hc) st (by have : n <= i := hg; omega) fun h' eb => ⟨rfl, I.turned (t' := s.toks) (fun b o hb e => eb b o hb e) f0 f1 f3 f4 f5⟩
 self := fun _ _ _ _ _ st h => wpAny_pyIter_rangeiter st h
end L2
namespace L2
open PySem PySem.Spec PyProof.Rows
section
variable {X : Cx} {tg : Expr}
theorem rP {pins : List (Addr × Obj)} {σ : St} {H : Hp} {s : Shared} {R : It -> Hp -> Prop} {E : Value -> Shared -> Prop} {lo hi : Int} {t u v : Tok} {tk : Nat} (I : Inv X pins σ H s) (h1 : -(2 ^ 62) <= lo) (h2 : lo < 2 ^ 62) (h3 : -(2 ^ 62) <= hi) (h4 : hi < 2 ^ 62)
 (q : R (Ov lo (hi - lo).toNat) H) : wpAny (model X.prog X.w) X.A (pyIter (.ref s.heap.objs.size)) (PIE X pins σ tg R) E { s with heap := s.heap.push { cls := .type "range", data := .fields #[.int lo t, .int hi u, .int 1 v] }, toks := tk } := by
 refine wpAny_pyIter_range (IsRange.new ..) (small_one h1 h2 h3 h4) ?_
 have I1 : Inv X pins σ H { s with heap := s.heap.push { cls := .type "range", data := .fields #[.int lo t, .int hi u, .int 1 v] }, toks := tk } := I.kept fun b o e => Heap.get?_push_of_some _ e
 refine ⟨(s.heap.push { cls := .type "range", data := .fields #[.int lo t, .int hi u, .int 1 v] }).objs.size, [(s.heap.push { cls := .type "range", data := .fields #[.int lo t, .int hi u, .int 1 v] }).objs.size], _, _, H, rfl,
  I1.kept (t' := tk) fun b o e => Heap.get?_push_of_some _ e, vd _ lo (hi - lo).toNat, ?_, fun b hb => ?_, q⟩
 . have e1 : lo + ((0 : Nat) : Int) * 1 = lo := by simp
   have e2 : (((hi - lo).toNat : Nat) : Int) - ((0 : Nat) : Int) = Builtin.Range.rangeSize lo hi 1 := by rw [rangeSize_one]; split <;> omega
   show IsRangeIter _ _ (lo + ((0 : Nat) : Int) * 1) ((((hi - lo).toNat : Nat) : Int) - ((0 : Nat) : Int)) 1
   rw [e1, e2]
   exact Heap.get?_push_size _ rfl
 . have e : b = (s.heap.push { cls := .type "range", data := .fields #[.int lo t, .int hi u, .int 1 v] }).objs.size := by simpa using hb
   subst e
   exact I1.Fy (Nat.le_refl _) (I1.hok.fresh (Nat.le_refl _))
noncomputable def QM (ta : TA) : TI := fun σ H R => ta σ H fun vs H1 => ∃ j : Int, vs = [.int j] /\ -(2 ^ 62) <= j /\ j < 2 ^ 62 /\ R (Ov 0 j.toNat) H1
noncomputable def Oo (ta : TA) : TI := fun σ H R => ta σ H fun vs H1 => ∃ i j : Int, vs = [.int i, .int j] /\ (-(2 ^ 62) <= i /\ i < 2 ^ 62 /\ -(2 ^ 62) <= j /\ j < 2 ^ 62) /\ R (Ov i (j - i).toNat) H1
theorem yg {a : Expr} {ta : TA} {p pos : Pos} (hg : Gl X "range") (hm : X.mg "range" = none) (ha : PA X [a] ta) (hs : starEach [a] X.env = [(false, eval a X.env)] := by rfl) : PI X tg (.Call (.Name "range" p) [a] [] pos) (QM ta) := by
 intro pins s σ H R I h
 refine Call_ (n6 I hg hm boot_range (PyProof.Rows.callWith_type1 (dN (ha pos pins s σ H _ I h) fun us s1 ⟨vs, H1, I1, r1, q1⟩ => ?_) hs rfl))
 obtain ⟨j, e, q1, q2, q⟩ := q1
 subst e
 cases r1 with
 | cons r rr =>
   cases rr
   obtain ⟨t, rfl⟩ := r
   exact call_range_1 (rP I1 (by omega) (by omega) q1 q2 (by simpa using q))
theorem yx {a b : Expr} {ta : TA} {p pos : Pos} (hg : Gl X "range") (hm : X.mg "range" = none) (ha : PA X [a, b] ta) (hs : starEach [a, b] X.env = [(false, eval a X.env), (false, eval b X.env)] := by rfl) (hs2 : starEach [b] X.env = [(false, eval b X.env)] := by rfl) :
 PI X tg (.Call (.Name "range" p) [a, b] [] pos) (Oo ta) := by
 intro pins s σ H R I h
 refine Call_ (n6 I hg hm boot_range (PyProof.Rows.callWith_type1 (dN (ha pos pins s σ H _ I h) fun us s1 ⟨vs, H1, I1, r1, q1⟩ => ?_) (by rw [hs, hs2]) (by rw [hs2]; rfl)))
 obtain ⟨i, j, e, ⟨q1, q2, q3, q4⟩, q⟩ := q1
 subst e
 cases r1 with
 | cons r rr =>
   cases rr with
   | cons r' rr =>
     cases rr
     obtain ⟨t, rfl⟩ := r
     obtain ⟨t', rfl⟩ := r'
     exact call_range_2 (rP I1 q1 q2 q3 q4 q)
noncomputable def VR (wi : TI) (g : TG) (tb : TS) : TS := fun D σ H => wi σ H fun J H1 => ∃ W : Nat -> Nat -> St -> Hp -> Prop, (∃ m, W 0 m σ H1) /\ ∀ i m σ H, W i m σ H ->
 (J.stop i H /\ D.nx σ H) \/ (J.go i H /\ ∃ N : St -> Hp -> Prop, (∀ σ' H', N σ' H' -> ∃ m', m' < m /\ W (i + 1) m' σ' H') /\ ∀ x H', J.K6 i H x H' -> g x σ H' fun σ2 H2 => tb { D with nx := N, ct := N, bk := D.nx } σ2 H2)
noncomputable def mZ (fp : List Addr) (h : Heap) : List (Addr × Obj) := fp.filterMap fun b => (h.get? b).map fun o => (b, o)
theorem gC {fp : List Addr} {h : Heap} {b : Addr} {o : Obj} (hb : b ∈ fp) (e : h.get? b = some o) : (b, o) ∈ mZ fp h := List.mem_filterMap.mpr ⟨b, hb, by rw [e]; rfl⟩
theorem xT {fp : List Addr} {h : Heap} {p : Addr × Obj} (hp : p ∈ mZ fp h) : p.1 ∈ fp /\ h.get? p.1 = some p.2 := by
 obtain ⟨b, hb, e⟩ := List.mem_filterMap.mp hp
 cases q : h.get? b with
 | none => rw [q] at e; cases e
 | some o =>
   rw [q] at e
   have e' : (b, o) = p := Option.some.inj e
   subst e'
   exact ⟨hb, q⟩
theorem Inv.pinned {pins : List (Addr × Obj)} {σ : St} {H : Hp} {s : Shared} {fp : List Addr} (I : Inv X pins σ H s) (hf : ∀ b ∈ fp, nA X pins H b) (ho : ∀ b ∈ fp, ∃ o, s.heap.get? b = some o /\ ∀ v, o.data ≠ .cell v) : Inv X (pins ++ mZ fp s.heap) σ H s :=
 I.wU fun p hp => (List.mem_append.mp hp).elim (fun z => I.pin p (List.mem_append_right _ z)) fun z => by
  obtain ⟨hb, e⟩ := xT z
  obtain ⟨f0, f1, f2, _⟩ := hf p.1 hb
  obtain ⟨o, e', d⟩ := ho p.1 hb
  rw [e] at e'; cases e'
  exact ⟨e, f0, f1, f2, d⟩
theorem Inv.jW {pins pl : List (Addr × Obj)} {σ : St} {H : Hp} {s : Shared} (I : Inv X (pins ++ pl) σ H s) : Inv X pins σ H s := I.wU fun p hp => I.pin p (List.mem_append_right _ (List.mem_append_left _ hp))
theorem HD {iter : Expr} {body : List Stmt} {wi : TI} {g : TG} {tb : TS} {pos : Pos} (hp : PassesOwn (model X.prog X.w) X.A X.env X.xe) (hc : X.calm = true) (hi : PI X tg iter wi) (hg : PG X tg g) (hb : xF X body tb)
 (hs : ∀ x, foldedSetIterable iter X.env x = pure x := by intro _; rfl) : PS X (.For tg iter body [] pos) (VR wi g tb) := by
 intro pins s σ H D I h
 refine wpAny_For (dN (hi pins s σ H _ I h) fun v s1 h1 => dN h1 fun itv s2 h2 => ?_) hs
 obtain ⟨it, fp, tn, J, H2, e, I2, T, st2, f2, W, ⟨m0, w0⟩, turn⟩ := h2
 subst e
 -- what stays true of the iterator's objects through the loop
 have stat : ∀ {H' : Hp}, (∀ b ∈ fp, H' b = none) -> ∀ b ∈ fp, nA X pins H' b := fun hn b hb => ⟨hn b hb, (f2 b hb).2⟩
 refine codeAny_forLoop_any (fun n s' => ∃ i σ' H', Inv X pins σ' H' s' /\ tn i s'.heap /\ (∀ b ∈ fp, H' b = none) /\ W i n σ' H') ?_ m0 ⟨0, σ, H2, I2, st2, fun b hb => (f2 b hb).1, w0⟩
 rintro n s3 ⟨i, σ3, H3, I3, st3, Za, w3⟩
 rcases turn i n σ3 H3 w3 with ⟨stop, qn⟩ | ⟨go, N, hN, step⟩
 . refine wpAny_passesOwn hp (dN (T.done X rfl rfl rfl hc i pins s3 σ3 H3 X.xe I3 (stat Za) st3 stop) fun r s4 ⟨hr, I4⟩ => ?_)
   subst hr
   exact wpAny_execs_nil ⟨σ3, H3, I4, qn⟩
 . refine wpAny_passesOwn hp (dN (T.item X rfl rfl rfl hc i pins s3 σ3 H3 X.xe I3 (stat Za) st3 go) fun r s4 ⟨u, hr, h4⟩ => ?_)
   subst hr
   refine wpAny_passesOwn hp (dN h4 fun _ s5 ⟨x, H5, I5, r5, y5, FZ, fr5⟩ => ?_)
   have I5' := I5.pinned (stat fr5) (T.obj _ _ FZ)
   refine wpAny_passesOwn hp (dN (hg _ s5 σ3 H5 x u _ I5' r5 (step x H5 y5)) fun _ s6 ⟨σ6, H6, I6, q6⟩ => ?_)
   refine wpAny_passesOwn hp (dN (hb _ s6 σ6 H6 _ I6 q6) fun f s7 q7 => ?_)
   have again : ∀ {σ7 : St} {H7 : Hp}, Inv X (pins ++ mZ fp s5.heap) σ7 H7 s7 -> N σ7 H7 -> ∃ m, m < n /\ ∃ i σ' H', Inv X pins σ' H' s7 /\ tn i s7.heap /\ (∀ b ∈ fp, H' b = none) /\ W i m σ' H' := fun {σ7 H7} I7 n7 => by
    obtain ⟨m', hm, w7⟩ := hN σ7 H7 n7
    refine ⟨m', hm, i + 1, σ7, H7, I7.jW, T.keep _ _ _ FZ fun b hb o e => (I7.pin (b, o) (List.mem_append_right _ (List.mem_append_right _ (gC hb e)))).1, fun b hb => ?_, w7⟩
    obtain ⟨o, e, d⟩ := T.obj _ _ FZ b hb
    exact (I7.pin (b, o) (List.mem_append_right _ (List.mem_append_right _ (gC hb e)))).2.1
   cases f with
   | next => obtain ⟨σ7, H7, I7, n7⟩ := q7; exact again I7 n7
   | cont => obtain ⟨σ7, H7, I7, n7⟩ := q7; exact again I7 n7
   | brk => obtain ⟨σ7, H7, I7, q7⟩ := q7; exact ⟨σ7, H7, I7.jW, q7⟩
   | ret v => obtain ⟨x7, σ7, H7, I7, r7, q7⟩ := q7; exact ⟨x7, σ7, H7, I7.jW, r7, q7⟩
end
end L2
namespace L2
open PySem PySem.Spec PyProof.Rows
noncomputable abbrev R2 := V -> V -> Hp -> VK -> Prop
noncomputable def gF (X : Cx) (f : Value -> Value -> Sem Value) (r : R2) : Prop :=
 ∀ (pins : List (Addr × Obj)) (s : Shared) (σ : St) (H : Hp) (x y : V) (v u : Value) (Q : VK), Inv X pins σ H s -> RelV x v -> RelV y u -> r x y H Q ->
   wpAny (model X.prog X.w) X.A (f v u) (EP X pins σ Q) X.xe s
noncomputable def V7 (X : Cx) (f : Value -> Sem Value) (r : V -> Hp -> VK -> Prop) : Prop :=
 ∀ (pins : List (Addr × Obj)) (s : Shared) (σ : St) (H : Hp) (x : V) (v : Value) (Q : VK), Inv X pins σ H s -> RelV x v -> r x H Q ->
   wpAny (model X.prog X.w) X.A (f v) (EP X pins σ Q) X.xe s
noncomputable def cR (X : Cx) (f : Value) (r : List V -> Hp -> VK -> Prop) : Prop :=
 ∀ (pins : List (Addr × Obj)) (s : Shared) (σ : St) (H : Hp) (xs : List V) (us : List Value) (Q : VK), Inv X pins σ H s -> Vals xs us -> r xs H Q ->
   wpAny (model X.prog X.w) X.A (call f us) (EP X pins σ Q) X.xe s
noncomputable def MP (r : R2) (ta tb : TE) : TE := fun σ H Q => ta σ H fun x H1 => tb σ H1 fun y H2 => r x y H2 Q
noncomputable def Yr (r : V -> Hp -> VK -> Prop) (ta : TE) : TE := fun σ H Q => ta σ H fun x H1 => r x H1 Q
noncomputable def rI (C : Int -> Int -> Prop) (g : Int -> Int -> V) : R2 := fun x y H Q => ∃ i j, x = .int i /\ y = .int j /\ C i j /\ Q (g i j) H
noncomputable def Ek (g : Int -> Int -> V) : R2 := fun x y H Q => ∃ i j, x = .int i /\ y = .int j /\ Q (g i j) H
noncomputable def rU (g : Int -> V) : V -> Hp -> VK -> Prop := fun x H Q => ∃ i, x = .int i /\ Q (g i) H
section
variable {X : Cx} {a b c : Expr} {ta tb tc : TE} {pos : Pos}
theorem Jw (ha : PE X a ta) (hb : PE X b tb) {pins : List (Addr × Obj)} {s : Shared} {σ : St} {H : Hp} {R : V -> V -> Hp -> Prop} (I : Inv X pins σ H s)
 (h : ta σ H fun x H1 => tb σ H1 fun y H2 => R x y H2) {Q : Value -> Shared -> Prop} {f : Value -> Value -> Sem Value}
 (hf : ∀ v u s2 x y H2, Inv X pins σ H2 s2 -> RelV x v -> RelV y u -> R x y H2 -> wpAny (model X.prog X.w) X.A (f v u) Q X.xe s2) :
 wpAny (model X.prog X.w) X.A (eval a X.env) (fun v s₁ => wpAny (model X.prog X.w) X.A (eval b X.env) (fun u s₂ => wpAny (model X.prog X.w) X.A (f v u) Q X.xe s₂) X.xe s₁) X.xe s := by
 refine dN (ha pins s σ H _ I h) fun v s1 ⟨x, H1, I1, r1, q1⟩ => ?_
 refine dN (hb pins s1 σ H1 _ I1 q1) fun u s2 ⟨y, H2, I2, r2, q2⟩ => ?_
 exact hf v u s2 x y H2 I2 r1 r2 q2
theorem Qj {op : Operator} {r : R2} (ho : gF X (binaryOp op) r) (ha : PE X a ta) (hb : PE X b tb) : PE X (.BinOp a op b pos) (MP r ta tb) := by
 intro pins s σ H Q I h
 exact wpAny_BinOp (Jw ha hb I h fun v u s2 x y H2 I2 rx ry q => ho pins s2 σ H2 x y v u Q I2 rx ry q)
theorem O5 {op : UnaryOp} {r : V -> Hp -> VK -> Prop} (ho : V7 X (unaryOp op) r) (ha : PE X a ta) : PE X (.UnaryOp op a pos) (Yr r ta) := by
 intro pins s σ H Q I h
 exact UnaryOp_ (dN (ha pins s σ H _ I h) fun v s1 ⟨x, H1, I1, r1, q1⟩ => ho pins s1 σ H1 x v Q I1 r1 q1)
theorem Vq {f : Value -> Value -> Sem Value} {C : Int -> Int -> Prop} {g : Int -> Int -> Int}
 (rule : ∀ (i j : Int) (t u : Tok) (s : Shared) (Q : Value -> Shared -> Prop) (E : Value -> Shared -> Prop), C i j -> Q (.int (g i j) s.toks) { s with toks := s.toks + 1 } -> wpAny (model X.prog X.w) X.A (f (.int i t) (.int j u)) Q E s) :
 gF X f (rI C fun i j => .int (g i j)) := by
 intro pins s σ H x y v u Q I rx ry h
 obtain ⟨i, j, rfl, rfl, hc, q⟩ := h
 obtain ⟨t, rfl⟩ := rx
 obtain ⟨t', rfl⟩ := ry
 exact rule i j t t' s _ _ hc ⟨.int (g i j), H, I.tok _, ⟨_, rfl⟩, q⟩
theorem QH {f : Value -> Value -> Sem Value} {g : Int -> Int -> Int}
 (rule : ∀ (i j : Int) (t u : Tok) (s : Shared) (Q : Value -> Shared -> Prop) (E : Value -> Shared -> Prop), Q (.int (g i j) s.toks) { s with toks := s.toks + 1 } -> wpAny (model X.prog X.w) X.A (f (.int i t) (.int j u)) Q E s) :
 gF X f (Ek fun i j => .int (g i j)) := by
 intro pins s σ H x y v u Q I rx ry h
 obtain ⟨i, j, rfl, rfl, q⟩ := h
 obtain ⟨t, rfl⟩ := rx
 obtain ⟨t', rfl⟩ := ry
 exact rule i j t t' s _ _ ⟨.int (g i j), H, I.tok _, ⟨_, rfl⟩, q⟩
theorem HB {f : Value -> Value -> Sem Value} {g : Int -> Int -> Bool}
 (rule : ∀ (i j : Int) (t u : Tok) (s : Shared) (Q : Value -> Shared -> Prop) (E : Value -> Shared -> Prop), Q (.bool (g i j)) s -> wpAny (model X.prog X.w) X.A (f (.int i t) (.int j u)) Q E s) :
 gF X f (Ek fun i j => .bl (g i j)) := by
 intro pins s σ H x y v u Q I rx ry h
 obtain ⟨i, j, rfl, rfl, q⟩ := h
 obtain ⟨t, rfl⟩ := rx
 obtain ⟨t', rfl⟩ := ry
 exact rule i j t t' s _ _ ⟨.bl (g i j), H, I, rfl, q⟩
noncomputable def W9 (i j : Int) : Prop := 0 <= j /\ j <= 1000000 /\ i.natAbs < 2 ^ 64
noncomputable def Hm (i j : Int) : Prop := (-(2 ^ 64) < i /\ i < 2 ^ 64) \/ (-(2 ^ 64) < j /\ j < 2 ^ 64)
theorem Hm.ok {i j : Int} (h : Hm i j) : IntMulOk i j := by
 rcases h with ⟨h1, h2⟩ | ⟨h1, h2⟩
 . exact .of_left (intBits_le_64 h1 h2)
 . exact .of_right (intBits_le_64 h1 h2)
theorem J1 : gF X (binaryOp .Add) (Ek fun i j => .int (i + j)) := QH fun _ _ _ _ _ _ _ q => add_int q
theorem Hv : gF X (binaryOp .Sub) (Ek fun i j => .int (i - j)) := QH fun _ _ _ _ _ _ _ q => sub_int q
theorem Kh : gF X (binaryOp .Mult) (rI Hm fun i j => .int (i * j)) := Vq fun _ _ _ _ _ _ _ hc q => mul_int q hc.ok
theorem Ks : gF X (binaryOp .Mod) (rI (fun _ j => 0 < j) fun i j => .int (i % j)) := Vq fun i j _ _ _ _ _ hc q => by
 have h1 : (0 : Int) < j := hc
 exact mod_int' (by omega) (by rw [Int.fmod_eq_emod_of_nonneg i (by omega)]; exact q)
theorem Ib : gF X (binaryOp .Pow) (rI W9 fun i j => .int (i ^ j.toNat)) := Vq fun _ _ _ _ _ _ _ hc q => pow_int_small hc.1 hc.2.1 hc.2.2 q
theorem unI {f : Value -> Sem Value} {g : Int -> Int}
 (rule : ∀ (i : Int) (t : Tok) (s : Shared) (Q : Value -> Shared -> Prop) (E : Value -> Shared -> Prop), Q (.int (g i) s.toks) { s with toks := s.toks + 1 } -> wpAny (model X.prog X.w) X.A (f (.int i t)) Q E s) :
 V7 X f (rU fun i => .int (g i)) := by
 intro pins s σ H x v Q I rx h
 obtain ⟨i, rfl, q⟩ := h
 obtain ⟨t, rfl⟩ := rx
 exact rule i t s _ _ ⟨.int (g i), H, I.tok _, ⟨_, rfl⟩, q⟩
theorem Jg : V7 X (unaryOp .USub) (rU fun i => .int (-i)) := unI fun _ _ _ _ _ q => neg_int q
end
section
variable {X : Cx} {a b c : Expr} {ta tb tc : TE} {pos : Pos}
theorem Qw : gF X (compareOp .Lt) (Ek fun i j => .bl (decide (i < j))) := HB fun _ _ _ _ _ _ _ q => lt_int q
theorem N5 : gF X (compareOp .LtE) (Ek fun i j => .bl (decide (i <= j))) := HB fun _ _ _ _ _ _ _ q => le_int q
theorem Px : gF X (compareOp .Gt) (Ek fun i j => .bl (decide (j < i))) := HB fun _ _ _ _ _ _ _ q => gt_int q
theorem aV (b : Expr) {op : CmpOp} (h : op ≠ .In := by decide) (h2 : op ≠ .NotIn := by decide) : behindInMarks op b = false := by
 have e1 : (op == CmpOp.In) = false := by cases op <;> first | rfl | exact absurd rfl h
 have e2 : (op == CmpOp.NotIn) = false := by cases op <;> first | rfl | exact absurd rfl h2
 cases b <;> simp [behindInMarks, e1, e2]
theorem Fo {op : CmpOp} {r : R2} (ho : gF X (compareOp op) r) (ha : PE X a ta) (hb : PE X b tb) (hm : behindInMarks op b = false) : PE X (.Compare a [op] [b] pos) (MP r ta tb) := by
 intro pins s σ H Q I h
 exact wpAny_Compare1 (Jw ha hb I h fun v u s2 x y H2 I2 rx ry q => ho pins s2 σ H2 x y v u Q I2 rx ry q) hm
noncomputable def O2 (t : TE) : TT := fun σ H Q => t σ H fun x H' => ∃ k, x = .bl k /\ Q k H'
theorem Fx {op : CmpOp} {r : R2} (ho : gF X (compareOp op) r) (ha : PE X a ta) (hb : PE X b tb) (hm : behindInMarks op b = false) : PT X (.Compare a [op] [b] pos) (O2 (MP r ta tb)) := by
 intro pins s σ H Q I h
 refine wpAny_isTrue_Compare1 (dN (ha pins s σ H _ I h) fun v s1 ⟨x, H1, I1, r1, q1⟩ => dN (hb pins s1 σ H1 _ I1 q1) fun u s2 ⟨y, H2, I2, r2, q2⟩ =>
  dN (ho pins s2 σ H2 x y v u _ I2 r1 r2 q2) fun c s3 ⟨z, H3, I3, r3, k, e, q3⟩ => ?_) hm
 subst e
 cases r3
 exact wpAny_truthy_bool ⟨H3, I3, q3⟩
theorem qT : (sizeLine : Nat) < 2 ^ 63 := by rw [sizeLine_eq]; decide
theorem vq : gF X (binaryOp .Add) (fun x y H Q => ∃ i j, x = .str i /\ y = .str j /\ i.length + j.length <= sizeLine /\ Q (.str (i ++ j)) H) := by
 intro pins s σ H x y v u Q I rx ry h
 obtain ⟨i, j, rfl, rfl, hz, q⟩ := h
 obtain ⟨t, rfl⟩ := rx
 obtain ⟨t', rfl⟩ := ry
 exact add_str (fun t' tk => ⟨.str (i ++ j), H, I.tok _, ⟨_, rfl⟩, q⟩) hz
theorem vals1 {x : V} {us : List Value} (r : Vals [x] us) : ∃ u, us = [u] /\ RelV x u := by
 cases r with
 | cons r1 r2 => cases r2; exact ⟨_, rfl, r1⟩
theorem vals2 {x y : V} {us : List Value} (r : Vals [x, y] us) : ∃ u w', us = [u, w'] /\ RelV x u /\ RelV y w' := by
 cases r with
 | cons r1 r2 =>
   cases r2 with
   | cons r3 r4 => cases r4; exact ⟨_, _, rfl, r1, r3⟩
theorem yC (hc : X.calm = true) : cR X (.builtin "max") (fun xs H Q => ∃ i j, xs = [.int i, .int j] /\ Q (.int (if j > i then j else i)) H) := by
 intro pins s σ H xs us Q I r h
 obtain ⟨i, j, rfl, q⟩ := h
 obtain ⟨u, w', rfl, ⟨t, rfl⟩, ⟨t', rfl⟩⟩ := vals2 r
 refine max_two_ints (I.ok.hd hc) fun h' tk k => ⟨_, H, I.kept k, ?_, q⟩
 by_cases hj : j > i
 . rw [if_pos hj, if_pos hj]; exact ⟨_, rfl⟩
 . rw [if_neg hj, if_neg hj]; exact ⟨_, rfl⟩
theorem ye (hc : X.calm = true) : cR X (.builtin "min") (fun xs H Q => ∃ i j, xs = [.int i, .int j] /\ Q (.int (if j < i then j else i)) H) := by
 intro pins s σ H xs us Q I r h
 obtain ⟨i, j, rfl, q⟩ := h
 obtain ⟨u, w', rfl, ⟨t, rfl⟩, ⟨t', rfl⟩⟩ := vals2 r
 refine min_two_ints (I.ok.hd hc) fun h' tk k => ⟨_, H, I.kept k, ?_, q⟩
 by_cases hj : j < i
 . rw [if_pos hj, if_pos hj]; exact ⟨_, rfl⟩
 . rw [if_neg hj, if_neg hj]; exact ⟨_, rfl⟩
end
end L2
namespace L2
open PySem PySem.Spec PyProof.Rows
end L2
namespace L2
open PySem PySem.Spec PyProof.Rows
structure ie (k : Nat) (A : Around) : Prop where
 hd : A.handled = none
 dp : A.depth + 3 * k + 5 < recursionLimit
 un : A.units + 16 * k + 200 < cLine
theorem ie.deeper {k : Nat} {A : Around} (r : ie (k + 1) A) (env : Env) : ie k (A.deeper env) :=
 ⟨r.hd, by have := r.dp; show A.depth + 1 + 3 * k + 5 < _; omega, by have := r.un; show A.units + 3 + 16 * k + 200 < _; omega⟩
theorem ie.depth {k : Nat} {A : Around} (r : ie k A) : A.depth < recursionLimit := by have := r.dp; omega
noncomputable def Wx : TA := fun _ H Q => Q [] H
noncomputable def N7 (ta : TE) (tr : TA) : TA := fun σ H Q => ta σ H fun x H1 => tr σ H1 fun xs H2 => Q (x :: xs) H2
section
variable {X : Cx} {e : Expr} {es : List Expr} {te : TE} {t : TA} {pos : Pos}
theorem eY : PA X [] Wx := fun _ _ _ _ H Q I h => Calls.spliced_nil ⟨[], H, I, .nil, h⟩
theorem bV (ha : PE X e te) (hr : PA X es t) (hs : starEach (e :: es) X.env = (false, eval e X.env) :: starEach es X.env := by rfl) : PA X (e :: es) (N7 te t) := by
 intro pos pins s σ H Q I h
 rw [hs]
 show wpAny _ _ (spliced ((false, eval e X.env) :: backTo pos (starEach es X.env))) _ _ s
 refine Calls.spliced_cons (dN (ha pins s σ H _ I h) fun u s1 ⟨x, H1, I1, r1, q1⟩ => ?_)
 exact dN (hr pos pins s1 σ H1 _ I1 q1) fun us s2 ⟨xs, H2, I2, r2, q2⟩ => ⟨x :: xs, H2, I2, .cons r1 r2, q2⟩
noncomputable def Wn (t : TA) : TE := fun σ H Q => t σ H fun xs H1 => xs.length <= sizeLine /\ ∀ p, H1 p = none -> Q (.ref p) (upd H1 p (.tup xs))
noncomputable def Wc (t : TA) : TE := fun σ H Q => t σ H fun xs H1 => xs.length <= sizeLine /\ ∀ p, H1 p = none -> Q (.ref p) (upd H1 p (.lst xs))
theorem Ko {x1} (h : PA X es t) : PE X (.Tuple es x1 pos) (Wn t) := by
 intro pins s σ H Q I hq
 refine wpAny_Tuple_spliced (dN (h pos pins s σ H _ I hq) fun us s1 ⟨xs, H1, I1, r, z, q⟩ => ⟨by rw [<- r.length]; exact z, ?_⟩)
 have hf : H1 s1.heap.objs.size = none := I1.hok.fresh (Nat.le_refl _)
 refine ⟨.ref s1.heap.objs.size, upd H1 s1.heap.objs.size (.tup xs), I1.laid (t' := s1.toks) (fun b u e => Heap.get?_push_of_some _ e) (Nat.le_refl _) ?_, rfl, q _ hf⟩
 exact ⟨z, us, r, ⟨_, Heap.get?_push_size _ rfl, rfl, _, rfl⟩⟩
theorem JS (h : PA X es t) : PE X (.List es pos) (Wc t) := by
 intro pins s σ H Q I hq
 refine wpAny_List_spliced (dN (h pos pins s σ H _ I hq) fun us s1 ⟨xs, H1, I1, r, z, q⟩ => ⟨by rw [<- r.length]; exact z, ?_⟩)
 have hf : H1 s1.heap.objs.size = none := I1.hok.fresh (Nat.le_refl _)
 refine ⟨.ref s1.heap.objs.size, upd H1 s1.heap.objs.size (.lst xs), I1.laid (t' := s1.toks) (fun b u e => Heap.get?_push_of_some _ e) (Nat.le_refl _) ?_, rfl, q _ hf⟩
 exact ⟨z, us, 0, r, Heap.get?_push_size _ rfl⟩
end
noncomputable abbrev Sp := List V -> Hp -> VK -> XK -> Prop
noncomputable abbrev zL := List Env -> Hp -> Shared -> XK -> Value -> Shared -> Prop
structure Cq (P : Program) (w : World) (K : PySem.W.Frag) (mg : Str -> Option Value) (base : Heap) (A : Around) (outer : List Env) (s : Shared) (H : Hp) : Prop where
 frames : A.frames = some outer
 mod : Mod K mg base
 bs : ∀ b o, base.get? b = some o -> s.heap.get? b = some o /\ H b = none
 Hc : base.objs.size <= s.heap.objs.size
 oF : s.heap.FunFrames base outer
 Nz : ∀ b ∈ frs outer, H b = none
 hok : oW P w H s.heap
 bare : AllBare s.gens
noncomputable def CE (outer : List Env) (P : Program) (w : World) (H : Hp) (s : Shared) (Q : VK) (u : Value) (s' : Shared) : Prop :=
 ∃ v H', s'.os = s.os /\ AllBare s'.gens /\ Un (frs outer) [] H H' s.heap s'.heap /\ oW P w H' s'.heap /\ RelV v u /\ Q v H'
noncomputable def CR (CX : zL) (outer : List Env) (P : Program) (w : World) (H : Hp) (s : Shared) (Q : VK) (E : XK) (r : Result) (s' : Shared) : Prop :=
 match r with
 | .ok (.ret u) => CE outer P w H s Q u s'
 | .ok _ => False
 | .error e => CX outer H s E e s'
structure cF (P : Program) (w : World) (K : PySem.W.Frag) (mg : Str -> Option Value) (base : Heap) (CX : zL) (k : Nat) (f : Addr) (fd : FuncData) (ps : List Str) (sp : Sp) : Prop where
 len : ∀ vs H Q E, sp vs H Q E -> vs.length = ps.length
 run : ∀ (A : Around) (outer : List Env) (s : Shared) (H : Hp) (args : Args) (us : List Value) (vs : List V) (Q : VK) (E : XK), ie k A -> Cq P w K mg base A outer s H -> BindsTo s fd args (ps.zip us) -> Vals vs us -> sp vs H Q E ->
  codeAny (model P w) A (.call (.ref f) args) (CR CX outer P w H s Q E) s
section
variable {X : Cx} {pins : List (Addr × Obj)} {σ : St} {H : Hp} {s s' : Shared}
theorem Inv.env0 (I : Inv X pins σ H s) : Cq X.prog X.w X.K X.mg X.base X.A X.stack s H :=
 ⟨I.ok.frames, I.ok.mod, I.bs, Nat.le_trans I.ok.Hc I.sz, I.stack, I.wD, I.hok, I.bare⟩
theorem Inv.after {Q : VK} {u : Value} (I : Inv X pins σ H s) (h : CE X.stack X.prog X.w H s Q u s') : EP X pins σ Q u s' := by
 obtain ⟨v, H', os, bare, un, hok, r, q⟩ := h
 obtain ⟨hh, g, d, t, os'⟩ := s'
 obtain rfl : os' = s.os := os
 exact ⟨v, H', I.call (h' := hh) (g' := g) (d' := d) (t' := t) (ch := []) un hok bare (fun b z => absurd z (by simp)), r, q⟩
end
noncomputable def Oq (sp : Sp) (Hf : List V) (E : XK) (t : TA) : TE := fun σ H Q => t σ H fun vs H1 => sp (vs ++ Hf) H1 Q E
noncomputable def Binds (K : PySem.W.Frag) (fd : FuncData) (ps : List Str) (ds : List Value) : Prop :=
 ∀ (s : Shared) (us : List Value), K.In s.heap -> (us ++ ds).length = ps.length -> BindsTo s fd ⟨us, []⟩ (ps.zip (us ++ ds))
theorem Binds.all {K : PySem.W.Frag} {fd : FuncData} {ps : List Str} (h : ∀ us : List Value, us.length = ps.length -> bindArgs fd ⟨us, []⟩ = pure (ps.zip us)) : Binds K fd ps [] := fun s us _ hl => by
 rw [List.append_nil] at hl ⊢
 exact .of_eq (h us hl)
noncomputable def Passes (CX : zL) (X : Cx) (E : XK) : Prop := ∀ (pins : List (Addr × Obj)) (σ : St) (H : Hp) (s : Shared) (e : Value) (s' : Shared), Inv X pins σ H s -> CX X.stack H s E e s' -> X.xe e s'
section
variable {X : Cx} {CX : zL} {k : Nat} {f C : Addr} {fd : FuncData} {ps : List Str} {sp : Sp} {Hf : List V} {ds : List Value} {E : XK} {x m : Str} {p pos apos : Pos} {e o : Expr} {es : List Expr} {ta : TE} {t : TA}
theorem Jr {pins : List (Addr × Obj)} {σ : St} {H : Hp} {s : Shared} {Q : VK} {us : List Value} {vs : List V} (F : cF X.prog X.w X.K X.mg X.base CX k f fd ps sp) (hr : ie k X.A) (hb : Binds X.K fd ps ds) (hd : Vals Hf ds) (hx : Passes CX X E)
 (I : Inv X pins σ H s) (r : Vals vs us) (h : sp (vs ++ Hf) H Q E) : wpAny (model X.prog X.w) X.A (call (.ref f) us) (EP X pins σ Q) X.xe s := by
 have r2 : Vals (vs ++ Hf) (us ++ ds) := r.append hd
 have hl : (us ++ ds).length = ps.length := by rw [<- r2.length]; exact F.len _ _ _ _ h
 refine wpAny_call (codeAny_mono (F.run X.A X.stack s H ⟨us, []⟩ (us ++ ds) (vs ++ Hf) Q E hr I.env0 (hb s us I.Ir hl) r2 h) fun r s' hq => ?_)
 cases r with
 | error e => exact hx pins σ H s e s' I hq
 | ok fl =>
   cases fl with
   | ret u => exact I.after hq
   | next => exact False.elim hq
   | brk => exact False.elim hq
   | cont => exact False.elim hq
theorem Eo (F : cF X.prog X.w X.K X.mg X.base CX k f fd ps sp) (hr : ie k X.A) (hg : Gl X x) (hm : X.mg x = some (.ref f)) (hk : PySem.W.keepIn X.K (.ref f) = true) (hb : Binds X.K fd ps ds) (hd : Vals Hf ds) (hx : Passes CX X E)
 (ha : PA X (e :: es) t) (hdb : (x == ("__debug__" : Str)) = false := by decide) (he : starEach (e :: es) X.env = (false, eval e X.env) :: starEach es X.env := by rfl) (hpl : (backTo pos (starEach es X.env)).any (·.1) = false := by rfl) :
 PE X (.Call (.Name x p) (e :: es) [] pos) (Oq sp Hf E t) := by
 intro pins s σ H Q I h
 refine wpAny_Call_Name_kw (Fg I hg hm ?_ hdb)
 refine PySem.W.callWith_K (h₀ := X.base) I.ok.mod.Xc hk (dN (ha pos pins s σ H _ I h) fun us s1 ⟨vs, H1, I1, r, q⟩ => ⟨I1.Ir, ?_⟩) he hpl
 exact Jr F hr hb hd hx I1 r q
end
structure aR (N P : List Str) (sc : Scope) : Prop where
 kind : sc.kind = .function
 co : sc.isCoroutine = false
 gen : sc.isGenerator = false
 nd : N.Nodup
 pre : N.take P.length = P
 par : ∀ x ∈ P, sc.names.lookup x = some .local \/ sc.names.lookup x = some .cell
 K7 : ∀ y ∈ sc.names, y.2 ≠ .free
theorem pF {kindOf : Str -> Option NameKind} {x : Str} : ∀ {binds : List (Str × Value)} {m : Str -> Option Value}, (∀ v, (x, v) ∉ binds) -> bindL kindOf binds m x = m x
 | [], _, _ => rfl
 | (n, v) :: r, m, h => by
   unfold bindL
   rw [pF fun w hw => h w (List.mem_cons_of_mem _ hw)]
   split
   . have : x ≠ n := by rintro rfl; exact h v List.mem_cons_self
     simp [this]
   . rfl
theorem pB {kindOf : Str -> Option NameKind} {x : Str} : ∀ {binds : List (Str × Value)} {m : Str -> Option Value}, (∀ v, (x, v) ∉ binds) -> bindC kindOf binds m x = m x
 | [], _, _ => rfl
 | (n, v) :: r, m, h => by
   unfold bindC
   rw [pB fun w hw => h w (List.mem_cons_of_mem _ hw)]
   split
   . rfl
   . have : x ≠ n := by rintro rfl; exact h v List.mem_cons_self
     simp [this]
theorem pU {kindOf : Str -> Option NameKind} {x : Str} {v : Value} : ∀ {P : List Str} {vs : List Value} {i : Nat} {m : Str -> Option Value}, P.Nodup -> P[i]? = some x -> vs[i]? = some v -> kindOf x = some .local ->
 bindL kindOf (P.zip vs) m x = some v
 | [], _, _, _, _, h, _, _ => by simp at h
 | _ :: _, [], _, _, _, _, h, _ => by simp at h
 | p :: P, w :: vs, 0, m, nd, h1, h2, hk => by
   simp at h1 h2; subst h1; subst h2
   show bindL kindOf ((p, w) :: P.zip vs) m p = _
   unfold bindL
   rw [pF fun v hv => (List.nodup_cons.mp nd).1 (List.of_mem_zip hv).1, if_pos hk]
   simp
 | p :: P, w :: vs, i + 1, m, nd, h1, h2, hk => by
   show bindL kindOf ((p, w) :: P.zip vs) m x = _
   unfold bindL
   exact pU (i := i) (List.nodup_cons.mp nd).2 (by simpa using h1) (by simpa using h2) hk
theorem p7 {kindOf : Str -> Option NameKind} {x : Str} {v : Value} : ∀ {P : List Str} {vs : List Value} {i : Nat} {m : Str -> Option Value}, P.Nodup -> P[i]? = some x -> vs[i]? = some v -> kindOf x ≠ some .local ->
 bindC kindOf (P.zip vs) m x = some v
 | [], _, _, _, _, h, _, _ => by simp at h
 | _ :: _, [], _, _, _, _, h, _ => by simp at h
 | p :: P, w :: vs, 0, m, nd, h1, h2, hk => by
   simp at h1 h2; subst h1; subst h2
   show bindC kindOf ((p, w) :: P.zip vs) m p = _
   unfold bindC
   rw [pB fun v hv => (List.nodup_cons.mp nd).1 (List.of_mem_zip hv).1, if_neg hk]
   simp
 | p :: P, w :: vs, i + 1, m, nd, h1, h2, hk => by
   show bindC kindOf ((p, w) :: P.zip vs) m x = _
   unfold bindC
   exact p7 (i := i) (List.nodup_cons.mp nd).2 (by simpa using h1) (by simpa using h2) hk
noncomputable def start (N : List Str) (vs : List V) : St := vs.map some ++ List.replicate (N.length - vs.length) none
noncomputable def vV (CX : zL) (P : Program) (w : World) (K : PySem.W.Frag) (mg : Str -> Option Value) (base : Heap) (N : List Str) (qual : Str) (scope : Scope) (f : Addr) (cd : Value) (A : Around) (outer : List Env) (s : Shared) (H : Hp) (E : XK) : Cx where
 prog := P
 w := w
 K := K
 mg := mg
 base := base
 A := A.deeper (envOfC qual scope s.heap.objs.size f cd)
 N := N
 s₀ := s
 H₀ := H
 env := envOfC qual scope s.heap.objs.size f cd
 outer := outer
 stack := envOfC qual scope s.heap.objs.size f cd :: outer
 ex := []
 calm := true
 fn := fun _ => true
 pn := []
 xe := fun e s' => wpAny (model P w) (A.deeper (envOfC qual scope s.heap.objs.size f cd)) (leaving (envOfC qual scope s.heap.objs.size f cd) e) (fun _ s'' => CX outer H s E e s'') (fun e' s'' => CX outer H s E e' s'') s'
theorem rQ {sc : Scope} {n : Nat} {x : Str} (h : sc.names.lookup x = some .cell) : ∃ c, (cellsFrom n sc.names []).lookup x = some c := by
 have q := PySem.W.cellsFrom_some sc.names n [] (.inl h)
 exact Option.isSome_iff_exists.mp q
theorem yI {CX : zL} {P : Program} {w : World} {K : PySem.W.Frag} {mg : Str -> Option Value} {base : Heap} {N ps : List Str} {qual : Str} {scope : Scope} {f : Addr} {cd : Value} {A : Around} {outer : List Env} {s s1 : Shared} {H : Hp} {E : XK} {us : List Value} {vs : List V}
 (S : aR N ps scope) (hd : A.handled = none) (e0 : Cq P w K mg base A outer s H) (hl : vs.length = ps.length) (r : Vals vs us)
 (x : InCallC s s.heap.objs.size (bindL (envOfC qual scope s.heap.objs.size f cd).kindOf (ps.zip us) fun _ => none) (cellsFrom (s.heap.objs.size + 1) scope.names []) (bindC (envOfC qual scope s.heap.objs.size f cd).kindOf (ps.zip us) fun _ => none) s1) :
 Inv (vV CX P w K mg base N qual scope f cd A outer s H E) [] (start N vs) H s1 := by
 have hpl : ps.length <= N.length := by have := congrArg List.length S.pre; rw [List.length_take] at this; omega
 obtain ⟨h1, tk, rfl, hk⟩ := x.done
 have Rj : ∀ b : Addr, b ∉ (vV CX P w K mg base N qual scope f cd A outer s H E).ex := fun b z => absurd (show b ∈ ([] : List Addr) from z) (by simp)
 refine ⟨⟨e0.mod, S.kind, rfl, rfl, Nat.le_refl _, fun y z c h1 h2 => ?_, fun y hy => ?_, fun y c _ h => ?_, fun _ => hd, Around.frames_deeper e0.frames, .inr ⟨rfl, rfl⟩, fun b z => absurd z (Rj b), e0.bs, e0.Hc, fun b _ _ => Rj b, fun b z => absurd z (Rj b), e0.oF, e0.Nz⟩,
  rfl, e0.bare, Un.kept hk, ⟨_, x.toInCall.ns, fun i y v h1 h2 h3 => ?_⟩, fun y c h => ⟨_, x.cell y c h⟩, e0.hok.fresh (Nat.le_refl _), fun y c h => ?_, fun p hp => absurd (show p ∈ ([] : List (Addr × Obj)) from hp) (by simp), e0.hok.kept hk, ?_⟩
 . exact name_of_addr x.apart (PySem.mem_of_lookup h1) (PySem.mem_of_lookup h2)
 . have hy : scope.names.lookup y = some .cell \/ scope.names.lookup y = some .free := hy
   rcases hy with hy | hy
   . exact rQ hy
   . exact absurd rfl (S.K7 _ (PySem.mem_of_lookup hy))
 . exact Nat.le_of_lt (x.above y c (PySem.mem_of_lookup h))
 . have hi : i < vs.length := by
    unfold start at h2
    by_cases hi : i < vs.length
    . exact hi
    . rw [List.getElem?_append_right (by simpa using hi)] at h2
      rw [List.getElem?_replicate] at h2
      split at h2 <;> cases h2
   have ha : vs[i]? = some v := by
    unfold start at h2
    rw [List.getElem?_append_left (by simpa using hi), List.getElem?_map] at h2
    cases e : vs[i]? with
    | none => rw [e] at h2; cases h2
    | some a => rw [e] at h2; cases h2; rfl
   obtain ⟨u, hu, rv⟩ := r.get ha
   have hp : ps[i]? = some y := by
    rw [<- S.pre, List.getElem?_take_of_lt (by omega)]; exact h1
   have Zb : ps.Nodup := by rw [<- S.pre]; exact S.nd.sublist (List.take_sublist _ _)
   refine ⟨u, rv, ?_⟩
   rcases S.par y (List.mem_of_getElem? hp) with k | k
   . exact .inl ⟨k, pU Zb hp hu k⟩
   . obtain ⟨c, e⟩ := rQ (n := s.heap.objs.size + 1) k
     refine .inr ⟨.inl k, c, e, ?_⟩
     have q := x.cell y c e
     rw [p7 Zb hp hu (by show scope.names.lookup y ≠ _; rw [k]; decide)] at q
     exact q
 . exact e0.hok.fresh (Nat.le_of_lt (x.above y c (PySem.mem_of_lookup h)))
 . unfold start
   show _ = N.length
   rw [List.length_append, List.length_map, List.length_replicate]
   omega
theorem OD {CX : zL} {P : Program} {w : World} {K : PySem.W.Frag} {mg : Str -> Option Value} {base : Heap} {k : Nat} {f : Addr} {name qual : Str} {params : Arguments} {body : List Stmt} {scope : Scope} {dV kV doc pm cdv ct oc : Value} {an od : Option Addr}
 {osl : Array (Option Value)} {N ps : List Str} {sp : Sp} (lk : K.lookup f = some ⟨oc, od, .func (PySem.W.fnOf name qual params body scope dV kV doc pm an cdv ct), osl⟩) (hcd : PySem.W.codeIn K cdv qual = true) (S : aR N ps scope)
 (len : ∀ vs H Q E, sp vs H Q E -> vs.length = ps.length)
 (hbody : ∀ (A : Around) (outer : List Env) (s : Shared) (H : Hp) (vs : List V) (Q : VK) (E : XK), ie k (A.deeper (envOfC qual scope s.heap.objs.size f cdv)) -> sp vs H Q E ->
  ∃ t, xF (vV CX P w K mg base N qual scope f cdv A outer s H E) body t /\ t { nx := fun _ H' => Q .non H', rt := Q } (start N vs) H) :
 cF P w K mg base CX (k + 1) f (PySem.W.fnOf name qual params body scope dV kV doc pm an cdv ct) ps sp := by
 refine ⟨len, fun A outer s H args us vs Q E hr e0 hb r hsp => ?_⟩
 have hl := len _ _ _ _ hsp
 have KX : K.In s.heap := e0.mod.Xc.keeps fun b o e => (e0.bs b o e).1
 have lim : s.heap.NoLimit := e0.mod.nolimit.keeps fun b o e => (e0.bs b o e).1
 have hkind : ∀ y ∈ ps.zip us, scope.names.lookup y.1 = some .local \/ (scope.names.lookup y.1 = some .cell /\ ((cellsFrom (s.heap.objs.size + 1) scope.names []).lookup y.1).isSome = true) := fun ⟨n, v⟩ hy => by
  rcases S.par n (List.of_mem_zip hy).1 with q | q
  . exact .inl q
  . exact .inr ⟨q, PySem.W.cellsFrom_some _ _ _ (.inl q)⟩
 refine codeAny_call_function hr.depth (KX _ _ lk) rfl S.co S.gen rfl (PySem.W.codeRec_of KX hcd) (hb _ _ _ _ ?_)
 refine wpAny_newFunctionEnv_cells S.kind hkind fun env he s1 x => ?_
 subst he
 refine ⟨lim.keeps x.toInCall.keep, codeAny_func ?_⟩
 obtain ⟨t, ht, hq⟩ := hbody A outer s H vs Q E (hr.deeper _) hsp
 have I : Inv (vV CX P w K mg base N qual scope f cdv A outer s H E) [] (start N vs) H s1 := yI S hr.hd e0 hl r x
 refine wpAny_mono (ht [] s1 (start N vs) H _ I hq) (fun fl s' hs => ?_) fun e s' hs => hs
 have fin : ∀ {σ' : St} {H' : Hp} {v : V} {u : Value}, Inv (vV CX P w K mg base N qual scope f cdv A outer s H E) [] σ' H' s' -> RelV v u -> Q v H' -> CE outer P w H s Q u s' :=
  fun {σ' H' v u} J rv q => ⟨v, H', J.os, J.bare, J.base, J.hok, rv, q⟩
 cases fl with
 | ret u =>
   obtain ⟨v, σ', H', J, rv, q⟩ := hs
   exact fin J rv q
 | next =>
   obtain ⟨σ', H', J, q⟩ := hs
   exact fin (v := V.non) (u := Value.none) J rfl q
 | brk =>
   obtain ⟨_, _, _, q⟩ := hs
   exact False.elim q
 | cont =>
   obtain ⟨_, _, _, q⟩ := hs
   exact False.elim q
end L2
namespace L2
open PySem PySem.Spec PyProof.Rows
section
variable {X : Cx} {x : Str} {p pos : Pos} {e : Expr} {es : List Expr} {t : TA} {id T : String} {r : List V -> Hp -> VK -> Prop}
noncomputable def Ti (r : List V -> Hp -> VK -> Prop) (t : TA) : TE := fun σ H Q => t σ H fun vs H1 => r vs H1 Q
theorem cW (hc : cR X (.builtin id) r) (hg : Gl X x) (hm : X.mg x = none) (hv : bootBuiltins x = some (.builtin id)) (ha : PA X (e :: es) t) (hn : x ≠ "__name__" := by decide) (hdb : (x == ("__debug__" : Str)) = false := by decide)
 (he : starEach (e :: es) X.env = (false, eval e X.env) :: starEach es X.env := by rfl) (hpl : (backTo pos (starEach es X.env)).any (·.1) = false := by rfl) : PE X (.Call (.Name x p) (e :: es) [] pos) (Ti r t) := by
 intro pins s σ H Q I h
 refine wpAny_Call_Name_kw (n6 I hg hm hv ?_ hn hdb)
 exact PyProof.Rows.callWith_builtin1 (dN (ha pos pins s σ H _ I h) fun us s1 ⟨vs, H1, I1, r1, q1⟩ => hc pins s1 σ H1 vs us Q I1 r1 q1) he hpl
theorem lr (hc : cR X (.type T) r) (hg : Gl X x) (hm : X.mg x = none) (hv : bootBuiltins x = some (.type T)) (ha : PA X (e :: es) t) (hn : x ≠ "__name__" := by decide) (hdb : (x == ("__debug__" : Str)) = false := by decide)
 (he : starEach (e :: es) X.env = (false, eval e X.env) :: starEach es X.env := by rfl) (hpl : (backTo pos (starEach es X.env)).any (·.1) = false := by rfl) : PE X (.Call (.Name x p) (e :: es) [] pos) (Ti r t) := by
 intro pins s σ H Q I h
 refine wpAny_Call_Name_kw (n6 I hg hm hv ?_ hn hdb)
 exact PyProof.Rows.callWith_type1 (dN (ha pos pins s σ H _ I h) fun us s1 ⟨vs, H1, I1, r1, q1⟩ => hc pins s1 σ H1 vs us Q I1 r1 q1) he hpl
end
end L2
namespace HT
open PySem PyProof.Rows
section
variable {prog : Program} {w : World} {A : Around} {E : Value -> Shared -> Prop} {s : Shared}
theorem Dr {t b : Addr} {vs ws : List Value} {Q : Value -> Shared -> Prop} (ht : IsTup s.heap t vs.toArray) (hb : IsTup s.heap b ws.toArray) (hv : vs ≠ [])
 (h1 : ws = [] -> Q (.ref t) s) (h2 : ws ≠ [] -> Q (.ref s.heap.objs.size) { s with heap := s.heap.push { cls := .type "tuple", data := .seq (vs ++ ws).toArray } })
 (hsz : vs.length + ws.length <= sizeLine) : wpAny (model prog w) A (binaryOp .Add (.ref t) (.ref b)) Q E s := by
 obtain ⟨⟨cls, dd, data, sl⟩, ho, hc, n, hd⟩ := id ht
 obtain ⟨⟨cls2, dd2, data2, sl2⟩, ho2, hc2, n2, hd2⟩ := id hb
 simp only at hc hd hc2 hd2
 subst hc hd hc2 hd2
 have e : vs.toArray ++ ws.toArray = (vs ++ ws).toArray := by simp
 by_cases hw : ws = []
 . exact concat_meets ⟨_, ho, rfl⟩ ⟨_, ho2, rfl⟩ noFill_tuple_add seq_tuple_add PySem.F.slot_tuple_add PySem.F.entry_tuple_add (PySem.F.args_tuple_add_2 _ _)
    (tuple_addW1 t b vs.toArray ws.toArray n n2 dd dd2 sl sl2 (by simpa using hv) (by simp [hw])) ⟨ho, ho2, h1 hw⟩
 . refine concat_meets ⟨_, ho, rfl⟩ ⟨_, ho2, rfl⟩ noFill_tuple_add seq_tuple_add PySem.F.slot_tuple_add PySem.F.entry_tuple_add (PySem.F.args_tuple_add_2 _ _)
    (tuple_addW2 t b vs.toArray ws.toArray n n2 dd dd2 sl sl2 (by simpa using hv) (by simpa using hw) (by rw [List.size_toArray, List.size_toArray]; exact hsz)) ⟨ho, ho2, ?_⟩
   rw [e]
   exact h2 hw
noncomputable def cH (n d : Nat) : Option Int -> Nat
 | none => d
 | some v => if v < 0 then (v + (n : Int)).toNat else min v.toNat n
theorem Jq (n d : Nat) (hd : d <= n) (o : Option Int) : cH n d o <= n := by
 cases o with
 | none => exact hd
 | some v =>
   show (if v < 0 then (v + (n : Int)).toNat else min v.toNat n) <= n
   by_cases hv : v < 0
   . rw [if_pos hv]; omega
   . rw [if_neg hv]; exact Nat.min_le_right _ _
theorem wX (v : Int) (n d : Nat) : (if v < 0 then max (v + (n : Int)) 0 else min v (n : Int)) = ((cH n d (some v) : Nat) : Int) := by
 show (if v < 0 then max (v + (n : Int)) 0 else min v (n : Int)) = (((if v < 0 then (v + (n : Int)).toNat else min v.toNat n) : Nat) : Int)
 by_cases hv : v < 0
 . simp only [if_pos hv]; omega
 . simp only [if_neg hv]; omega
theorem vO (lo hi : Option Int) (n : Nat) : Builtin.Slice.sliceAdjust lo hi 1 (n : Int) = (((cH n 0 lo : Nat) : Int), ((cH n n hi : Nat) : Int)) := by
 have h1 : ¬ ((1 : Int) < 0) := by omega
 unfold Builtin.Slice.sliceAdjust
 simp only [h1, if_false]
 refine Prod.ext ?_ ?_
 . cases lo with
   | none => rfl
   | some v => exact wX v n 0
 . cases hi with
   | none => rfl
   | some v => exact wX v n n
theorem uU (i j : Nat) : Builtin.Slice.slicePlaces (i : Int) (j : Int) 1 = j - i := by
 unfold Builtin.Slice.slicePlaces
 have h1 : (1 : Int) > 0 := by omega
 simp only [h1, if_true, Int.ediv_one]
 split <;> omega
theorem nC {v : Value} {o : Option Int} {Q : Option Int -> Shared -> Prop} (p : IsPart v o) (h : Q o s) : wpAny (model prog w) A (Builtin.Slice.slicePartIndex v) Q E s := by
 cases p with
 | none => exact slicePart_none h
 | int i t => exact slicePart_int h
theorem gb {sl : Addr} {vl vu : Value} {lo hi : Option Int} {n : Nat} {Q : Int × Int × Nat -> Shared -> Prop} (hs : s.heap.IsSliceOf sl vl vu .none) (pl : IsPart vl lo) (pu : IsPart vu hi)
 (h : Q (((cH n 0 lo : Nat) : Int), 1, cH n n hi - cH n 0 lo) s) : wpAny (model prog w) A (Builtin.Slice.sliceApplied (.ref sl) (pure (n : Int))) Q E s := by
 obtain ⟨os, hos, hcs, hds⟩ := id hs
 unfold Builtin.Slice.sliceApplied Builtin.Slice.sliceFields
 refine wpAny_bind (wpAny_bind (wpAny_field hos hds (x := vl) rfl (wpAny_bind (wpAny_field hos hds (x := vu) rfl (wpAny_bind (wpAny_field hos hds (x := .none) rfl (wpAny_pure ?_)))))))
 refine wpAny_bind (slicePart_none ?_)
 show wpAny _ _ (if ((1 : Int) == 0) = true then _ else _) _ _ s
 rw [if_neg (by decide)]
 refine wpAny_bind (nC pl (wpAny_bind (nC pu (wpAny_bind (wpAny_pure ?_)))))
 show wpAny _ _ (match Builtin.Slice.sliceAdjust lo hi 1 (n : Int) with | (lo, hi) => pure (lo, (1 : Int), Builtin.Slice.slicePlaces lo hi 1)) _ _ s
 rw [vO lo hi n]
 show wpAny _ _ (pure (((cH n 0 lo : Nat) : Int), (1 : Int), Builtin.Slice.slicePlaces ((cH n 0 lo : Nat) : Int) ((cH n n hi : Nat) : Int) 1)) _ _ s
 rw [uU]
 exact wpAny_pure h
theorem zU (xs : Array Value) (i k : Nat) : ((List.range k).filterMap fun (m : Nat) => xs[((i : Int) + (m : Int) * 1).toNat]?).toArray = ((xs.toList.drop i).take k).toArray := by
 have e : (fun (m : Nat) => xs[((i : Int) + (m : Int) * 1).toNat]?) = fun m => xs[i + m]? := by
  funext m
  have : ((i : Int) + (m : Int) * 1).toNat = i + m := by omega
  rw [this]
 rw [e]
 have := pick_run xs i k
 rw [List.filterMap_map] at this
 have e2 : ((fun x => xs[x]?) ∘ fun x => i + x) = fun m => xs[i + m]? := rfl
 rw [e2] at this
 rw [this]
theorem j9 {t sl : Addr} {items : Array Value} {vl vu : Value} {lo hi : Option Int} {Q : Value -> Shared -> Prop} (ht : IsTup s.heap t items) (hs : s.heap.IsSliceOf sl vl vu .none) (pl : IsPart vl lo) (pu : IsPart vu hi)
 (hw : ¬ (cH items.size 0 lo = 0 /\ cH items.size items.size hi = items.size))
 (h : Q (.ref s.heap.objs.size) { s with heap := s.heap.push { cls := .type "tuple", data := .seq ((items.toList.drop (cH items.size 0 lo)).take (cH items.size items.size hi - cH items.size 0 lo)).toArray } })
 (hsz : items.size <= sizeLine) : wpAny (model prog w) A (getItem (.ref t) (.ref sl)) Q E s := by
 have xO : sizeOk (.seq ((items.toList.drop (cH items.size 0 lo)).take (cH items.size items.size hi - cH items.size 0 lo)).toArray) := by
  show ((items.toList.drop (cH items.size 0 lo)).take (cH items.size items.size hi - cH items.size 0 lo)).toArray.size <= sizeLine
  rw [List.size_toArray, List.length_take, List.length_drop, Array.length_toList]
  omega
 have hj : cH items.size items.size hi <= items.size := Jq _ _ (Nat.le_refl _) hi
 obtain ⟨os, hos, hcs, hds⟩ := id hs
 have hTs : s.TypeIs (.ref sl) "slice" := ⟨os, hos, hcs⟩
 unfold getItem
 try with_reducible refine wpAny_holding ?_
 first | refine wpAny_bind (wpAny_pure ?_) | skip
 refine wpAny_bind (wpAny_sequenceKey ht.typeIs (by decide) ?_)
 refine wpAny_bind (wpAny_callSpecial?_slot (name := Str.ofString "__getitem__") ht.typeIs PyProof.Rows.slot_tuple_getitem
  (wpAny_call_entry PyProof.Rows.slot_tuple_getitem ht.typeIs entry_tuple_getitem ?_ (args_tuple_getitem _ _)))
 show wpAny _ _ (Builtin.Tuple.tupleItemsOf (.ref t) >>= _) _ _ s
 refine wpAny_bind (tupleItemsOf_ ht ?_)
 refine wpAny_bind (wpAny_typeOf hTs ?_)
 rw [if_pos (by decide)]
 refine wpAny_bind (gb hs pl pu ?_)
 have hno : ¬ ((((cH items.size 0 lo : Nat) : Int) == 0 && (1 : Int) == 1 && (cH items.size items.size hi - cH items.size 0 lo) == items.size) = true) := by
  intro q
  rw [Bool.and_eq_true, Bool.and_eq_true] at q
  have q1 : ((cH items.size 0 lo : Nat) : Int) = 0 := eq_of_beq q.1.1
  have q2 : cH items.size items.size hi - cH items.size 0 lo = items.size := eq_of_beq q.2
  exact hw ⟨by omega, by omega⟩
 show wpAny _ _ (if (((cH items.size 0 lo : Nat) : Int) == 0 && (1 : Int) == 1 && (cH items.size items.size hi - cH items.size 0 lo) == items.size) = true then _ else _) _ _ s
 rw [if_neg hno, zU]
 first
  | exact wpAny_bind (m := Builtin.Tuple.tupleExact _) (wpAny_newObj_type (wpAny_pure ⟨_, rfl, wpAny_pure h⟩) xO)
  | exact wpAny_bind (m := Builtin.Tuple.tupleExact _) (wpAny_newObj_type (wpAny_bind (wpAny_pure (wpAny_pure ⟨_, rfl, wpAny_pure h⟩))) xO)
  | exact wpAny_bind (wpAny_bind (m := Builtin.Tuple.tupleExact _) (wpAny_newObj_type (wpAny_pure (wpAny_pure ⟨_, rfl, wpAny_pure h⟩)) xO))
  | exact wpAny_bind (wpAny_bind (m := Builtin.Tuple.tupleExact _) (wpAny_newObj_type (wpAny_pure ⟨_, rfl, wpAny_pure h⟩) xO))
end
end HT
namespace L2
open PySem PySem.Spec PyProof.Rows
noncomputable abbrev TO := St -> Hp -> (Option Int -> Hp -> Prop) -> Prop
noncomputable def PO (X : Cx) (e : Option Expr) (t : TO) : Prop :=
 ∀ (pins : List (Addr × Obj)) (s : Shared) (σ : St) (H : Hp) (Q : Option Int -> Hp -> Prop), Inv X pins σ H s -> t σ H Q ->
   wpAny (model X.prog X.w) X.A (evalPart e X.env) (fun u s' => ∃ o H', Inv X pins σ H' s' /\ IsPart u o /\ Q o H') X.xe s
noncomputable def Ef : TO := fun _ H Q => Q none H
noncomputable def Qx (t : TE) : TO := fun σ H Q => t σ H fun x H1 => ∃ i, x = .int i /\ Q (some i) H1
section
variable {X : Cx} {e : Expr} {te : TE} {lo hi : Option Expr} {tl th : TO} {pos p2 : Pos}
theorem Ei : PO X none Ef := by
 intro pins s σ H Q I h
 rw [evalPart_none]
 exact wpAny_pure ⟨none, H, I, .none, h⟩
theorem Ds (h : PE X e te) : PO X (some e) (Qx te) := by
 intro pins s σ H Q I hw
 rw [evalPart_some]
 refine dN (h pins s σ H _ I hw) fun u s1 ⟨x, H1, I1, r1, q1⟩ => ?_
 obtain ⟨i, rfl, q⟩ := q1
 obtain ⟨t, rfl⟩ := r1
 exact ⟨some i, H1, I1, .int i t, q⟩
noncomputable def RN (X : Cx) (r : V -> Option Int -> Option Int -> Hp -> VK -> Prop) : Prop :=
 ∀ (pins : List (Addr × Obj)) (s : Shared) (σ : St) (H : Hp) (x : V) (v vl vu : Value) (lo hi : Option Int) (sl : Addr) (Q : VK), Inv X pins σ H s -> RelV x v -> s.heap.IsSliceOf sl vl vu .none -> IsPart vl lo -> IsPart vu hi -> r x lo hi H Q ->
   ∃ T id, typeLookup (.type T) "__getitem__" = pure (some (.builtin id)) /\ s.TypeIs v T /\ wpAny (model X.prog X.w) X.A (getItem v (.ref sl)) (EP X pins σ Q) X.xe s
noncomputable def tSl (r : V -> Option Int -> Option Int -> Hp -> VK -> Prop) (te : TE) (tl th : TO) : TE := fun σ H Q => te σ H fun x H1 => tl σ H1 fun l H2 => th σ H2 fun u H3 => r x l u H3 Q
theorem tZ {r : V -> Option Int -> Option Int -> Hp -> VK -> Prop} (hr : RN X r) (he : PE X e te) (hl : PO X lo tl) (hu : PO X hi th) : PE X (.Subscript e (.Slice lo hi none p2) pos) (tSl r te tl th) := by
 intro pins s σ H Q I h
 refine Subscript_ (dN (he pins s σ H _ I h) fun v s1 ⟨x, H1, I1, r1, q1⟩ => ?_)
 refine wpAny_Slice (dN (hl pins s1 σ H1 _ I1 q1) fun vl s2 ⟨l, H2, I2, pl, q2⟩ => dN (hu pins s2 σ H2 _ I2 q2) fun vu s3 ⟨u, H3, I3, pu, q3⟩ => ?_)
 rw [evalPart_none]
 refine wpAny_pure ?_
 have I4 : Inv X pins σ H3 { s3 with heap := s3.heap.push { cls := .type "slice", data := .fields #[vl, vu, .none] } } := I3.kept (t' := s3.toks) fun b ob q => Heap.get?_push_of_some _ q
 obtain ⟨T, id, hT, ht, hg⟩ := hr pins { s3 with heap := s3.heap.push { cls := .type "slice", data := .fields #[vl, vu, .none] } } σ H3 x v vl vu l u s3.heap.objs.size Q I4 r1 (Heap.IsSliceOf.new ..) pl pu q3
 show wpAny (model X.prog X.w) X.A (subscriptTail e (.Slice lo hi none p2) v (.ref s3.heap.objs.size)) (EP X pins σ Q) X.xe { s3 with heap := s3.heap.push { cls := .type "slice", data := .fields #[vl, vu, .none] } }
 exact tail_any (ops := [.ref s3.heap.objs.size, v]) ht hT hg (by with_unfolding_all rfl)
noncomputable def sG (xs : List V) (lo hi : Option Int) : List V := (xs.drop (HT.cH xs.length 0 lo)).take (HT.cH xs.length xs.length hi - HT.cH xs.length 0 lo)
theorem lL (xs : List V) (lo hi : Option Int) : (sG xs lo hi).length <= xs.length := by
 unfold sG
 rw [List.length_take, List.length_drop]
 omega
noncomputable def WT (K : PySem.W.Frag) : V -> Option Int -> Option Int -> Hp -> VK -> Prop := fun x lo hi H Q => ∃ a xs, x = .ref a /\ jr K H a xs /\
 ¬ (HT.cH xs.length 0 lo = 0 /\ HT.cH xs.length xs.length hi = xs.length) /\ ∀ p, H p = none -> Q (.ref p) (upd H p (.tup (sG xs lo hi)))
theorem JP : RN X (WT X.K) := by
 intro pins s σ H x v vl vu lo hi sl Q I rx hs pl pu h
 obtain ⟨a, xs, rfl, hx, hw, q⟩ := h
 cases rx
 obtain ⟨its, r, ht, hz⟩ := I.tuple hx
 have hlen : its.toArray.size = xs.length := by rw [List.size_toArray]; exact r.length.symm
 refine ⟨"tuple", _, PyProof.Rows.slot_tuple_getitem.lookup, ht.typeIs, ?_⟩
 refine HT.j9 ht hs pl pu (by rw [hlen]; exact hw) ?_ (by rw [hlen]; exact hz)
 rw [hlen]
 refine ⟨.ref s.heap.objs.size, _, I.laid (t' := s.toks) (o := .tup (sG xs lo hi)) (fun b ob q => Heap.get?_push_of_some _ q) (Nat.le_refl _) ?_, rfl, q _ (I.hok.fresh (Nat.le_refl _))⟩
 exact ⟨Nat.le_trans (lL xs lo hi) hz, _, (r.drop (HT.cH xs.length 0 lo)).take (HT.cH xs.length xs.length hi - HT.cH xs.length 0 lo), IsTup.new _ _⟩
noncomputable def Ow (K : PySem.W.Frag) : R2 := fun x y H Q => ∃ a b xs ys, x = .ref a /\ y = .ref b /\ jr K H a xs /\ jr K H b ys /\ xs ≠ [] /\ xs.length + ys.length <= sizeLine /\
 (ys = [] -> Q (.ref a) H) /\ (ys ≠ [] -> ∀ p, H p = none -> Q (.ref p) (upd H p (.tup (xs ++ ys))))
theorem Vals.mK {xs : List V} {us : List Value} (r : Vals xs us) : us = [] ↔ xs = [] := by
 cases r with
 | nil => simp
 | cons _ _ => simp
theorem Fv : gF X (binaryOp .Add) (Ow X.K) := by
 intro pins s σ H x y v u Q I rx ry h
 obtain ⟨a, b, xs, ys, rfl, rfl, ha, hb, hx, hz, q1, q2⟩ := h
 cases rx
 cases ry
 obtain ⟨its, r1, p1, _⟩ := I.tuple ha
 obtain ⟨its2, r2, p2, _⟩ := I.tuple hb
 refine HT.Dr p1 p2 (fun z => hx (r1.mK.mp z)) (fun z => ⟨.ref a, H, I, rfl, q1 (r2.mK.mp z)⟩) (fun z => ?_) (by rw [<- r1.length, <- r2.length]; exact hz)
 refine ⟨.ref s.heap.objs.size, _, I.laid (t' := s.toks) (o := .tup (xs ++ ys)) (fun b ob q => Heap.get?_push_of_some _ q) (Nat.le_refl _) ?_, rfl, q2 (fun w => z (r2.mK.mpr w)) _ (I.hok.fresh (Nat.le_refl _))⟩
 exact ⟨by rw [List.length_append]; exact hz, _, r1.append r2, IsTup.new _ _⟩
end
end L2
namespace L2
open PySem PySem.Spec PyProof.Rows
noncomputable def ju (n : Nat) (i : Int) : Option Nat := if 0 <= i then (if i < n then some i.toNat else none) else if -(n : Int) <= i then some (i + n).toNat else none
noncomputable def Mx {α : Type} (xs : List α) (i : Int) : Option α := (ju xs.length i).bind fun j => xs[j]?
theorem xq {n : Nat} {i : Int} {j : Nat} (h : ju n i = some j) : seqIndex? i n = some j /\ j < n /\ -(n : Int) <= i /\ i < n := by
 unfold ju at h
 by_cases h0 : 0 <= i
 . rw [if_pos h0] at h
   by_cases h1 : i < n
   . rw [if_pos h1] at h
     have e : i.toNat = j := Option.some.inj h
     exact ⟨by rw [seqIndex_of h0 h1, e], by omega, by omega, h1⟩
   . rw [if_neg h1] at h; cases h
 . rw [if_neg h0] at h
   by_cases h1 : -(n : Int) <= i
   . rw [if_pos h1] at h
     have e : (i + n).toNat = j := Option.some.inj h
     exact ⟨by rw [seqIndex_neg (by omega) h1, e], by omega, h1, by omega⟩
   . rw [if_neg h1] at h; cases h
theorem wJ {α : Type} {xs : List α} {i : Int} {v : α} (h : Mx xs i = some v) : ∃ j, seqIndex? i xs.length = some j /\ xs[j]? = some v /\ j < xs.length /\ -(xs.length : Int) <= i /\ i < xs.length := by
 unfold Mx at h
 cases e : ju xs.length i with
 | none => rw [e] at h; cases h
 | some j =>
   rw [e] at h
   obtain ⟨h1, h2, h3, h4⟩ := xq e
   exact ⟨j, h1, h, h2, h3, h4⟩
noncomputable def xM (b : Expr) : Prop := ∀ o i, subscripted b false o i = operate [o, i] (getItem o i)
noncomputable def T4 (X : Cx) (r : R2) : Prop :=
 ∀ (value slice : Expr) (pins : List (Addr × Obj)) (s : Shared) (σ : St) (H : Hp) (x y : V) (v u : Value) (Q : VK), Inv X pins σ H s -> RelV x v -> RelV y u -> r x y H Q ->
   subscripted slice false v u = operate [v, u] (getItem v u) -> wpAny (model X.prog X.w) X.A (subscriptTail value slice v u) (EP X pins σ Q) X.xe s
noncomputable def Yj (X : Cx) (id : String) (r : V -> List V -> Hp -> VK -> Prop) : Prop :=
 ∀ (pins : List (Addr × Obj)) (s : Shared) (σ : St) (H : Hp) (x : V) (xs : List V) (v : Value) (us : List Value) (Q : VK), Inv X pins σ H s -> RelV x v -> Vals xs us -> r x xs H Q ->
   wpAny (model X.prog X.w) X.A (call (.builtin id) (v :: us)) (EP X pins σ Q) X.xe s
section
variable {X : Cx} {a b : Expr} {ta tb : TE} {pos : Pos}
theorem Pq {r : R2} (hr : T4 X r) (ha : PE X a ta) (hb : PE X b tb) (hs : xM b) : PE X (.Subscript a b pos) (MP r ta tb) := by
 intro pins s σ H Q I h
 exact Subscript_ (Jw ha hb I h fun v u s2 x y H2 I2 rx ry q => hr a b pins s2 σ H2 x y v u Q I2 rx ry q (hs _ _))
noncomputable def VM (K : PySem.W.Frag) : R2 := fun x y H Q => ∃ p xs i v, x = .ref p /\ y = .int i /\ fU K H p xs /\ Mx xs i = some v /\ Q v H
noncomputable def Uw (K : PySem.W.Frag) : R2 := fun x y H Q => ∃ p xs i v, x = .ref p /\ y = .int i /\ jr K H p xs /\ Mx xs i = some v /\ Q v H
theorem Fb : T4 X (VM X.K) := by
 intro value slice pins s σ H x y v u Q I rx ry h hs
 obtain ⟨p, xs, i, z, rfl, rfl, hq, he, q⟩ := h
 cases rx
 obtain ⟨t, rfl⟩ := ry
 obtain ⟨its, r, pl, hz⟩ := I.list hq
 obtain ⟨j, h1, h2, h3, h4, h5⟩ := wJ he
 obtain ⟨w, ew, Ri⟩ := r.get h2
 have hl := r.length
 have hn := qT
 have fin : EP X pins σ Q w s := ⟨z, H, I, Ri, q⟩
 by_cases h0 : 0 <= i
 . have hj : i.toNat = j := by
    rw [seqIndex_of h0 h5] at h1
    exact Option.some.inj h1
   exact item_listR pl.isList h0 (by omega) (by rw [hj]; simpa using ew) fin hs
 . have hj : (i + (its.toArray.size : Int)).toNat = j := by
    rw [seqIndex_neg (by omega) h4] at h1
    rw [List.size_toArray, <- hl]
    exact Option.some.inj h1
   exact subscriptTail_builtinR (x := w) pl.isList.typeIs slot_list_getitem.lookup
    (wpAny_getItem_list_neg (Q := fun r s' => r = w /\ EP X pins σ Q r s') pl.isList (by omega) (by rw [List.size_toArray] <;> omega) (by omega) (by rw [hj]; simpa using ew) ⟨rfl, fin⟩) hs
theorem J5 : T4 X (Uw X.K) := by
 intro value slice pins s σ H x y v u Q I rx ry h hs
 obtain ⟨p, xs, i, z, rfl, rfl, hq, he, q⟩ := h
 cases rx
 obtain ⟨t, rfl⟩ := ry
 obtain ⟨its, r, pl, hz⟩ := I.tuple hq
 obtain ⟨j, h1, h2, h3, h4, h5⟩ := wJ he
 obtain ⟨w, ew, Ri⟩ := r.get h2
 have hl := r.length
 have hn := qT
 have fin : EP X pins σ Q w s := ⟨z, H, I, Ri, q⟩
 exact subscriptTail_builtinR (x := w) pl.typeIs slot_tuple_getitem.lookup
  (getItem_tuple (j := j) (Q := fun r s' => r = w /\ EP X pins σ Q r s') pl (by omega) (by omega) (by rw [List.size_toArray, <- hl]; exact h1) (by simpa using ew) ⟨rfl, fin⟩) hs
theorem vB (its : List Value) (n j : Nat) (u : Value) : Obj.mapSeq (·.setIfInBounds j u) { cls := .type "list", data := .seq its.toArray n } = { cls := .type "list", data := .seq (its.set j u).toArray n } := by
 simp [Obj.mapSeq]
theorem Inv.lst {pins : List (Addr × Obj)} {σ : St} {H : Hp} {s : Shared} {p : Addr} {xs : List V} (I : Inv X pins σ H s) (h : H p = some (.lst xs)) :
 ∃ (its : List Value) (n : Nat), Vals xs its /\ s.heap.get? p = some { cls := .type "list", data := .seq its.toArray n } /\ xs.length <= sizeLine := by
 obtain ⟨z, its, n, r, e⟩ := I.hok p _ h
 exact ⟨its, n, r, e, z⟩
theorem Inv.KY {pins : List (Addr × Obj)} {σ : St} {H : Hp} {s : Shared} {p : Addr} {xs ys : List V} {its its' : List Value} {n n' : Nat} {f : Obj -> Obj} (I : Inv X pins σ H s) (h : H p = some (.lst xs))
 (ho : s.heap.get? p = some { cls := .type "list", data := .seq its.toArray n }) (hf : f { cls := .type "list", data := .seq its.toArray n } = { cls := .type "list", data := .seq its'.toArray n' }) (r : Vals ys its') (hz : ys.length <= sizeLine) (t : Nat) :
 Inv X pins σ (upd H p (.lst ys)) { s with heap := s.heap.update p f, toks := t } := by
 have e : (s.heap.update p f).get? p = some { cls := .type "list", data := .seq its'.toArray n' } := by
  rw [Heap.get?_update_self f ho (by rw [hf] <;> rfl), hf]
 refine I.write (x := p) (e := p) (by rw [h]; trivial) (.inl rfl) (fun b u hb q => (Heap.get?_update_other _ _ (Ne.symm hb)).trans q) ⟨_, e⟩ ?_
 exact ⟨hz, its', n', r, e⟩
noncomputable def Qm : V -> V -> V -> Hp -> (Hp -> Prop) -> Prop := fun o i v H Q => ∃ p xs k j, o = .ref p /\ i = .int k /\ H p = some (.lst xs) /\ ju xs.length k = some j /\ Q (upd H p (.lst (xs.set j v)))
theorem set_list : Qy X Qm := by
 intro pins s σ H o i v ov iv u Q I ro ri rv h
 obtain ⟨p, xs, k, j, rfl, rfl, hp, hj, q⟩ := h
 cases ro
 obtain ⟨t, rfl⟩ := ri
 obtain ⟨its, n, r, ho, hz⟩ := I.lst hp
 obtain ⟨h1, h2, h3, h4⟩ := xq hj
 have hl := r.length
 have hn := qT
 have I' : Inv X pins σ (upd H p (.lst (xs.set j v))) { s with heap := s.heap.update p (Obj.mapSeq (·.setIfInBounds j u)) } :=
  I.KY hp ho (vB its n j u) (r.set rv j) (by rw [List.length_set]; exact hz) s.toks
 by_cases h0 : 0 <= k
 . have hk : k.toNat = j := by
    rw [seqIndex_of h0 h4] at h1
    exact Option.some.inj h1
   exact PySem.W.ki_setAt ho h0 (by omega) (by rw [List.size_toArray, <- hl]; exact h4) (by rw [hk]; exact ⟨_, I', q⟩)
 . have hk : (k + (its.toArray.size : Int)).toNat = j := by
    rw [seqIndex_neg (by omega) h3] at h1
    rw [List.size_toArray, <- hl]
    exact Option.some.inj h1
   exact PySem.W.ki_setBack ho (by omega) (by rw [List.size_toArray, <- hl]; exact h3) (by omega) (by rw [hk]; exact ⟨_, I', q⟩)
theorem qY (lo hi : Option Int) (n : Nat) : (sliceBounds lo hi none n).1 = ((HT.cH n 0 lo : Nat) : Int) /\ (sliceBounds lo hi none n).2.1 = ((HT.cH n n hi : Nat) : Int) /\ (sliceBounds lo hi none n).2.2 = 1 := by
 refine ⟨?_, ?_, rfl⟩
 . cases lo with
   | none => simp [sliceBounds, HT.cH]
   | some i =>
     simp only [sliceBounds, HT.cH, Option.getD_none, show (1 : Int) > 0 by decide, if_true]
     by_cases h : i < 0
     . simp only [h, if_true] <;> omega
     . simp only [h, if_false] <;> omega
 . cases hi with
   | none => simp [sliceBounds, HT.cH]
   | some i =>
     simp only [sliceBounds, HT.cH, Option.getD_none, show (1 : Int) > 0 by decide, if_true]
     by_cases h : i < 0
     . simp only [h, if_true] <;> omega
     . simp only [h, if_false] <;> omega
theorem o6 (its : List Value) (lo hi : Option Int) : slicePick its.toArray lo hi none = ((its.drop (HT.cH its.length 0 lo)).take (HT.cH its.length its.length hi - HT.cH its.length 0 lo)).toArray := by
 obtain ⟨h1, h2, h3⟩ := qY lo hi its.toArray.size
 unfold slicePick
 rw [h1, h2, h3]
 simp only [sliceRange_one, pick_run, List.size_toArray] <;> rfl
noncomputable def Uv (K : PySem.W.Frag) : V -> Option Int -> Option Int -> Hp -> VK -> Prop := fun x lo hi H Q => ∃ a xs, x = .ref a /\ fU K H a xs /\ ∀ p, H p = none -> Q (.ref p) (upd H p (.lst (sG xs lo hi)))
theorem CN : RN X (Uv X.K) := by
 intro pins s σ H x v vl vu lo hi sl Q I rx hs pl pu h
 obtain ⟨a, xs, rfl, hx, q⟩ := h
 cases rx
 obtain ⟨its, r, ht, hz⟩ := I.list hx
 have hlen := r.length
 refine ⟨"list", _, slot_list_getitem.lookup, ht.isList.typeIs, ?_⟩
 refine wpAny_getItem_list_slice ht.isList hs pl pu .none (by simp) ?_ (by rw [List.size_toArray] <;> omega)
 rw [o6, <- hlen]
 refine ⟨.ref s.heap.objs.size, _, I.laid (t' := s.toks) (o := .lst (sG xs lo hi)) (fun b ob q => Heap.get?_push_of_some _ q) (Nat.le_refl _) ?_, rfl, q _ (I.hok.fresh (Nat.le_refl _))⟩
 exact ⟨Nat.le_trans (lL xs lo hi) hz, _, 0, (r.drop (HT.cH xs.length 0 lo)).take (HT.cH xs.length xs.length hi - HT.cH xs.length 0 lo), Heap.get?_push_size _ rfl⟩
theorem qW : cR X (.builtin "len") (fun xs H Q => ∃ p ys, xs = [.ref p] /\ (fU X.K H p ys \/ jr X.K H p ys) /\ Q (.int ys.length) H) := by
 intro pins s σ H xs us Q I r h
 obtain ⟨p, ys, rfl, hq, q⟩ := h
 obtain ⟨u, rfl, rx⟩ := vals1 r
 cases rx
 have hn := qT
 rcases hq with hq | hq
 . obtain ⟨its, r', pl, hz⟩ := I.list hq
   have hlen := r'.length
   exact Calls.call_len_list pl.isList (by simp only [List.size_toArray] <;> omega) ⟨.int ys.length, H, I.tok _, ⟨s.toks + 1, by rw [List.size_toArray, hlen]⟩, q⟩
 . obtain ⟨its, r', pl, hz⟩ := I.tuple hq
   have hlen := r'.length
   exact len_tuple pl (by simp only [List.size_toArray] <;> omega) ⟨.int ys.length, H, I.tok _, ⟨s.toks + 1, by rw [List.size_toArray, hlen]⟩, q⟩
theorem rA : cR X (.type "list") (fun xs H Q => ∃ p ys, xs = [.ref p] /\ (fU X.K H p ys \/ jr X.K H p ys) /\ ∀ l, H l = none -> Q (.ref l) (upd H l (.lst ys))) := by
 intro pins s σ H xs us Q I r h
 obtain ⟨p, ys, rfl, hq, q⟩ := h
 obtain ⟨u, rfl, rx⟩ := vals1 r
 cases rx
 have fin : ∀ (its : List Value), Vals ys its -> ys.length <= sizeLine -> ∀ (h' : Heap) (c' : Nat), (∀ b o', s.heap.get? b = some o' -> h'.get? b = some o') ->
  h'.get? s.heap.objs.size = some { cls := .type "list", dict := none, data := .seq its.toArray c', slots := #[] } -> EP X pins σ Q (.ref s.heap.objs.size) { s with heap := h' } := fun its r' hz h' c' kp e =>
  ⟨.ref s.heap.objs.size, _, I.laid (t' := s.toks) kp (Nat.le_refl _) (show di X.prog X.w _ h' _ (.lst ys) from ⟨hz, its, c', r', e⟩), rfl, q _ (I.hok.fresh (Nat.le_refl _))⟩
 rcases hq with hq | hq
 . obtain ⟨its, r', pl, hz⟩ := I.list hq
   have hlen := r'.length
   obtain ⟨o, ho, hc, n, hd⟩ := pl.isList
   exact call_list_seq p (.inl rfl) ho hc hd (fun h' c' kp e => fin its r' hz h' c' kp e) (by simp only [List.size_toArray] <;> omega)
 . obtain ⟨its, r', pl, hz⟩ := I.tuple hq
   have hlen := r'.length
   obtain ⟨o, ho, hc, n, hd⟩ := pl
   exact call_list_seq p (.inr rfl) ho hc hd (fun h' c' kp e => fin its r' hz h' c' kp e) (by simp only [List.size_toArray] <;> omega)
theorem iY : cR X (.type "tuple") (fun xs H Q => ∃ p ys, xs = [.ref p] /\ ((fU X.K H p ys /\ ∀ l, H l = none -> Q (.ref l) (upd H l (.tup ys))) \/ (jr X.K H p ys /\ Q (.ref p) H))) := by
 intro pins s σ H xs us Q I r h
 obtain ⟨p, ys, rfl, h⟩ := h
 obtain ⟨u, rfl, rx⟩ := vals1 r
 cases rx
 rcases h with ⟨hq, q⟩ | ⟨hq, q⟩
 . obtain ⟨its, r', pl, hz⟩ := I.list hq
   have hlen := r'.length
   refine call_tuple_list pl.isList (fun h' kp => ?_) (by simp only [List.size_toArray] <;> omega)
   have I1 : Inv X pins σ H { s with heap := h' } := I.kept (t' := s.toks) kp
   have I2 : Inv X pins σ (upd H h'.objs.size (.tup ys)) { s with heap := h'.push { cls := .type "tuple", data := .seq its.toArray } } :=
    I1.laid (t' := s.toks) (fun b o e => Heap.get?_push_of_some _ e) (Nat.le_refl _) (show di X.prog X.w _ _ _ (.tup ys) from ⟨hz, its, r', IsTup.new _ _⟩)
   exact ⟨.ref h'.objs.size, _, I2, rfl, q _ (I1.hok.fresh (Nat.le_refl _))⟩
 . obtain ⟨its, r', pl, hz⟩ := I.tuple hq
   exact call_tuple_same pl ⟨.ref p, H, I, rfl, q⟩
noncomputable def X8 (K : PySem.W.Frag) (T : String) (x : V) (H : Hp) : Prop := match x with
 | .str _ => T = "str"
 | .int _ => T = "int"
 | .ref p => (T = "list" /\ ∃ xs, fU K H p xs) \/ (T = "tuple" /\ ∃ o, K.lookup p = some o /\ o.cls = .type "tuple" /\ o.dict = none) \/
  (T = "dict" /\ ((∃ kvs, H p = some (.dK kvs)) \/ ∃ kvs, H p = some (.dT kvs))) \/ (T = "set" /\ ∃ S n, H p = some (.set S n))
 | _ => False
theorem Ij {pins : List (Addr × Obj)} {σ : St} {H : Hp} {s : Shared} {T : String} {x : V} {v : Value} (I : Inv X pins σ H s) (r : RelV x v) (ty : X8 X.K T x H) :
 s.TypeIs v T /\ ∀ a, v = .ref a -> ∃ ob, s.heap.get? a = some ob /\ ob.dict = none := by
 cases x with
 | str z =>
   obtain ⟨t, rfl⟩ := r
   cases (show T = "str" from ty)
   exact ⟨typeIs_str s z t, fun _ e => nomatch e⟩
 | int i =>
   obtain ⟨t, rfl⟩ := r
   cases (show T = "int" from ty)
   exact ⟨typeIs_int s i t, fun _ e => nomatch e⟩
 | ref p =>
   cases r
   rcases ty with ⟨rfl, xs, hq⟩ | ⟨rfl, o, hk, hc, hd⟩ | ⟨rfl, hk⟩ | ⟨rfl, S, n, hk⟩
   . obtain ⟨its, _, pl, _⟩ := I.list hq
     refine ⟨pl.isList.typeIs, fun a e => ?_⟩
     cases e
     obtain ⟨o, n, e, c, hd, _⟩ := pl
     exact ⟨o, e, hd⟩
   . refine ⟨⟨o, I.Ir p o hk, hc⟩, fun a e => ?_⟩
     cases e
     exact ⟨o, I.Ir _ o hk, hd⟩
   . have z : ∃ o, s.heap.get? p = some o /\ o.ExactDict := by
      rcases hk with ⟨kvs, hk⟩ | ⟨kvs, hk⟩
      . obtain ⟨_, _, _, _, o, _, _, e, ex, _⟩ := I.hok p _ hk
        exact ⟨o, e, ex⟩
      . obtain ⟨_, _, _, _, o, _, _, e, ex, _⟩ := I.hok p _ hk
        exact ⟨o, e, ex⟩
     obtain ⟨o, e, ex⟩ := z
     refine ⟨⟨o, e, ex.1⟩, fun a e2 => ?_⟩
     cases e2
     exact ⟨o, e, ex.2.1⟩
   . obtain ⟨o, _, _, _, e, ex, _⟩ := I.hok p _ hk
     refine ⟨⟨o, e, ex.1⟩, fun a e2 => ?_⟩
     cases e2
     exact ⟨o, e, ex.2.1⟩
 | _ => exact False.elim ty
noncomputable def tBM (K : PySem.W.Frag) (T : String) (r : V -> List V -> Hp -> VK -> Prop) (to : TE) (t : TA) : TE := fun σ H Q => to σ H fun x H1 => X8 K T x H1 /\ t σ H1 fun xs H2 => r x xs H2 Q
variable {o e : Expr} {es : List Expr} {to : TE} {t : TA} {name : Str} {apos cpos : Pos} {T id : String} {r : V -> List V -> Hp -> VK -> Prop}
theorem Ha (pa : PlainAttrs T) (slot : Slot T name id) (hty : typeOf (.builtin id) = pure (.type "method_descriptor")) (hm : Yj X id r) (ho : PE X o to) (ha : PA X (e :: es) t)
 (hbase : attributeBase o name X.env (eval o X.env) = eval o X.env := by rfl)
 (hfew : ((backTo cpos (starEach (e :: es) X.env)).all (fun x => !x.1) && (backToKw cpos (keywordEach [] X.env)).all (fun x => x.1.isSome)
  && decide ((e :: es).length + ([] : List Keyword).length + (if ([] : List Keyword).isEmpty then 0 else 1) < 30)) = true := by rfl)
 (hline : (apos.endLine == cpos.line) = true := by rfl) (hs : starEach (e :: es) X.env = (false, eval e X.env) :: starEach es X.env := by rfl) (hplain : (backTo cpos (starEach es X.env)).any (·.1) = false := by rfl) :
 PE X (.Call (.Attribute o name apos) (e :: es) [] cpos) (tBM X.K T r to t) := by
 intro pins s σ H Q I h
 refine wpAny_Call_method_late hbase hfew hline rfl (dN (ho pins s σ H _ I h) fun v s1 ⟨x, H1, I1, r1, ty, q1⟩ => ?_)
 obtain ⟨h1, h2⟩ := Ij I1 r1 ty
 refine ⟨T, id, pa, slot, hty, h1, h2, ?_⟩
 have hA := ha cpos pins s1 σ H1 _ I1 q1
 rw [hs] at hA ⊢
 refine Calls.callWith_builtin (by show (false || (backTo cpos (starEach es X.env)).any (·.1)) = false; rw [hplain] <;> rfl) (Calls.evalArgs_plain ?_)
 exact dN hA fun us s2 ⟨vs, H2, I2, r2, q2⟩ => hm pins s2 σ H2 x vs v us Q I2 r1 r2 q2
/- xs.append(e), list.index on a module's tuple .. are Yj facts of 06m -/
end
end L2
namespace L2
open PySem PySem.Spec PyProof.Rows
noncomputable def YH (X : Cx) (id : String) (r : V -> List V -> Hp -> VK -> Prop) : Prop :=
 ∀ (pins : List (Addr × Obj)) (s : Shared) (σ : St) (H : Hp) (x : V) (xs : List V) (v : Value) (us : List Value) (Q : VK), Inv X pins σ H s -> RelV x v -> Vals xs us -> r x xs H Q ->
   wpAny (model X.prog X.w) X.A (call (.builtin id) (v :: us)) (EP X pins σ Q) X.xe s
theorem Vals.one : ∀ {x : V} {us : List Value}, Vals [x] us -> ∃ u, us = [u] /\ RelV x u
 | _, _, .cons r .nil => ⟨_, rfl, r⟩
theorem Vals.two : ∀ {x y : V} {us : List Value}, Vals [x, y] us -> ∃ u v, us = [u, v] /\ RelV x u /\ RelV y v
 | _, _, _, .cons r (.cons q .nil) => ⟨_, _, rfl, r, q⟩
theorem Vals.zero : ∀ {us : List Value}, Vals [] us -> us = []
 | _, .nil => rfl
theorem Vals.rep {xs : List V} {us : List Value} (h : Vals xs us) : ∀ k : Nat, Vals (List.replicate k xs).flatten (List.replicate k us).flatten
 | 0 => .nil
 | k + 1 => by
   rw [List.replicate_succ, List.replicate_succ, List.flatten_cons, List.flatten_cons]
   exact Vals.append h (Vals.rep h k)
theorem foldl_rep (its : List Value) : ∀ (k : Nat) (acc : List Value),
 List.foldl (fun x1 x2 => x1 ++ x2) acc.toArray (List.replicate k its.toArray) = (acc ++ (List.replicate k its).flatten).toArray
 | 0, acc => by simp
 | k + 1, acc => by
   have e : acc.toArray ++ its.toArray = (acc ++ its).toArray := by simp
   have e2 : (acc ++ its) ++ (List.replicate k its).flatten = acc ++ (List.replicate (k + 1) its).flatten := by
    rw [List.replicate_succ, List.flatten_cons, List.append_assoc]
   rw [<- e2, <- foldl_rep its k (acc ++ its), <- e, List.replicate_succ, List.foldl_cons]
section
variable {X : Cx} {pins : List (Addr × Obj)} {σ : St} {H : Hp} {s : Shared} {l b : Addr} {xs ys zs : List V}
theorem Inv.Rb {its its' : List Value} {n : Nat} {f : Array Value -> Array Value} {t' : Nat} (I : Inv X pins σ H s) (hH : H l = some (.lst xs))
 (e : s.heap.get? l = some { cls := .type "list", data := .seq its.toArray n }) (hf : f its.toArray = its'.toArray) (hv : Vals ys its') (hz : ys.length <= sizeLine) :
 Inv X pins σ (upd H l (.lst ys)) { s with heap := s.heap.update l (Obj.mapSeq f), toks := t' } := by
 have q := PySem.IsL.update e f
 rw [hf] at q
 refine I.write (x := l) (e := l) (by rw [hH]; exact trivial) (.inl rfl) (fun b' u hb hu => (Heap.get?_update_other s.heap (Obj.mapSeq f) (Ne.symm hb)).trans hu) ⟨_, q⟩ ?_
 exact ⟨hz, its', _, hv, q⟩
theorem Inv.Kf {its : List Value} {t' : Nat} (I : Inv X pins σ H s) (hv : Vals ys its) (hz : ys.length <= sizeLine) :
 Inv X pins σ (upd H s.heap.objs.size (.lst ys)) { s with heap := s.heap.push { cls := .type "list", data := .seq its.toArray }, toks := t' } :=
 I.laid (fun _ _ q => Heap.get?_push_of_some _ q) (Nat.le_refl _) ⟨hz, its, 0, hv, Heap.get?_push_size _ rfl⟩
theorem Inv.fresh (I : Inv X pins σ H s) : H s.heap.objs.size = none := I.hok.fresh (Nat.le_refl _)
theorem Inv.Jo (I : Inv X pins σ H s) (hH : H l = some (.lst xs)) : xs.length <= sizeLine /\ ∃ (its : List Value) (n : Nat), Vals xs its /\ xs.length = its.length /\ s.heap.get? l = some { cls := .type "list", data := .seq its.toArray n } := by
 obtain ⟨z, its, n, r, e⟩ := I.hok l _ hH
 exact ⟨z, its, n, r, r.length, e⟩
theorem uC {n : Nat} (h : n <= sizeLine) : Builtin.List.listTooLong n = false := by
 unfold Builtin.List.listTooLong
 exact decide_eq_false (by omega)
end
section
variable {X : Cx}
noncomputable def Cw : V -> List V -> Hp -> VK -> Prop := fun x vs H Q => ∃ l xs y, x = .ref l /\ vs = [y] /\ H l = some (.lst xs) /\ xs.length < sizeLine /\ Q .non (upd H l (.lst (xs ++ [y])))
theorem pD : YH X "list.append" Cw := by
 intro pins s σ H x vs v us Q I rx rv h
 obtain ⟨l, xs, y, rfl, rfl, hH, hz, q⟩ := h
 cases rx
 obtain ⟨u, rfl, ru⟩ := rv.one
 obtain ⟨z, its, n, r, hl, e⟩ := I.Jo hH
 refine call_meets F.slot_list_append ⟨_, e, rfl⟩ F.entry_list_append (F.args_list_append_2 _ _) (PySem.list_append l its.toArray n u (by rw [List.size_toArray]; omega)) ⟨e, ?_⟩
 refine ⟨.non, _, I.Rb (its' := its ++ [u]) hH e (by simp) (r.append (.cons ru .nil)) ?_, rfl, q⟩
 rw [List.length_append, List.length_singleton]
 omega
noncomputable def Di : V -> List V -> Hp -> VK -> Prop := fun x vs H Q => ∃ l b xs zs, x = .ref l /\ vs = [.ref b] /\ H l = some (.lst xs) /\ H b = some (.lst zs) /\ xs.length + zs.length <= sizeLine /\ Q .non (upd H l (.lst (xs ++ zs)))
theorem yc : YH X "list.extend" Di := by
 intro pins s σ H x vs v us Q I rx rv h
 obtain ⟨l, b, xs, zs, rfl, rfl, hH, hB, hz, q⟩ := h
 cases rx
 obtain ⟨u, rfl, ru⟩ := rv.one
 cases ru
 obtain ⟨z, its, n, r, hl, e⟩ := I.Jo hH
 obtain ⟨z2, its2, n2, r2, hl2, e2⟩ := I.Jo hB
 have hsz : its.toArray.size + its2.toArray.size <= sizeLine := by rw [List.size_toArray, List.size_toArray]; omega
 have Rm : ¬ (!its.toArray.isEmpty && Builtin.List.listTooLong (its.toArray.size + its2.toArray.size)) = true := by
  rw [uC hsz, Bool.and_false]
  exact Bool.false_ne_true
 refine call_meets F.slot_list_extend ⟨_, e, rfl⟩ F.entry_list_extend (F.args_list_extend_2 _ _)
  (AutoSeq1.list_extend_list_list_0 l its.toArray n b its2.toArray n2 Rm (by rw [List.size_toArray]; omega) (by omega)) ⟨e, e2, ?_⟩
 refine ⟨.non, _, I.Rb (its' := its ++ its2) hH e (by simp) (r.append r2) ?_, rfl, q⟩
 rw [List.length_append]
 omega
theorem len_rep {α : Type} (xs : List α) (k : Nat) : (List.replicate k xs).flatten.length = k * xs.length := by
 induction k with
 | zero => simp
 | succ k ih => rw [List.replicate_succ, List.flatten_cons, List.length_append, ih, Nat.succ_mul, Nat.add_comm]
end
end L2
namespace Zc
open PySem PySem.W PySem.Calls PyProof.Rows
theorem lV {P : Params} {h : Heap} : ∀ (ns : List Int) (vs : List Value), WellAll P h vs (ns.map WData.int) -> IntsAre vs ns := by
 intro ns
 induction ns with
 | nil =>
   intro vs w
   rw [List.map_nil] at w
   cases w
   exact .nil
 | cons n ns ih =>
   intro vs w
   rw [List.map_cons] at w
   cases w with
   | cons a b =>
     cases a
     exact .cons _ _ (ih _ b)
theorem xW {l : OpenLaw} {n : Nat} (hn : l.most = some n) {P : Params} {h : Heap} {args : List WData} {vals : List Value}
 (hpre : l.row.toRowW.claim.pre args = true) (hwl : WellAll P h vals args) :
 ∃ a vs ns, vals = [Value.ref a] /\ args = [WData.list (ns.map WData.int)] /\ h.get? a = some { cls := .type "list", data := .seq vs.toArray } /\ IntsAre vs ns /\ ns.length <= n := by
 have hsh : WShape.hasAll [] args [.list .int] = true := (pre_splitW hpre).1
 have hc : l.pre.holds [] { args := args } = true := (pre_splitW hpre).2
 obtain ⟨d, r, rfl, h1, h2⟩ := hasAllW_cons hsh
 obtain rfl := hasAllW_nil h2
 obtain ⟨xs, rfl, h3⟩ := hasW_list h1
 obtain ⟨ns, rfl⟩ := items_int h3
 have hlen : ns.length <= n := by
  unfold OpenLaw.pre at hc
  have h4 : (WTm.not (.lt (.lit (.int (n : Int))) (.len (.arg 0)))).holds [] { args := [.list (ns.map .int)] } = true := by
   have h4 := (holds_andW hc).1
   rw [hn] at h4
   exact h4
  have h5 := condW_of h4 (w_not (w_lt w_lit (w_len_list (w_arg rfl))))
  rw [List.length_map] at h5
  refine Nat.le_of_not_lt fun q => ?_
  have q' : (n : Int) < ((ns.length : Nat) : Int) := by omega
  first
   | (rw [decide_eq_true q'] at h5; exact absurd h5 (by decide))
   | (simp at h5; omega)
 cases hwl with
 | cons w1 w2 =>
   cases w2
   cases w1 with
   | list ho hall => exact ⟨_, _, ns, rfl, rfl, ho, lV ns _ hall, hlen⟩
theorem yK (l : OpenLaw) (args : List WData) : l.row.toRowW.claim.post args (.bool true) args = true :=
 postW_of (r := l.row.toRowW) (X := (true == true))
  (show WShape.has [] (.bool true) .bool = true by first | rfl | decide | simp [WShape.has, WShape.arms, WShape.armsAll])
  (show (WTm.eq .res (.lit (.bool true))).value [] { args := args, res := some (.bool true), after := args } = some (.bool (true == true)) from w_eq_bool (w_res rfl) w_lit) rfl
theorem sH {l : OpenLaw} {n : Nat} {q : Program} {loose : List Str} {XP : (Str -> Option Value) -> Heap -> Prop} {YP : World -> Heap -> Prop} {d : DefRec}
 (hn : l.most = some n) (hdf : d.params.defaults = [])
 (call : ∀ (w : World) (s₀ s₁ : Shared) (mg mb : Str -> Option Value) (fa : Addr) (o : Obj) (pm cd doc : Value) (a : Addr) (vs : List Value) (ns : List Int),
  Ground q loose [] XP w s₀ mg mb s₁.heap -> YP w s₁.heap ->
  s₁.heap.get? fa = some o -> o.data = .func (docDef d.name d.params d.body d.scope pm cd doc) -> s₁.heap.CodeRec cd d.name -> mg d.name = some (.ref fa) ->
  s₁.heap.get? a = some { cls := .type "list", data := .seq vs.toArray } -> IntsAre vs ns -> ns.length <= n -> s₁.gens = #[] ->
  codeAny (model l.prog w) callerA (.call (.ref fa) ⟨[.ref a], []⟩) (fun r s' => r = .ok (.ret (.bool true)) /\ OldK s₁.heap s'.heap /\ s'.os = s₁.os /\ AllBare s'.gens) s₁) :
 WalkO q loose XP YP l.row.toRowW d [] (fun f vs => PySem.call f vs) := by
 intro w s₀ s₁ mg mb G Y fa o pm cd doc dV kV ho hd hcd hD hmg hg args vals as hpre hlay hrd hwl hlo
 obtain rfl : dV = .none := Dflts.none hD hdf
 obtain rfl : kV = .none := Dflts.noKw hD
 obtain ⟨a, vs, ns, rfl, rfl, hobj, hints, hlen⟩ := xW hn hpre hwl
 refine enter_call (codeAny_mono (call w s₀ s₁ mg mb fa o pm cd doc a vs ns G Y ho (fd_plain hd) hcd hmg hobj hints hlen hg) fun r s' hq => ?_)
 obtain ⟨rfl, h2, h3, h4⟩ := hq
 exact ⟨.inl ⟨.bool true, .bool true, [], rfl, fun _ => rfl, .bool true, yK l _, fun _ => ⟨List.Pairwise.nil, fun _ hm => (nomatch hm)⟩⟩, h2, h3, h4⟩
end Zc
namespace L2
open PySem PySem.Spec PyProof.Rows
theorem pA : ∀ {vs : List Value} {ns : List Int}, IntsAre vs ns -> Vals (ns.map V.int) vs
 | _, _, .nil => .nil
 | _, _, .cons n t h => .cons ⟨t, rfl⟩ (pA h)
noncomputable def Only (H : Hp) : Prop := ∀ b, H b = none \/ ∃ o xs, H b = some (.jc o (.lst xs))
theorem zf {P : Program} {w : World} {K : PySem.W.Frag} {mg mb : Str -> Option Value} {CX : zL} {k : Nat} {fa a : Addr} {fd : FuncData} {x : Str} {sp : Sp} {s₁ : Shared} {vs : List Value} {ns : List Int}
 (KX : K.In s₁.heap) (hns : s₁.heap.Ns mainGlobals mg) (hb : s₁.heap.Ns builtinsNs mb) (hbb : ∀ x : Str, x ≠ "__name__" -> mb x = bootBuiltins x) (hlim : s₁.heap.NoLimit) (hg : s₁.gens = #[])
 (ha : s₁.heap.get? a = some { cls := .type "list", data := .seq vs.toArray }) (hi : IntsAre vs ns) (hl : ns.length <= sizeLine) (hr : ie k callerA)
 (F : ∀ base : Heap, K.In base -> base.Ns mainGlobals mg -> cF P w K mg base CX k fa fd [x] sp) (hbind : ∀ (s : Shared) (u : Value), BindsTo s fd ⟨[u], []⟩ [(x, u)])
 (hsp : ∀ H : Hp, Only H -> fU K H a (ns.map V.int) -> sp [.ref a] H (fun v _ => v = .bl true) fun _ _ _ => False)
 (Ro : ∀ H e s', CX [] H s₁ (fun _ _ _ => False) e s' -> False) :
 codeAny (model P w) callerA (.call (.ref fa) ⟨[.ref a], []⟩) (fun r s' => r = .ok (.ret (.bool true)) /\ OldK s₁.heap s'.heap /\ s'.os = s₁.os /\ AllBare s'.gens) s₁ := by
 have rv := pA hi
 have lenV := hi.length
 -- from an abstract heap in which nothing but the script may be tracked
 have core : ∀ H : Hp, Only H -> fU K H a (ns.map V.int) -> oW P w H s₁.heap -> (∀ b, H b ≠ none -> b = a) -> (H a ≠ none -> K.lookup a = none) ->
  codeAny (model P w) callerA (.call (.ref fa) ⟨[.ref a], []⟩) (fun r s' => r = .ok (.ret (.bool true)) /\ OldK s₁.heap s'.heap /\ s'.os = s₁.os /\ AllBare s'.gens) s₁ := by
  intro H hO hS hok hA hK
  have xP : ∀ {b : Addr} {o : Obj}, s₁.heap.get? b = some o -> H b = none -> (qQ s₁.heap H).get? b = some o := fun e n => zQ e n
  have Rj : ∀ {b : Addr} {o : Obj} {es : Array DictEntry} {ep : Nat}, s₁.heap.get? b = some o -> o.data = .dict es ep -> H b = none := fun {b o es ep} e d => by
   cases q : H b with
   | none => rfl
   | some u =>
     have e' : b = a := hA b (by rw [q]; simp)
     subst e'
     rw [ha] at e; cases e
     have d' : Data.seq vs.toArray _ = Data.dict es ep := d
     cases d'
  have T8 : ∀ {b : Addr} {m : Str -> Option Value}, s₁.heap.Ns b m -> (qQ s₁.heap H).Ns b m := fun {b m} ⟨o, es, ep, e, d, r⟩ => ⟨o, es, ep, xP e (Rj e d), d, r⟩
  have Zd : K.In (qQ s₁.heap H) := fun b o e => xP (KX b o e) (by
   cases q : H b with
   | none => rfl
   | some u =>
     have e' : b = a := hA b (by rw [q]; simp)
     subst e'
     rw [hK (by rw [q]; simp)] at e; cases e)
  have hM : Mod K mg (qQ s₁.heap H) := ⟨Zd, T8 hns, ⟨mb, T8 hb, hbb⟩, let ⟨mc, h1, h2⟩ := hlim; ⟨mc, T8 h1, h2⟩⟩
  have e0 : Cq P w K mg (qQ s₁.heap H) callerA [] s₁ H := ⟨rfl, hM, fun b o e => EY e, Nat.le_of_eq (yE _ _), trivial, fun b hb => absurd (show b ∈ ([] : List Addr) from hb) (by simp), hok, .of_eq hg⟩
  refine codeAny_mono ((F _ Zd (T8 hns)).run callerA [] s₁ H ⟨[.ref a], []⟩ [.ref a] [.ref a] _ _ hr e0 (hbind s₁ (.ref a)) (.cons rfl .nil) (hsp H hO hS)) fun r s' h => ?_
  cases r with
  | error e => exact (Ro H e s' h).elim
  | ok fl =>
    cases fl with
    | next => exact False.elim h
    | brk => exact False.elim h
    | cont => exact False.elim h
    | ret u =>
      obtain ⟨v, H', os, bare, un, hok', r', q⟩ := h
      have q' : v = .bl true := q
      subst q'
      obtain rfl : u = Value.bool true := r'
      refine ⟨rfl, OldK.of_keep fun b o e => ?_, os, bare⟩
      cases q : H b with
      | none => exact un.keep b o e q (by intro z; exact absurd (show b ∈ ([] : List Addr) from z) (by simp)) (by simp)
      | some u =>
        rcases hO b with z | ⟨ob, xs, z⟩
        . rw [q] at z; cases z
        . have z2 := un.rG b ob _ z
          obtain ⟨e1, _⟩ := hok b _ z
          obtain ⟨e2, _⟩ := hok' b _ z2
          rw [e] at e1; cases e1
          exact e2
 cases hk : K.lookup a with
 | some o =>
   -- the script is one of the module's own objects
   have e := KX a o hk
   rw [ha] at e
   cases e
   refine core (fun _ => none) (fun _ => .inl rfl) (.inr ⟨_, vs.toArray, _, hk, rfl, rfl, rfl, by rw [List.size_toArray, lenV]; exact hl, by simpa using rv⟩) (fun b u z => by have z' : (none : Option HO) = some u := z; cases z') (fun b z => absurd rfl z) fun z => absurd rfl z
 | none =>
   refine core (fun b => if b = a then some (.jc { cls := .type "list", data := .seq vs.toArray } (.lst (ns.map V.int))) else none) (fun b => ?_) (.inl (.inr ⟨{ cls := .type "list", data := .seq vs.toArray }, if_pos rfl⟩)) (fun b u z => ?_) (fun b z => ?_) fun _ => hk
   . by_cases hb : b = a
     . exact .inr ⟨_, _, if_pos hb⟩
     . exact .inl (if_neg hb)
   . by_cases hb : b = a
     . have z' := (if_pos hb).symm.trans z
       cases z'
       subst hb
       exact ⟨ha, by rw [List.length_map]; exact hl, vs, _, rv, ha⟩
     . have z' := (if_neg hb).symm.trans z
       cases z'
   . by_cases hb : b = a
     . exact hb
     . exact absurd (if_neg hb) z
end L2
namespace L2
open PySem PySem.Spec PyProof.Rows
theorem CV {l : PySem.W.OpenLaw} {n k : Nat} {q : Program} {loose : List Str} {XP : (Str -> Option Value) -> Heap -> Prop} {YP : World -> Heap -> Prop} {d : DefRec} {K : Params -> PySem.W.Frag} {CX : World -> zL} {sp : World -> Sp} {x : Str}
 (hn : l.most = some n) (hn2 : n <= sizeLine) (hdf : d.params.defaults = []) (hr : ie k callerA)
 (hY : ∀ (w : World) (h : Heap), YP w h -> (K w.params).In h)
 (F : ∀ (w : World) (mg : Str -> Option Value) (fa : Addr) (h : Heap), (K w.params).In h -> h.Ns mainGlobals mg -> mg d.name = some (.ref fa) ->
  ∃ fd : FuncData, (∀ (s : Shared) (u : Value), BindsTo s fd ⟨[u], []⟩ [(x, u)]) /\
    ∀ base : Heap, (K w.params).In base -> base.Ns mainGlobals mg -> cF l.prog w (K w.params) mg base (CX w) k fa fd [x] (sp w))
 (hsp : ∀ (w : World) (H : Hp) (a : Addr) (ns : List Int), ns.length <= n -> Only H -> fU (K w.params) H a (ns.map V.int) -> sp w [.ref a] H (fun v _ => v = .bl true) fun _ _ _ => False)
 (Ro : ∀ (w : World) (H : Hp) (s : Shared) (e : Value) (s' : Shared), CX w [] H s (fun _ _ _ => False) e s' -> False) :
 PySem.W.WalkO q loose XP YP l.row.toRowW d [] (fun f vs => PySem.call f vs) := by
 refine Zc.sH hn hdf fun w s₀ s₁ mg mb fa o pm cd doc a vs ns G Y ho hd hcd hmg hobj hints hlen hg => ?_
 have KX := hY w _ Y
 obtain ⟨fd, hb, hF⟩ := F w mg fa _ KX G.T.g hmg
 exact zf KX G.T.g G.T.b G.T.builtins G.T.nolimit hg hobj hints (Nat.le_trans hlen hn2) hr hF hb (fun H hO hS => hsp w H a ns hlen hO hS) fun H e s' => Ro w H s₁ e s'
theorem Ai {l : PySem.W.OpenLaw} {n k : Nat} {q : Program} {loose : List Str} {XP : (Str -> Option Value) -> Heap -> Prop} {YP : World -> Heap -> Prop} {d : DefRec} {K : Params -> PySem.W.Frag} {CX : zL} {sp : PySem.W.Frag -> Sp} {x : Str}
 (hn : l.most = some n) (hn2 : n <= sizeLine) (hdf : d.params.defaults = []) (hr : ie k callerA)
 (hY : ∀ (w : World) (h : Heap), YP w h -> (K w.params).In h)
 (F : ∀ (w : World) (mg : Str -> Option Value) (fa : Addr) (h : Heap), (K w.params).In h -> h.Ns mainGlobals mg -> mg d.name = some (.ref fa) ->
  ∃ fd : FuncData, (∀ (s : Shared) (u : Value), BindsTo s fd ⟨[u], []⟩ [(x, u)]) /\
    ∀ base : Heap, (K w.params).In base -> base.Ns mainGlobals mg -> cF l.prog w (K w.params) mg base CX k fa fd [x] (sp (K w.params)))
 (hsp : ∀ (K : PySem.W.Frag) (H : Hp) (a : Addr) (ns : List Int), ns.length <= n -> Only H -> fU K H a (ns.map V.int) -> sp K [.ref a] H (fun v _ => v = .bl true) fun _ _ _ => False)
 (Ro : ∀ (H : Hp) (s : Shared) (e : Value) (s' : Shared), CX [] H s (fun _ _ _ => False) e s' -> False) :
 PySem.W.WalkO q loose XP YP l.row.toRowW d [] (fun f vs => PySem.call f vs) :=
 CV (K := K) (CX := fun _ => CX) (sp := fun w => sp (K w.params)) hn hn2 hdf hr hY F (fun w H a ns h1 h2 h3 => hsp (K w.params) H a ns h1 h2 h3) fun _ H s e s' => Ro H s e s'
end L2
/- THE LAST THEOREM (shape; LID, My.* are Ze):
   My.Adr: a structure of the addresses that your layer names (classes, functions); My.Txt K t: a structure (Prop) of the equations over K;
   My.Xe : {K} {implicit addresses ..} (e1 : nsIn K mainGlobals "law" = some (some (.ref f))) (e2 : K.lookup f = some ⟨oc, od, .func (fnOf "law" "law" params body scope dV kV doc pm an cdv ct), sl⟩) (e3 : codeIn K cdv "law" = true) .. : ∃ t, My.Txt K t
set_option maxRecDepth 100000 in
set_option maxHeartbeats 0 in
(the tactic k_is has no namespace: write k_is) -/
namespace L2
open PySem PySem.Spec PyProof.Rows
noncomputable def gM (s : Stmt) : Arguments := match s with
 | .FunctionDef _ a _ _ _ _ _ _ _ _ => a
 | _ => { posonlyargs := [], args := [], vararg := none, kwonlyargs := [], kw_defaults := [], kwarg := none, defaults := [] }
noncomputable def eN (s : Stmt) : List Stmt := match s with
 | .FunctionDef _ _ b _ _ _ _ _ _ _ => b
 | _ => []
noncomputable def aD (s : Stmt) : Scope := match s with
 | .FunctionDef _ _ _ _ _ _ sc _ _ _ => sc
 | _ => { kind := .function, names := [], isGenerator := false, isCoroutine := false }
noncomputable abbrev iZ : zL := fun _ _ _ _ _ _ => False
noncomputable abbrev E0 : XK := fun _ _ _ => False
theorem NZ {X : Cx} : Passes iZ X E0 := fun _ _ _ _ _ _ _ h => h.elim
structure jE (K : PySem.W.Frag) (x qual : Str) (st : Stmt) (f : Addr) (fd : FuncData) : Prop where
 ex : ∃ (oc : Value) (od : Option Addr) (kV doc pm : Value) (an : Option Addr) (cdv ct : Value) (osl : Array (Option Value)),
  fd = PySem.W.fnOf x qual (gM st) (eN st) (aD st) .none kV doc pm an cdv ct /\ K.lookup f = some ⟨oc, od, .func fd, osl⟩ /\ PySem.W.codeIn K cdv qual = true
 kp : PySem.W.keepIn K (.ref f) = true
section
variable {P : Program} {w : World} {K : PySem.W.Frag} {mg : Str -> Option Value} {base : Heap}
theorem jE.ok {x qual : Str} {st : Stmt} {f : Addr} {fd : FuncData} {N ps : List Str} {k : Nat} {sp : Sp} (F : jE K x qual st f fd) (S : aR N ps (aD st)) (len : ∀ vs H Q E, sp vs H Q E -> vs.length = ps.length)
 (hbody : ∀ (cdv : Value) (A : Around) (outer : List Env) (s : Shared) (H : Hp) (vs : List V) (Q : VK) (E : XK), ie k (A.deeper (envOfC qual (aD st) s.heap.objs.size f cdv)) -> sp vs H Q E ->
  ∃ t, xF (vV iZ P w K mg base N qual (aD st) f cdv A outer s H E).Qd (eN st) t /\ t { nx := fun _ H' => Q .non H', rt := Q } (start N vs) H) : cF P w K mg base iZ (k + 1) f fd ps sp := by
 obtain ⟨oc, od, kV, doc, pm, an, cdv, ct, osl, rfl, lk, hcd⟩ := F.ex
 refine OD lk hcd S len fun A outer s H vs Q E hr hsp => ?_
 obtain ⟨t, h, q⟩ := hbody cdv A outer s H vs Q E hr hsp
 exact ⟨t, h.Qd, q⟩
theorem jE.binds {x qual : Str} {st : Stmt} {f : Addr} {fd : FuncData} {ps : List Str} (F : jE K x qual st f fd)
 (h : ∀ (kV doc pm : Value) (an : Option Addr) (cdv ct : Value) (us : List Value), us.length = ps.length -> bindArgs (PySem.W.fnOf x qual (gM st) (eN st) (aD st) .none kV doc pm an cdv ct) ⟨us, []⟩ = pure (ps.zip us)) : Binds K fd ps [] := by
 obtain ⟨oc, od, kV, doc, pm, an, cdv, ct, osl, rfl, lk, hcd⟩ := F.ex
 exact .all (h kV doc pm an cdv ct)
theorem JZ {x qual : Str} {st : Stmt} {f : Addr} {oc : Value} {od an : Option Addr} {osl : Array (Option Value)} {kV doc pm cdv ct : Value} (l : K.lookup f = some ⟨oc, od, .func (PySem.W.fnOf x qual (gM st) (eN st) (aD st) .none kV doc pm an cdv ct), osl⟩)
 (c : PySem.W.codeIn K cdv qual = true) (k : PySem.W.keepIn K (.ref f) = true) : jE K x qual st f (PySem.W.fnOf x qual (gM st) (eN st) (aD st) .none kV doc pm an cdv ct) := ⟨⟨oc, od, kV, doc, pm, an, cdv, ct, osl, rfl, l, c⟩, k⟩
end
noncomputable def aP (H H' : Hp) : Prop := ∀ b o, H b = some o -> H' b = some o
theorem aP.refl (H : Hp) : aP H H := fun _ _ h => h
theorem aP.trans {H H1 H2 : Hp} (a : aP H H1) (b : aP H1 H2) : aP H H2 := fun c o h => b c o (a c o h)
theorem aP.seq {K : PySem.W.Frag} {H H' : Hp} {a : Addr} {xs : List V} (e : aP H H') (h : fU K H a xs) : fU K H' a xs := by
 rcases h with (h | ⟨o, h⟩) | h
 . exact .inl (.inl (e _ _ h))
 . exact .inl (.inr ⟨o, e _ _ h⟩)
 . exact .inr h
end L2
end
section
namespace HH
open PySem
inductive Dc where
 | k (kvs : List (Int × Int)) | t (kvs : List (List Int × Int))
 deriving DecidableEq
inductive D where
 | non | bl (b : Bool) | int (i : Int) | str (s : Str) | tup (ds : List D) | lst (ds : List D) | dB (m : Dc)
 deriving Inhabited
mutual
noncomputable def bz : D -> D -> Bool
 | .non, .non => true
 | .bl a, .bl b => a == b
 | .bl a, .int i => (if a then (1 : Int) else 0) == i
 | .int i, .bl a => i == (if a then (1 : Int) else 0)
 | .int i, .int j => i == j
 | .str a, .str b => a == b
 | .tup xs, .tup ys => eH xs ys
 | .lst xs, .lst ys => eH xs ys
 | .dB a, .dB b => decide (a = b)
 | _, _ => false
noncomputable def eH : List D -> List D -> Bool
 | [], [] => true
 | x :: xs, y :: ys => bz x y && eH xs ys
 | _, _ => false
end
noncomputable def cN : Nat -> D -> Bool
 | _, .non => true | _, .bl _ => true | _, .int _ => true | _, .str _ => true
 | 0, .tup _ => false | 0, .lst _ => false | _, .dB _ => false
 | n + 1, .tup ds => ds.all (cN n)
 | n + 1, .lst ds => ds.all (cN n)
inductive Sl where
 | bj | val (b : Bool) (d : D) | own (b : Bool) (ds : List D) | lent (ds : List D) | km (m : Dc)
 deriving Inhabited
inductive R where
 | val (d : D) | own (ds : List D)
 deriving Inhabited
noncomputable def R.d : R -> D
 | .val d => d
 | .own ds => .lst ds
inductive Res (α : Type) where
 | ok (a : α) (ρ : List Sl) | exc (k : Nat) (ρ : List Sl) | stuck
 deriving Inhabited
noncomputable def Res.bind {α β : Type} (f : α -> List Sl -> Res β) : Res α -> Res β
 | .ok a ρ => f a ρ
 | .exc _ _ => .stuck
 | .stuck => .stuck
noncomputable def lift {α : Type} (o : Option α) (ρ : List Sl) : Res α := match o with
 | some a => .ok a ρ
 | none => .stuck
inductive Op where | add | sub | mul | fdiv | mod | pow | shl | shr | band | Xf
 deriving DecidableEq
inductive Cm where | eq | ne | lt | le | gt | ge | Zf | Rp | inn | BP | Zg | Rq | JF
 deriving DecidableEq
inductive Ty where | int | bool | str | tuple | list | none
 deriving DecidableEq
inductive Sw where | len | list | tuple | min2 | max2 | BR | Rr | sum | all | any | sorted | abs | int | Xg | Xh | Hg | rvs | Xi | keys | Rt | K8 | Xj | sset
 deriving DecidableEq
inductive P where
 | var (i : Nat)
 | con (d : D)
 | glob (x : Str) (d : D)
 | bin (o : Op) (a b : P)
 | neg (a : P)
 | not (a : P)
 | and (a b : P)
 | or (a b : P)
 | cmp (o : Cm) (a b : P)
 | chain (o o' : Cm) (a b c : P)
 | Zh (c a b : P)
 | tup (as : List P)
 | lst (as : List P)
 | idx (a i : P)
 | slice (a lo hi : P)
 | call (f : Nat) (as : List P)
 | blt (b : Sw) (as : List P)
 | inst (ts : List Ty) (a : P)
 | pop (x : Nat)
 | comp (src : P) (n : Nat) (is : List Nat) (one : Bool) (test : Option P) (elt : P)
 | v5 (a b : P)
 | Zi (a : P)
 | zip (a b : P)
 | rev (a : P)
 | Ru (i : Nat) (b : P) (n : Nat) (is : List Nat) (one : Bool) (test : Option P) (elt : P)
 | dgo (x : Nat) (k d : P)
 | vw (x : Nat)
 | dgT (x : Nat) (ks : List P)
 | Xk (x : Nat) (ks : List P) (d : P)
 deriving Inhabited
noncomputable abbrev lim : Nat := 16777216
noncomputable def nP : D -> D -> Option R
 | .int i, .int j => some (.val (.int (i + j)))
 | .lst xs, .lst ys => if xs.length + ys.length <= lim then some (.own (xs ++ ys)) else none
 | .tup xs, .tup ys => if xs.length + ys.length <= lim then some (.val (.tup (xs ++ ys))) else none
 | .str x, .str y => if x.length + y.length <= lim then some (.val (.str (x ++ y))) else none
 | _, _ => none
noncomputable def nq : D -> D -> Option R
 | .int i, .int j => if ((-18446744073709551616 < i /\ i < 18446744073709551616) \/ (-18446744073709551616 < j /\ j < 18446744073709551616)) then some (.val (.int (i * j))) else none
 | .lst xs, .int k => if 0 <= k /\ 0 < xs.length /\ xs.length * k.toNat <= lim then some (.own (List.replicate k.toNat xs).flatten) else none
 | .tup xs, .int k => if 0 <= k /\ 0 < xs.length /\ xs.length * k.toNat <= lim then some (.val (.tup (List.replicate k.toNat xs).flatten)) else none
 | _, _ => none
noncomputable def uz : D -> D -> Option R
 | .int i, .int j => some (.val (.int (i - j)))
 | _, _ => none
noncomputable def oG : D -> D -> Option R
 | .int i, .int j => if 0 < j /\ j < 1606938044258990275541962092341162602522202993782792835301376 then some (.val (.int (i / j))) else none
 | _, _ => none
noncomputable def rW : D -> D -> Option R
 | .int i, .int j => if 0 < j then some (.val (.int (i % j))) else none
 | _, _ => none
noncomputable def tG : D -> D -> Option R
 | .int i, .int j => if 0 <= j /\ j <= 1000 /\ i.natAbs < 18446744073709551616 then some (.val (.int (i ^ j.toNat))) else none
 | _, _ => none
noncomputable def Bu : D -> D -> Option R
 | .int i, .int j => if 0 <= j /\ j <= 1000 /\ i.natAbs < 18446744073709551616 then some (.val (.int (i * 2 ^ j.toNat))) else none
 | _, _ => none
noncomputable def zq : D -> D -> Option R
 | .int i, .int j => if 0 <= j then some (.val (.int (i / 2 ^ j.toNat))) else none
 | _, _ => none
noncomputable def uW : D -> D -> Option R
 | .int i, .int j => some (.val (.int (Builtin.bitAnd i j)))
 | _, _ => none
noncomputable def flat : D -> Bool
 | .tup _ => false | .lst _ => false | .dB _ => false | _ => true
noncomputable def items : D -> Option (List D)
 | .lst ds => some ds
 | .tup ds => some ds
 | _ => none
noncomputable def zV : D -> Option (List D)
 | .tup ds => some ds
 | _ => none
noncomputable def sY (x y : D) : Option Bool := if cN 8 x && cN 8 y then some (bz x y) else none
noncomputable def qp (x y : D) : Option Bool := if cN 8 x && cN 8 y then some (!bz x y) else none
noncomputable def BZ (f : Int -> Int -> Bool) : D -> D -> Option Bool
 | .int i, .int j => some (f i j)
 | _, _ => none
noncomputable def je : D -> Bool
 | .non => true
 | _ => false
noncomputable def Yg (neg : Bool) (x : D) : D -> Option Bool
 | .non => some (if neg then !je x else je x)
 | _ => none
noncomputable def o5 (neg : Bool) (x y : D) : Option Bool := (items y).bind fun ys => if (flat x && ys.all flat) = true then some (if neg then !(ys.any fun y => bz y x) else ys.any fun y => bz y x) else none
noncomputable def Yk (neg : Bool) : D -> D -> Option Bool
 | .bl b, .bl true => some (if neg then !b else b)
 | _, _ => none
noncomputable def aQ : List Int -> List Int -> Bool
 | [], _ :: _ => true
 | i :: is, j :: js => decide (i < j) || (decide (i = j) && aQ is js)
 | _, [] => false
noncomputable def cB : D -> Int
 | .int i => i
 | _ => 0
noncomputable def bF : D -> List Int
 | .int i => [i]
 | .tup ds => ds.map cB
 | _ => []
noncomputable def dC : D -> Bool
 | .int _ => true
 | _ => false
noncomputable def Dc.get : Dc -> D -> Option (Option Int)
 | .k kvs, .int i => some ((kvs.find? fun kv => decide (kv.1 = i)).map (·.2))
 | _, _ => none
noncomputable def putD {κ : Type} [DecidableEq κ] (kvs : List (κ × Int)) (k : κ) (v : Int) : List (κ × Int) :=
 if (kvs.any fun kv => decide (kv.1 = k)) = true then kvs.map (fun kv => if kv.1 = k then (kv.1, v) else kv) else kvs ++ [(k, v)]
noncomputable def Dc.put : Dc -> D -> Int -> Option Dc
 | .k kvs, .int i, v => if kvs.length < lim then some (.k (putD kvs i v)) else none
 | _, _, _ => none
noncomputable def Dc.Qh : Dc -> List D -> Option (Option Int)
 | .t kvs, ds => if ds.all dC = true then some ((kvs.find? fun kv => decide (kv.1 = ds.map cB)).map (·.2)) else none
 | _, _ => none
noncomputable def Dc.Vt : Dc -> List D -> Int -> Option Dc
 | .t kvs, ds, v => if ds.all dC = true /\ kvs.length < lim then some (.t (putD kvs (ds.map cB) v)) else none
 | _, _, _ => none
noncomputable def PN : D -> List D -> Option R
 | .dB m, ks => (m.Qh ks).bind fun o => o.map fun v => .val (.int v)
 | _, _ => none
noncomputable def xr : D -> D -> Option R
 | .dB m, k => (m.get k).bind fun o => o.map fun v => .val (.int v)
 | _, _ => none
noncomputable def tQ : Op -> D -> D -> Option R
 | .add => nP
 | .mul => nq
 | .sub => uz
 | .fdiv => oG
 | .mod => rW
 | .pow => tG
 | .shl => Bu
 | .shr => zq
 | .band => uW
 | .Xf => xr
noncomputable def OJ : D -> D -> Option Bool
 | .int i, .int j => some (decide (i < j))
 | .tup xs, .tup ys => if (xs.all dC && ys.all dC) = true then some (aQ (xs.map cB) (ys.map cB)) else none
 | _, _ => none
noncomputable def VV : D -> D -> Option Bool
 | .int i, .int j => some (decide (i <= j))
 | .tup xs, .tup ys => if (xs.all dC && ys.all dC) = true then some (!aQ (ys.map cB) (xs.map cB)) else none
 | _, _ => none
noncomputable def cm : Cm -> D -> D -> Option Bool
 | .eq => sY
 | .ne => qp
 | .lt => OJ
 | .le => BZ fun i j => decide (i <= j)
 | .JF => VV
 | .gt => BZ fun i j => decide (j < i)
 | .ge => BZ fun i j => decide (j <= i)
 | .Zf => Yg false
 | .Rp => Yg true
 | .inn => o5 false
 | .BP => o5 true
 | .Zg => Yk false
 | .Rq => Yk true
noncomputable def vL (o : Cm) (x y : D) : Option R := (cm o x y).map fun k => .val (.bl k)
noncomputable def xU (ks : List Int) (k : Int) : List Int := if ks.contains k = true then ks else ks ++ [k]
noncomputable def dR (ns : List Int) : List Int := ns.foldl xU []
noncomputable def ju (n : Nat) (i : Int) : Option Nat := if 0 <= i then (if i < n then some i.toNat else none) else if -(n : Int) <= i then some (i + n).toNat else none
noncomputable def at' {α : Type} (xs : List α) (i : Int) : Option α := (ju xs.length i).bind fun j => xs[j]?
noncomputable def cH (n d : Nat) : Option Int -> Nat
 | none => d
 | some i => if 0 <= i then min i.toNat n else (i + n).toNat
noncomputable def cut {α : Type} (xs : List α) (lo hi : Option Int) : List α := (xs.drop (cH xs.length 0 lo)).take (cH xs.length xs.length hi - cH xs.length 0 lo)
noncomputable def optI : D -> Option (Option Int)
 | .non => some none
 | .int i => some (some i)
 | _ => none
noncomputable def oU : D -> Option Int
 | .int i => some i
 | _ => none
noncomputable def sO : D -> Option Bool
 | .bl b => some b
 | _ => none
noncomputable def uM (x y : D) : Option R := (items x).bind fun ds => (oU y).bind fun i => (at' ds i).map .val
noncomputable def Dq (x : D) : Option R := (oU x).map fun i => .val (.int (-i))
noncomputable def vM : P -> Bool
 | .con .non => true
 | _ => false
noncomputable def part (p : P) (d : D) : Option (Option Int) := if vM p then some none else (oU d).map some
noncomputable def Lx : D -> Option (Option Int) -> Option (Option Int) -> Option R
 | .lst xs, some lo, some hi => some (.own (cut xs lo hi))
 | .tup xs, some lo, some hi => some (.val (.tup (cut xs lo hi)))
 | _, _, _ => none
noncomputable def bO : Ty -> D -> Bool
 | .int, .int _ => true | .int, .bl _ => true | .bool, .bl _ => true | .str, .str _ => true | .tuple, .tup _ => true | .list, .lst _ => true | .none, .non => true
 | _, _ => false
noncomputable def ou : D -> Bool
 | .tup (x :: xs) => (x :: xs).all dC
 | _ => false
noncomputable def sortable (ds : List D) : Bool := decide (ds.length <= 16777216) && (ds.all dC || ds.all ou)
noncomputable def gG (ds : List D) : List D := ds.mergeSort fun a b => !aQ (bF b) (bF a)
noncomputable def lu : D -> Option (List D)
 | .lst ds => some ds
 | _ => none
noncomputable def blt : Sw -> List D -> Option R
 | .len, [x] => (items x).map fun ds => .val (.int ds.length)
 | .list, [x] => (items x).map fun ds => .own ds
 | .tuple, [x] => (items x).map fun ds => .val (.tup ds)
 | .min2, [.int i, .int j] => some (.val (.int (if j < i then j else i)))
 | .max2, [.int i, .int j] => some (.val (.int (if i < j then j else i)))
 | .BR, [x] => ((items x).bind fun ds => ds.mapM oU).bind fun ns => ns.min?.map fun i => .val (.int i)
 | .Rr, [x] => ((items x).bind fun ds => ds.mapM oU).bind fun ns => ns.max?.map fun i => .val (.int i)
 | .sum, [x] => ((items x).bind fun ds => ds.mapM oU).map fun ns => .val (.int ns.sum)
 | .Xg, [x] => ((items x).bind fun ds => ds.mapM oU).map fun ns => .val (match ns.min? with | some i => .int i | none => .non)
 | .Xh, [x] => ((items x).bind fun ds => ds.mapM oU).map fun ns => .val (match ns.max? with | some i => .int i | none => .non)
 | .all, [x] => ((lu x).bind fun ds => ds.mapM sO).map fun bs => .val (.bl (bs.all id))
 | .any, [x] => ((lu x).bind fun ds => ds.mapM sO).map fun bs => .val (.bl (bs.any id))
 | .sorted, [x] => (lu x).bind fun ds => if sortable ds then some (.own (gG ds)) else none
 | .abs, [.int i] => some (.val (.int (if i < 0 then -i else i)))
 | .int, [.int i] => some (.val (.int i))
 | .int, [.bl b] => some (.val (.int (if b then 1 else 0)))
 | .Hg, [.lst ds] => if ds.length <= 16777216 then some (.own ds) else none
 | .rvs, [.tup ds] => some (.val (.tup ds.reverse))
 | .Xi, [.lst ds] => some (.own ds.reverse)
 | .keys, [.dB (.k kvs)] => some (.val (.tup (kvs.map fun p => .int p.1)))
 | .K8, [.dB (.t kvs)] => if sortable (kvs.map fun p => .tup (p.1.map D.int)) then some (.own (gG (kvs.map fun p => .tup (p.1.map D.int)))) else none
 | .Xj, [.dB (.t kvs)] => if sortable (kvs.map fun p => .tup (p.1.map D.int)) then some (.own (gG (kvs.map fun p => .tup (p.1.map D.int)))) else none
 | .sset, [.lst ds] => if ds.length < 4095 /\ ds.all dC = true then some (.own (gG ((dR (ds.map cB)).map D.int))) else none
 | .Rt, [.dB (.k kvs)] => if sortable (kvs.map fun p => .int p.1) then some (.own (gG (kvs.map fun p => .int p.1))) else none
 | _, _ => none
noncomputable def pk (ρ : List Sl) (i : Nat) : Option D := match ρ[i]? with
 | some (.val _ d) => some d
 | some (.own _ ds) => some (.lst ds)
 | some (.lent ds) => some (.lst ds)
 | _ => none
noncomputable def GC (ρ : List Sl) (i : Nat) : Option (List D) := match pk ρ i with
 | some (.lst ds) => some ds
 | _ => none
noncomputable abbrev Ev := List Sl -> Res R
noncomputable def isVar : P -> Option Nat
 | .var i => some i
 | _ => none
noncomputable def fV (i : Option Nat) (e : Ev) (ρ : List Sl) : Res D := match i with
 | some i => lift (pk ρ i) ρ
 | none => (e ρ).bind fun r ρ => .ok r.d ρ
noncomputable def lD (i : Option Nat) (e : Ev) (j : Option Nat) (f : Ev) (ρ : List Sl) : Res (D × D) := match i with
 | some i => (lift (pk ρ i) ρ).bind fun _ ρ => (fV j f ρ).bind fun y ρ => (lift (pk ρ i) ρ).bind fun x ρ => .ok (x, y) ρ
 | none => (fV none e ρ).bind fun x ρ => (fV j f ρ).bind fun y ρ => .ok (x, y) ρ
noncomputable def kh (e : Ev) (ρ : List Sl) : Res Bool := (e ρ).bind fun r ρ => lift (sO r.d) ρ
inductive Arg where
 | dat (d : D) | tmp (ds : List D) | dW (i : Nat)
noncomputable def ug : R -> Arg
 | .val d => .dat d
 | .own ds => .tmp ds
noncomputable def bD (ρ : List Sl) : List Arg -> List Nat -> Option (List Sl)
 | [], _ => some []
 | .dat d :: r, used => (bD ρ r used).map fun s => .val false d :: s
 | .tmp ds :: r, used => (bD ρ r used).map fun s => .own false ds :: s
 | .dW i :: r, used => match ρ[i]? with
   | some (.val _ d) => (bD ρ r used).map fun s => .val false d :: s
   | some (.own _ ds) => if used.contains i then none else (bD ρ r (i :: used)).map fun s => .own true ds :: s
   | some (.lent ds) => if used.contains i then none else (bD ρ r (i :: used)).map fun s => .lent ds :: s
   | _ => none
noncomputable def aO (i : Nat) : List Arg -> List Sl -> Option Sl
 | .dW k :: as, s :: ss => if k = i then some s else aO i as ss
 | .dat _ :: as, _ :: ss => aO i as ss
 | .tmp _ :: as, _ :: ss => aO i as ss
 | _, _ => none
noncomputable def dz : Sl -> Option Sl -> Sl
 | .own b _, some (.own _ ds) => .own b ds
 | .own b _, some (.val _ d) => .val b d
 | s, _ => s
noncomputable def cu (as : List Arg) (ss : List Sl) : Nat -> List Sl -> List Sl
 | _, [] => []
 | i, s :: ρ => dz s (aO i as ss) :: cu as ss (i + 1) ρ
noncomputable abbrev Call := Nat -> List Sl -> Res R
noncomputable def lq (c : Call) (f : Nat) (as : List Arg) (ρ : List Sl) : Res R := match bD ρ as [] with
 | none => .stuck
 | some args => match c f args with
   | .ok r args' => .ok r (cu as args' 0 ρ)
   | .exc _ _ => .stuck
   | .stuck => .stuck
noncomputable def put (ρ : List Sl) (i : Nat) (s : Sl) : Option (List Sl) := match ρ[i]? with
 | some .bj => some (ρ.set i s)
 | some (.val false _) => some (ρ.set i s)
 | some (.own false _) => some (ρ.set i s)
 | _ => none
noncomputable def putAll (ρ : List Sl) : List Nat -> List D -> Option (List Sl)
 | [], [] => some ρ
 | i :: is, d :: ds => (put ρ i (.val false d)).bind fun ρ => putAll ρ is ds
 | _, _ => none
noncomputable def cz (ρ : List Sl) (is : List Nat) (one : Bool) (d : D) : Option (List Sl) := match one, is, d with
 | true, [i], d => put ρ i (.val false d)
 | false, is, .tup ds => putAll ρ is ds
 | _, _, _ => none
noncomputable def srcOf (i : Option Nat) (e : Ev) (ρ : List Sl) : Res (List D) := match i with
 | some i => match ρ[i]? with
   | some (.val _ d) => lift (items d) ρ
   | some (.own _ ds) => .ok ds (ρ.set i (.lent ds))
   | some (.lent ds) => .ok ds ρ
   | _ => .stuck
 | none => (e ρ).bind fun r ρ => lift (items r.d) ρ
noncomputable def bh (ρ₀ : List Sl) (i : Option Nat) (ρ : List Sl) : List Sl := match i with
 | some i => match ρ₀[i]? with
   | some (.own b ds) => ρ.set i (.own b ds)
   | _ => ρ
 | none => ρ
noncomputable def U0 (i : Nat) (f : Ev) (ρ : List Sl) : Res (List D × List Sl) := (lift (pk ρ i) ρ).bind fun _ ρ => (f ρ).bind fun r ρb => (lift (items r.d) ρb).bind fun es ρb => match ρb[i]? with
 | some (.val _ d) => (lift (items d) ρb).bind fun ds ρb => .ok ((ds.zip es).map fun p => D.tup [p.1, p.2], ρb) ρb
 | some (.own _ ds) => .ok ((ds.zip es).map fun p => D.tup [p.1, p.2], ρb) (ρb.set i (.lent ds))
 | some (.lent ds) => .ok ((ds.zip es).map fun p => D.tup [p.1, p.2], ρb) ρb
 | _ => .stuck
noncomputable def turns (is : List Nat) (one : Bool) (test : List Sl -> Res Bool) (elt : Ev) : List D -> List D -> List Sl -> Res (List D)
 | [], acc, ρ => .ok acc ρ
 | d :: r, acc, ρ => match cz ρ is one d with
   | none => .stuck
   | some ρ => (test ρ).bind fun b ρ => if b then (elt ρ).bind fun x ρ => turns is one test elt r (acc ++ [x.d]) ρ else turns is one test elt r acc ρ
mutual
noncomputable def ev (c : Call) : P -> List Sl -> Res R
 | .var i, ρ => match ρ[i]? with
   | some (.val _ d) => .ok (.val d) ρ
   | some (.own b ds) => .ok (.val (.lst ds)) (ρ.set i (.val b (.lst ds)))
   | some (.km (.k kvs)) => .ok (.val (.dB (.k kvs))) (ρ.set i (.val false (.dB (.k kvs))))
   | _ => .stuck
 | .con d, ρ => .ok (.val d) ρ
 | .glob _ d, ρ => .ok (.val d) ρ
 | .bin o a b, ρ => (lD (isVar a) (ev c a) (isVar b) (ev c b) ρ).bind fun xy ρ => lift (tQ o xy.1 xy.2) ρ
 | .neg a, ρ => (fV (isVar a) (ev c a) ρ).bind fun x ρ => lift (Dq x) ρ
 | .not a, ρ => (kh (ev c a) ρ).bind fun b ρ => .ok (.val (.bl (!b))) ρ
 | .and a b, ρ => (kh (ev c a) ρ).bind fun x ρ => if x then (kh (ev c b) ρ).bind fun y ρ => .ok (.val (.bl y)) ρ else .ok (.val (.bl false)) ρ
 | .or a b, ρ => (kh (ev c a) ρ).bind fun x ρ => if x then .ok (.val (.bl true)) ρ else (kh (ev c b) ρ).bind fun y ρ => .ok (.val (.bl y)) ρ
 | .cmp o a b, ρ => (lD (isVar a) (ev c a) (isVar b) (ev c b) ρ).bind fun xy ρ => lift (vL o xy.1 xy.2) ρ
 | .chain o o' a b d, ρ => (lD (isVar a) (ev c a) (isVar b) (ev c b) ρ).bind fun xy ρ => (lift (if flat xy.2 = true then cm o xy.1 xy.2 else none) ρ).bind fun k ρ =>
  if k then (fV (isVar d) (ev c d) ρ).bind fun z ρ => lift (vL o' xy.2 z) ρ else .ok (.val (.bl false)) ρ
 | .Zh t a b, ρ => (kh (ev c t) ρ).bind fun k ρ => if k then (ev c a ρ).bind fun r ρ => .ok (.val r.d) ρ else (ev c b ρ).bind fun r ρ => .ok (.val r.d) ρ
 | .tup as, ρ => (evs c as ρ).bind fun ds ρ => .ok (.val (.tup ds)) ρ
 | .lst as, ρ => (evs c as ρ).bind fun ds ρ => .ok (.own ds) ρ
 | .idx a i, ρ => (lD (isVar a) (ev c a) (isVar i) (ev c i) ρ).bind fun xy ρ => lift (uM xy.1 xy.2) ρ
 | .slice a l h, ρ => match isVar a with
   | some i => (lift (pk ρ i) ρ).bind fun _ ρ => (fV (isVar l) (ev c l) ρ).bind fun y ρ => (fV (isVar h) (ev c h) ρ).bind fun z ρ => (lift (pk ρ i) ρ).bind fun x ρ => lift (Lx x (part l y) (part h z)) ρ
   | none => (fV none (ev c a) ρ).bind fun x ρ => (fV (isVar l) (ev c l) ρ).bind fun y ρ => (fV (isVar h) (ev c h) ρ).bind fun z ρ => lift (Lx x (part l y) (part h z)) ρ
 | .call f as, ρ => (vY c as ρ).bind fun xs ρ => lq c f xs ρ
 | .blt b [a], ρ => (fV (isVar a) (ev c a) ρ).bind fun x ρ => lift (blt b [x]) ρ
 | .blt b as, ρ => (evs c as ρ).bind fun ds ρ => lift (blt b ds) ρ
 | .inst ts a, ρ => (fV (isVar a) (ev c a) ρ).bind fun x ρ => .ok (.val (.bl (ts.any fun t => bO t x))) ρ
 | .pop x, ρ => match ρ[x]? with
   | some (.own b ds) => lift (ds.getLast?.map .val) (ρ.set x (.own b ds.dropLast))
   | _ => .stuck
 | .comp src n is one test elt, ρ => (srcOf (isVar src) (ev c src) ρ).bind fun ds ρ₁ =>
  if ds.length <= lim then (turns is one (oX c test) (ev c elt) ds [] (ρ₁ ++ List.replicate n .bj)).bind fun xs ρ₂ => .ok (.own xs) (bh ρ (isVar src) (ρ₂.take ρ₁.length)) else .stuck
 | .v5 a b, ρ => (lD (isVar a) (ev c a) (isVar b) (ev c b) ρ).bind fun xy ρ => lift ((oU xy.1).bind fun i => (oU xy.2).bind fun j =>
  if -1000000 <= i /\ i <= 1000000000 /\ j <= 1000000000 /\ -1000000000 <= j then some (.val (.lst ((List.range (j - i).toNat).map fun (k : Nat) => D.int (i + (k : Int))))) else none) ρ
 | .Zi a, ρ => (ev c a ρ).bind fun r ρ => lift ((items r.d).map fun ds => .val (.lst (ds.mapIdx fun i d => D.tup [.int (i : Int), d]))) ρ
 | .zip a b, ρ => (ev c a ρ).bind fun x ρ => (ev c b ρ).bind fun y ρ => lift ((items x.d).bind fun ds => (items y.d).map fun es => .val (.lst ((ds.zip es).map fun p => D.tup [p.1, p.2]))) ρ
 | .rev a, ρ => (ev c a ρ).bind fun r ρ => lift ((zV r.d).map fun ds => .val (.lst ds.reverse)) ρ
 | .Ru i b n is one test elt, ρ => (U0 i (ev c b) ρ).bind fun du ρ₁ =>
  if du.1.length <= lim then (turns is one (oX c test) (ev c elt) du.1 [] (ρ₁ ++ List.replicate n .bj)).bind fun xs ρ₂ => .ok (.own xs) (bh du.2 (some i) (ρ₂.take ρ₁.length)) else .stuck
 | .dgo x k d, ρ => match ρ[x]? with
   | some (.km _) => (fV (isVar k) (ev c k) ρ).bind fun kd ρ => (fV (isVar d) (ev c d) ρ).bind fun dd ρ => match ρ[x]? with
     | some (.km m) => lift ((m.get kd).bind fun o => (oU dd).map fun v => .val (.int (o.getD v))) ρ
     | _ => .stuck
   | _ => .stuck
 | .vw x, ρ => match ρ[x]? with
   | some (.km m) => .ok (.val (.dB m)) (ρ.set x (.val false (.dB m)))
   | _ => .stuck
 | .dgT x ks, ρ => (lift (pk ρ x) ρ).bind fun _ ρ => (evs c ks ρ).bind fun Rv ρ => (lift (pk ρ x) ρ).bind fun dd ρ => lift (PN dd Rv) ρ
 | .Xk x ks d, ρ => match ρ[x]? with
   | some (.km _) => (evs c ks ρ).bind fun Rv ρ => (fV (isVar d) (ev c d) ρ).bind fun dd ρ => match ρ[x]? with
     | some (.km m) => lift ((m.Qh Rv).bind fun o => (oU dd).map fun v => .val (.int (o.getD v))) ρ
     | _ => .stuck
   | _ => .stuck
noncomputable def evs (c : Call) : List P -> List Sl -> Res (List D)
 | [], ρ => .ok [] ρ
 | a :: r, ρ => (ev c a ρ).bind fun x ρ => (evs c r ρ).bind fun xs ρ => .ok (x.d :: xs) ρ
noncomputable def vY (c : Call) : List P -> List Sl -> Res (List Arg)
 | [], ρ => .ok [] ρ
 | a :: r, ρ => match isVar a with
   | some i => (lift (pk ρ i) ρ).bind fun _ ρ => (vY c r ρ).bind fun xs ρ => .ok (.dW i :: xs) ρ
   | none => (ev c a ρ).bind fun x ρ => (vY c r ρ).bind fun xs ρ => .ok (ug x :: xs) ρ
noncomputable def oX (c : Call) : Option P -> List Sl -> Res Bool
 | none, ρ => .ok true ρ
 | some t, ρ => kh (ev c t) ρ
end
inductive S where
 | pass | brk | cont | bad
 | expr (e : P)
 | asg (i : Nat) (e : P)
 | par (i j : Nat) (a b : P)
 | NB (i : List Nat) (e : P)
 | yO (x : Nat) (i e : P)
 | app (x : Nat) (e : P)
 | ext (x : Nat) (e : P)
 | ret (e : P) | Xl
 | ifs (c : P) (a b : List S)
 | gV (src : P) (i : List Nat) (one : Bool) (body : List S)
 | whl (c : P) (body : List S)
 | Xm (x : Nat) (i : P)
 | swp (x : Nat) (i : P) (y : Nat) (j : P) (a b : P)
 | aug (x : Nat) (sub : Bool) (e : P)
 | Xn (x : Nat) (i : P) (sub : Bool) (e : P)
 | K9 (x : Nat) (e : P)
 | La (k : Nat)
 | Xo (body : List S) (k : Nat) (d : D)
 | Xp (body : List S) (x : Nat) (hs : List (List S))
 | Xq (x : Nat) (t : Bool)
 | dput (x : Nat) (k e : P)
 | Rw (x : Nat) (ks : List P) (e : P)
 | Xr (x : Nat) (a b : P) (body : List S)
 | rvl (x : Nat)
 deriving Inhabited
inductive Fl where
 | next | brk | cont | ret (r : R)
 deriving Inhabited
noncomputable def yf : R -> Sl
 | .val d => .val false d
 | .own ds => .own false ds
noncomputable def lY (is : List Nat) (one : Bool) (body : List Sl -> Res Fl) : List D -> List Sl -> Res Fl
 | [], ρ => .ok .next ρ
 | d :: r, ρ => match cz ρ is one d with
   | none => .stuck
   | some ρ => (body ρ).bind fun fl ρ => match fl with
     | .next => lY is one body r ρ
     | .cont => lY is one body r ρ
     | .brk => .ok .next ρ
     | .ret r => .ok (.ret r) ρ
noncomputable def Km (x : Nat) (body : List Sl -> Res Fl) : List (List D) -> List Sl -> Res Fl
 | [], ρ => .ok .next ρ
 | ds :: r, ρ => match put ρ x (.own false ds) with
   | none => .stuck
   | some ρ => (body ρ).bind fun fl ρ => match fl with
     | .next => Km x body r ρ
     | .cont => Km x body r ρ
     | .brk => .ok .next ρ
     | .ret r => .ok (.ret r) ρ
noncomputable def Bb (test : List Sl -> Res Bool) (body : List Sl -> Res Fl) : Nat -> List Sl -> Res Fl
 | 0, _ => .stuck
 | n + 1, ρ => (test ρ).bind fun b ρ => if b then (body ρ).bind fun fl ρ => match fl with
     | .next => Bb test body n ρ
     | .cont => Bb test body n ρ
     | .brk => .ok .next ρ
     | .ret r => .ok (.ret r) ρ
  else .ok .next ρ
noncomputable def JQ (is : List Nat) (one : Bool) (body : List Sl -> Res Fl) (bx : List Sl -> Option (Nat × List Sl)) : List D -> List Sl -> Option (Nat × List Sl)
 | [], _ => none
 | d :: r, ρ => match cz ρ is one d with
   | none => none
   | some ρ => match bx ρ with
     | some x => some x
     | none => match body ρ with
       | .ok .next ρ1 => JQ is one body bx r ρ1
       | .ok .cont ρ1 => JQ is one body bx r ρ1
       | _ => none
noncomputable def Ih : P -> P
 | .idx a _ => a
 | e => e
noncomputable def unl : Sl -> Bool
 | .bj => true
 | .val b _ => !b
 | .own b _ => !b
 | .lent _ => false
 | .km _ => true
noncomputable def GK (c : Call) (e : P) (ρ : List Sl) : Option (Nat × List Sl) := match Ih e with
 | .call f as => match vY c as ρ with
   | .ok xs ρ1 => match bD ρ1 xs [] with
     | some args => match c f args with
       | .exc k args' => some (k, cu xs args' 0 ρ1)
       | _ => none
     | none => none
   | _ => none
 | _ => none
mutual
noncomputable def ex (c : Call) (n : Nat) : S -> List Sl -> Res Fl
 | .pass, ρ => .ok .next ρ
 | .brk, ρ => .ok .brk ρ
 | .cont, ρ => .ok .cont ρ
 | .bad, _ => .stuck
 | .expr e, ρ => (ev c e ρ).bind fun _ ρ => .ok .next ρ
 | .asg i e, ρ => (ev c e ρ).bind fun r ρ => (lift (put ρ i (yf r)) ρ).bind fun ρ' _ => .ok .next ρ'
 | .par i j a b, ρ => (ev c a ρ).bind fun x ρ => (ev c b ρ).bind fun y ρ => (lift ((put ρ i (.val false x.d)).bind fun ρ => put ρ j (.val false y.d)) ρ).bind fun ρ' _ => .ok .next ρ'
 | .NB is e, ρ => (ev c e ρ).bind fun r ρ => match r.d with
   | .tup ds => (lift (putAll ρ is ds) ρ).bind fun ρ' _ => .ok .next ρ'
   | _ => .stuck
 | .yO x i e, ρ => (ev c e ρ).bind fun r ρ => (lift (pk ρ x) ρ).bind fun _ ρ => (fV (isVar i) (ev c i) ρ).bind fun k ρ => match ρ[x]?, k with
   | some (.own b ds), .int k => match ju ds.length k with
     | some j => .ok .next (ρ.set x (.own b (ds.set j r.d)))
     | none => .stuck
   | _, _ => .stuck
 | .app x e, ρ => (lift (GC ρ x) ρ).bind fun _ ρ => (ev c e ρ).bind fun r ρ => match ρ[x]? with
   | some (.own b ds) => if ds.length < lim then .ok .next (ρ.set x (.own b (ds ++ [r.d]))) else .stuck
   | _ => .stuck
 | .ext x e, ρ => (lift (GC ρ x) ρ).bind fun _ ρ => (ev c e ρ).bind fun r ρ => match ρ[x]?, r.d with
   | some (.own b ds), .lst es => if ds.length + es.length <= lim then .ok .next (ρ.set x (.own b (ds ++ es))) else .stuck
   | _, _ => .stuck
 | .ret e, ρ => match isVar e with
   | some i => match ρ[i]? with
     | some (.own false ds) => .ok (.ret (.own ds)) (ρ.set i .bj)
     | _ => (ev c e ρ).bind fun r ρ => .ok (.ret r) ρ
   | none => (ev c e ρ).bind fun r ρ => .ok (.ret r) ρ
 | .Xl, ρ => .ok (.ret (.val .non)) ρ
 | .ifs t a b, ρ => (kh (ev c t) ρ).bind fun k ρ => if k then jo c n a ρ else jo c n b ρ
 | .gV src is one body, ρ => (srcOf (isVar src) (ev c src) ρ).bind fun ds ρ₁ => (lY is one (jo c n body) ds ρ₁).bind fun fl ρ₂ => .ok fl (bh ρ (isVar src) ρ₂)
 | .whl t body, ρ => Bb (kh (ev c t)) (jo c n body) n ρ
 | .Xm x i, ρ => (lift (GC ρ x) ρ).bind fun _ ρ => (fV (isVar i) (ev c i) ρ).bind fun k ρ => match ρ[x]?, k with
   | some (.own b ds), .int k => match ju ds.length k with
     | some j => if ds.length <= lim then .ok .next (ρ.set x (.own b (ds.eraseIdx j))) else .stuck
     | none => .stuck
   | _, _ => .stuck
 | .swp x i y j a b, ρ => (ev c a ρ).bind fun u ρ => (ev c b ρ).bind fun v ρ => (lift (pk ρ x) ρ).bind fun _ ρ => (fV (isVar i) (ev c i) ρ).bind fun k ρ => match ρ[x]?, k with
   | some (.own b ds), .int k => match ju ds.length k with
     | some m => (lift (pk (ρ.set x (.own b (ds.set m u.d))) y) (ρ.set x (.own b (ds.set m u.d)))).bind fun _ ρ => (fV (isVar j) (ev c j) ρ).bind fun k ρ => match ρ[y]?, k with
       | some (.own b ds), .int k => match ju ds.length k with
         | some m => .ok .next (ρ.set y (.own b (ds.set m v.d)))
         | none => .stuck
       | _, _ => .stuck
     | none => .stuck
   | _, _ => .stuck
 | .aug x sub e, ρ => (lift (pk ρ x) ρ).bind fun a ρ => (fV (isVar e) (ev c e) ρ).bind fun b ρ => match a, b with
   | .int i, .int j => (lift (put ρ x (.val false (.int (if sub then i - j else i + j)))) ρ).bind fun ρ' _ => .ok .next ρ'
   | _, _ => .stuck
 | .Xn x i sub e, ρ => (lift (pk ρ x) ρ).bind fun _ ρ => (fV (isVar i) (ev c i) ρ).bind fun k ρ => (lift (pk ρ x) ρ).bind fun l ρ => (lift (uM l k) ρ).bind fun a ρ => (fV (isVar e) (ev c e) ρ).bind fun b ρ => match a, b, ρ[x]?, k with
   | .val (.int u), .int v, some (.own bb ds), .int k => match ju ds.length k with
     | some j => .ok .next (ρ.set x (.own bb (ds.set j (.int (if sub then u - v else u + v)))))
     | none => .stuck
   | _, _, _, _ => .stuck
 | .K9 x e, ρ => (lift (GC ρ x) ρ).bind fun _ ρ => (ev c e ρ).bind fun r ρ => match ρ[x]?, r with
   | some (.own b ds), .own es => if ds.length + es.length <= lim then .ok .next (ρ.set x (.own b (ds ++ es))) else .stuck
   | _, _ => .stuck
 | .Xq x t, ρ => match ρ[x]? with
   | some .bj => .ok .next (ρ.set x (.km (if t then .t [] else .k [])))
   | _ => .stuck
 | .dput x k e, ρ => (ev c e ρ).bind fun r ρ => match ρ[x]? with
   | some (.km _) => (fV (isVar k) (ev c k) ρ).bind fun kd ρ => match ρ[x]?, r with
     | some (.km m), .val (.int v) => match m.put kd v with
       | some m' => .ok .next (ρ.set x (.km m'))
       | none => .stuck
     | _, _ => .stuck
   | _ => .stuck
 | .La _, _ => .stuck
 | .Xo body k d, ρ => match jo c n body ρ with
   | .ok fl ρ' => .ok fl ρ'
   | _ => match uR c n body ρ with
     | some (k', ρ') => if k' = k then .ok (.ret (.val d)) ρ' else .stuck
     | none => .stuck
 | .Xp body x hs, ρ => match jo c n body ρ with
   | .ok fl ρ' => .ok fl ρ'
   | _ => match uR c n body ρ with
     | some (k, _) => if ρ.all unl = true then match Ye c n hs k (List.replicate ρ.length .bj) with
      | .ok .next ρ2 => match ρ2[x]? with
        | some .bj => .ok .next ρ2
        | _ => .stuck
      | _ => .stuck
      else .stuck
     | none => .stuck
 | .Rw x ks e, ρ => (ev c e ρ).bind fun r ρ => match ρ[x]? with
   | some (.km _) => (evs c ks ρ).bind fun Rv ρ => match ρ[x]?, r with
     | some (.km m), .val (.int v) => match m.Vt Rv v with
       | some m' => .ok .next (ρ.set x (.km m'))
       | none => .stuck
     | _, _ => .stuck
   | _ => .stuck
 | .Xr x a b body, ρ => (ev c a ρ).bind fun r ρ => (ev c b ρ).bind fun u ρ => match r, u with
   | .own ds, .own es => Km x (jo c n body) [ds, es] ρ
   | _, _ => .stuck
 | .rvl x, ρ => (lift (GC ρ x) ρ).bind fun _ ρ => match ρ[x]? with
   | some (.own b ds) => .ok .next (ρ.set x (.own b ds.reverse))
   | _ => .stuck
noncomputable def Ye (c : Call) (n : Nat) : List (List S) -> Nat -> List Sl -> Res Fl
 | [], _, _ => .stuck
 | a :: _, 0, ρ => jo c n a ρ
 | _ :: r, k + 1, ρ => Ye c n r k ρ
noncomputable def jo (c : Call) (n : Nat) : List S -> List Sl -> Res Fl
 | [], ρ => .ok .next ρ
 | s :: r, ρ => (ex c n s ρ).bind fun fl ρ => match fl with
   | .next => jo c n r ρ
   | fl => .ok fl ρ
noncomputable def exX (c : Call) (n : Nat) : S -> List Sl -> Option (Nat × List Sl)
 | .La k, ρ => some (k, ρ)
 | .ifs t a b, ρ => match kh (ev c t) ρ with
   | .ok x ρ1 => if x then uR c n a ρ1 else uR c n b ρ1
   | _ => none
 | .gV src is one body, ρ => match srcOf (isVar src) (ev c src) ρ with
   | .ok ds ρ1 => (JQ is one (jo c n body) (uR c n body) ds ρ1).map fun x => (x.1, bh ρ (isVar src) x.2)
   | _ => none
 | .asg _ e, ρ => GK c e ρ
 | .expr e, ρ => GK c e ρ
 | _, _ => none
noncomputable def uR (c : Call) (n : Nat) : List S -> List Sl -> Option (Nat × List Sl)
 | [], _ => none
 | s :: r, ρ => match exX c n s ρ with
   | some x => some x
   | none => match ex c n s ρ with
     | .ok .next ρ1 => uR c n r ρ1
     | _ => none
end
structure Fd where
 np : Nat
 nn : Nat
 body : List S
 deriving Inhabited
noncomputable abbrev Tab := Nat -> Option Fd
noncomputable def enter (c : Call) (n : Nat) (d : Fd) (args : List Sl) : Res R :=
 if args.length = d.np /\ d.np <= d.nn then match jo c n d.body (args ++ List.replicate (d.nn - d.np) .bj) with
  | .ok .next ρ => .ok (.val .non) (ρ.take d.np)
  | .ok (.ret r) ρ => .ok r (ρ.take d.np)
  | _ => match uR c n d.body (args ++ List.replicate (d.nn - d.np) .bj) with
    | some (k, ρ) => .exc k (ρ.take d.np)
    | none => .stuck
 else .stuck
noncomputable def run (Γ : Tab) (w : Nat) : Nat -> Call
 | 0, _, _ => .stuck
 | n + 1, f, args => match Γ f with
   | some d => enter (run Γ w n) w d args
   | none => .stuck
end HH
end
section
namespace HH
open PySem L2
noncomputable def Dc.ho : Dc -> HO
 | .k kvs => .dK (kvs.map fun p => (Sum.inl p.1, V.int p.2))
 | .t kvs => .dT (kvs.map fun p => (p.1.map Sum.inl, V.int p.2))
section
variable (K : PySem.W.Frag)
mutual
noncomputable def Rep (F : Hp) : V -> D -> Prop
 | v, .non => v = .non
 | v, .bl b => v = .bl b
 | v, .int i => v = .int i
 | v, .str x => v = .str x
 | v, .tup ds => ∃ a xs, v = .ref a /\ jr K F a xs /\ aJ F xs ds
 | v, .lst ds => ∃ a xs, v = .ref a /\ fU K F a xs /\ aJ F xs ds
 | v, .dB m => ∃ a o, v = .ref a /\ F a = some (.jc o m.ho)
noncomputable def aJ (F : Hp) : List V -> List D -> Prop
 | vs, [] => vs = []
 | vs, d :: ds => ∃ v r, vs = v :: r /\ Rep F v d /\ aJ F r ds
end
end
section
variable {K : PySem.W.Frag} {F F' H H' : Hp}
theorem aP.jz {a : Addr} {xs : List V} (e : aP H H') (h : jr K H a xs) : jr K H' a xs := by
 rcases h with (h | ⟨o, h⟩) | h
 . exact .inl (.inl (e _ _ h))
 . exact .inl (.inr ⟨o, e _ _ h⟩)
 . exact .inr h
mutual
theorem Rep.mono (e : aP F F') : ∀ {d : D} {v : V}, Rep K F v d -> Rep K F' v d
 | .non, _, h => by rw [Rep] at h ⊢; exact h
 | .bl _, _, h => by rw [Rep] at h ⊢; exact h
 | .int _, _, h => by rw [Rep] at h ⊢; exact h
 | .str _, _, h => by rw [Rep] at h ⊢; exact h
 | .tup ds, _, h => by
   rw [Rep] at h ⊢
   obtain ⟨a, xs, rfl, hs, r⟩ := h
   exact ⟨a, xs, rfl, aP.jz e hs, aJ.mono e r⟩
 | .lst ds, _, h => by
   rw [Rep] at h ⊢
   obtain ⟨a, xs, rfl, hs, r⟩ := h
   exact ⟨a, xs, rfl, e.seq hs, aJ.mono e r⟩
 | .dB m, _, h => by
   rw [Rep] at h ⊢
   obtain ⟨a, o, rfl, hs⟩ := h
   exact ⟨a, o, rfl, e _ _ hs⟩
theorem aJ.mono (e : aP F F') : ∀ {ds : List D} {vs : List V}, aJ K F vs ds -> aJ K F' vs ds
 | [], _, h => by rw [aJ] at h ⊢; exact h
 | d :: ds, _, h => by
   rw [aJ] at h ⊢
   obtain ⟨v, r, rfl, h1, h2⟩ := h
   exact ⟨v, r, rfl, Rep.mono e h1, aJ.mono e h2⟩
end
theorem aJ.nil : aJ K F [] [] := by rw [aJ]
theorem aJ.cons {v : V} {d : D} {vs : List V} {ds : List D} (h : Rep K F v d) (t : aJ K F vs ds) : aJ K F (v :: vs) (d :: ds) := by
 rw [aJ]; exact ⟨v, vs, rfl, h, t⟩
theorem aJ.cD {vs : List V} {d : D} {ds : List D} (h : aJ K F vs (d :: ds)) : ∃ v r, vs = v :: r /\ Rep K F v d /\ aJ K F r ds := by rw [aJ] at h; exact h
theorem aJ.gh {vs : List V} (h : aJ K F vs []) : vs = [] := by rw [aJ] at h; exact h
theorem aJ.length : ∀ {ds : List D} {vs : List V}, aJ K F vs ds -> vs.length = ds.length
 | [], _, h => by rw [h.gh]; rfl
 | d :: ds, _, h => by
   obtain ⟨v, r, rfl, _, t⟩ := h.cD
   simp [aJ.length t]
theorem aJ.get : ∀ {ds : List D} {vs : List V} {i : Nat} {d : D}, aJ K F vs ds -> ds[i]? = some d -> ∃ v, vs[i]? = some v /\ Rep K F v d
 | [], _, _, _, h, e => by simp at e
 | d :: ds, _, 0, _, h, e => by
   obtain ⟨v, r, rfl, h1, t⟩ := h.cD
   simp at e; subst e
   exact ⟨v, rfl, h1⟩
 | d :: ds, _, i + 1, _, h, e => by
   obtain ⟨v, r, rfl, _, t⟩ := h.cD
   simp at e
   obtain ⟨w, e1, e2⟩ := t.get e
   exact ⟨w, by simpa using e1, e2⟩
theorem aJ.append : ∀ {ds es : List D} {vs us : List V}, aJ K F vs ds -> aJ K F us es -> aJ K F (vs ++ us) (ds ++ es)
 | [], _, _, _, h, h' => by rw [h.gh]; exact h'
 | d :: ds, _, _, _, h, h' => by
   obtain ⟨v, r, rfl, h1, t⟩ := h.cD
   exact .cons h1 (t.append h')
theorem aJ.set {v : V} {d : D} (hr : Rep K F v d) : ∀ {ds : List D} {vs : List V} (i : Nat), aJ K F vs ds -> aJ K F (vs.set i v) (ds.set i d)
 | [], _, _, h => by rw [h.gh]; exact .nil
 | _ :: _, _, 0, h => by
   obtain ⟨w, r, rfl, h1, t⟩ := h.cD
   exact .cons hr t
 | _ :: _, _, i + 1, h => by
   obtain ⟨w, r, rfl, h1, t⟩ := h.cD
   exact .cons h1 (aJ.set hr i t)
theorem aJ.take : ∀ {ds : List D} {vs : List V} (n : Nat), aJ K F vs ds -> aJ K F (vs.take n) (ds.take n)
 | [], _, n, h => by rw [h.gh]; simpa using aJ.nil
 | _ :: _, _, 0, h => .nil
 | _ :: _, _, n + 1, h => by
   obtain ⟨w, r, rfl, h1, t⟩ := h.cD
   exact .cons h1 (t.take n)
theorem aJ.drop : ∀ {ds : List D} {vs : List V} (n : Nat), aJ K F vs ds -> aJ K F (vs.drop n) (ds.drop n)
 | [], _, n, h => by rw [h.gh]; simpa using aJ.nil
 | _ :: _, _, 0, h => h
 | _ :: _, _, n + 1, h => by
   obtain ⟨w, r, rfl, h1, t⟩ := h.cD
   exact t.drop n
theorem aJ.rep {ds : List D} {vs : List V} (h : aJ K F vs ds) : ∀ n, aJ K F (List.replicate n vs).flatten (List.replicate n ds).flatten
 | 0 => by simpa using aJ.nil
 | n + 1 => by simpa [List.replicate_succ] using h.append (aJ.rep h n)
inductive Oc where
 | l (ds : List D) | d (m : Dc)
noncomputable def lst? : Sl -> Option Oc
 | .own _ ds => some (.l ds)
 | .lent ds => some (.l ds)
 | .km m => some (.d m)
 | _ => none
noncomputable def pK (K : PySem.W.Frag) (F : Hp) (o : HO) : Oc -> Prop
 | .l ds => ∃ xs, o = .lst xs /\ aJ K F xs ds
 | .d m => o = m.ho
theorem pK.mono {o : HO} {x : Oc} (e : aP F F') (h : pK K F o x) : pK K F' o x := by
 cases x with
 | l ds => obtain ⟨xs, e1, h⟩ := h; exact ⟨xs, e1, h.mono e⟩
 | d m => exact h
noncomputable def bN (ρ : List Sl) (σ : St) (i : Nat) (a : Addr) : Prop := (∃ s ds, ρ[i]? = some s /\ lst? s = some ds) /\ σ[i]? = some (some (V.ref a))
noncomputable def Own (ρ : List Sl) (σ : St) (a : Addr) : Prop := ∃ i, bN ρ σ i a
structure GS (K : PySem.W.Frag) (F : Hp) (ρ : List Sl) (σ : St) (H : Hp) : Prop where
 sub : aP F H
 len : ρ.length = σ.length
 val : ∀ (i : Nat) (b : Bool) (d : D), ρ[i]? = some (Sl.val b d) -> ∃ v : V, σ[i]? = some (some v) /\ Rep K F v d
 own : ∀ (i : Nat) (s : Sl) (ds : Oc), ρ[i]? = some s -> lst? s = some ds -> ∃ (a : Addr) (xs : HO), σ[i]? = some (some (V.ref a)) /\ H a = some xs /\ F a = none /\ pK K F xs ds
 dis : ∀ (i j : Nat) (a : Addr), bN ρ σ i a -> bN ρ σ j a -> i = j
theorem GS.o9 {ρ : List Sl} {σ : St} (g : GS K F ρ σ H) (i : Nat) (s : Sl) (ds : List D) (e : ρ[i]? = some s) (e' : lst? s = some (.l ds)) : ∃ (a : Addr) (xs : List V), σ[i]? = some (some (V.ref a)) /\ H a = some (.lst xs) /\ F a = none /\ aJ K F xs ds := by
 obtain ⟨a, o, h1, h2, h3, xs, rfl, h4⟩ := g.own i s (.l ds) e e'
 exact ⟨a, xs, h1, h2, h3, h4⟩
noncomputable def Ci : Sl -> Bool
 | .val b _ => b
 | .own b _ => b
 | .lent _ => true
 | .bj => false
 | .km _ => false
noncomputable def lF : Sl -> Sl -> Prop
 | .val true d, s => s = .val true d
 | .own true _, s => (∃ ds, s = .own true ds) \/ ∃ d, s = .val true d
 | .lent ds, s => s = .lent ds
 | _, _ => True
theorem lF.refl (s : Sl) : lF s s := by
 unfold lF; split <;> first | rfl | exact .inl ⟨_, rfl⟩ | trivial
theorem lF.Ci {s s' : Sl} (h : lF s s') (l : Ci s = true) : HH.Ci s' = true := by
 cases s with
 | bj => cases l
 | km _ => cases l
 | val b d => cases b with
   | true => cases h; rfl
   | false => cases l
 | own b d => cases b with
   | true => rcases h with ⟨_, rfl⟩ | ⟨_, rfl⟩ <;> rfl
   | false => cases l
 | lent d => cases h; rfl
theorem lF.trans {s s' s'' : Sl} (l : HH.Ci s = true) (h : lF s s') (h' : lF s' s'') : lF s s'' := by
 cases s with
 | bj => cases l
 | km _ => cases l
 | val b d => cases b with
   | true => cases h; exact h'
   | false => cases l
 | own b d => cases b with
   | true => rcases h with ⟨_, rfl⟩ | ⟨d, rfl⟩
             . exact h'
             . exact .inr ⟨d, h'⟩
   | false => cases l
 | lent d => cases h; exact h'
noncomputable def nt : Option HO -> Option HO
 | some (.tup _) => none
 | o => o
theorem mj {o : Option HO} (h : o = none) : nt o = none := by rw [h]; rfl
theorem Bv {H : Hp} {b : Addr} {xs : List V} (h : H b = some (.lst xs)) (z : nt (H b) = none) : False := by rw [h] at z; cases z
theorem zF {o : HO} {x : Oc} (h : pK K F o x) (z : nt (some o) = none) : False := by
 cases x with
 | l ds => obtain ⟨xs, rfl, _⟩ := h; cases z
 | d m => cases m <;> (cases (show o = _ from h); cases z)
structure bQ (K : PySem.W.Frag) (F : Hp) (ρ : List Sl) (σ : St) (H : Hp) (F' : Hp) (ρ' : List Sl) (σ' : St) (H' : Hp) : Prop where
 gs : GS K F' ρ' σ' H'
 dX : aP F F'
 yU : ∀ b, F b = none -> F' b ≠ none -> Own ρ σ b \/ nt (H b) = none
 keep : ∀ b o, H b = some o -> ¬ Own ρ σ b -> H' b = some o
 yP : ∀ b, Own ρ' σ' b -> Own ρ σ b \/ H b = none
 len : ρ'.length = ρ.length
 lk : ∀ (i : Nat) (s : Sl), ρ[i]? = some s -> Ci s = true -> σ'[i]? = σ[i]? /\ ∃ s', ρ'[i]? = some s' /\ lF s s'
theorem bQ.refl {ρ : List Sl} {σ : St} (g : GS K F ρ σ H) : bQ K F ρ σ H F ρ σ H :=
 ⟨g, aP.refl _, fun b h h' => absurd h h', fun _ _ h _ => h, fun _ h => .inl h, rfl, fun i s h _ => ⟨rfl, s, h, .refl s⟩⟩
theorem bQ.trans {F1 F2 H1 H2 : Hp} {ρ ρ1 ρ2 : List Sl} {σ σ1 σ2 : St} (a : bQ K F ρ σ H F1 ρ1 σ1 H1) (b : bQ K F1 ρ1 σ1 H1 F2 ρ2 σ2 H2) : bQ K F ρ σ H F2 ρ2 σ2 H2 := by
 have back : ∀ c, Own ρ1 σ1 c \/ H1 c = none -> Own ρ σ c \/ H c = none := fun c h => by
  rcases h with h | h
  . exact a.yP c h
  . by_cases ho : Own ρ σ c
    . exact .inl ho
    . right
      cases e : H c with
      | none => rfl
      | some o => rw [a.keep c o e ho] at h; cases h
 refine ⟨b.gs, a.dX.trans b.dX, fun c h h' => ?_, fun c o h n => ?_, fun c h => back c (b.yP c h), b.len.trans a.len, fun i s h l => ?_⟩
 . by_cases e : F1 c = none
   . by_cases ho : Own ρ σ c
     . exact .inl ho
     . rcases b.yU c e h' with z | z
       . exact (back c (.inl z)).imp id mj
       . right
         cases q : H c with
         | none => rfl
         | some o => rw [a.keep c o q ho] at z; exact z
   . exact a.yU c h e
 . refine b.keep c o (a.keep c o h n) fun h' => ?_
   rcases a.yP c h' with h' | h'
   . exact n h'
   . rw [h] at h'; cases h'
 . obtain ⟨e1, s1, h1, k1⟩ := a.lk i s h l
   obtain ⟨e2, s2, h2, k2⟩ := b.lk i s1 h1 (k1.Ci l)
   exact ⟨e2.trans e1, s2, h2, .trans l k1 k2⟩
noncomputable def dq (K : PySem.W.Frag) (F H : Hp) (v : V) (d : D) : Prop := Rep K F v d \/ ∃ a xs ds, v = .ref a /\ H a = some (.lst xs) /\ aJ K F xs ds /\ d = .lst ds
noncomputable def bZ (K : PySem.W.Frag) (F' : Hp) (ρ' : List Sl) (σ' : St) (H' : Hp) (ρ : List Sl) (σ : St) (H : Hp) (v : V) : R -> Prop
 | .val d => Rep K F' v d
 | .own ds => ∃ a xs, v = .ref a /\ H' a = some (.lst xs) /\ F' a = none /\ aJ K F' xs ds /\ ¬ Own ρ' σ' a /\ (Own ρ σ a \/ H a = none)
theorem aP.dh {F : Hp} {a : Addr} {o : HO} (h : F a = none) : aP F (upd F a o) := fun b u e => by
 have : b ≠ a := by rintro rfl; rw [h] at e; cases e
 rw [aN this]; exact e
theorem bQ.jc {ρ ρ' : List Sl} {σ σ' : St} {v : V} {r : R} (s : bQ K F ρ σ H F' ρ' σ' H') (h : bZ K F' ρ' σ' H' ρ σ H v r) :
 ∃ F'', bQ K F ρ σ H F'' ρ' σ' H' /\ aP F' F'' /\ Rep K F'' v r.d := by
 cases r with
 | val d => exact ⟨F', s, .refl _, h⟩
 | own ds =>
   obtain ⟨a, xs, rfl, h1, h2, h3, h4, h5⟩ := h
   have sm : aP F' (upd F' a (.lst xs)) := aP.dh h2
   refine ⟨upd F' a (.lst xs), ⟨⟨fun b o e => ?_, s.gs.len, fun i b d e => ?_, fun i sl ds' e e' => ?_, s.gs.dis⟩, s.dX.trans sm, fun b n n' => ?_, s.keep, s.yP, s.len, s.lk⟩, sm, ?_⟩
   . by_cases hb : b = a
     . subst hb; rw [bI] at e; cases e; exact h1
     . rw [aN hb] at e; exact s.gs.sub b o e
   . obtain ⟨v, e1, e2⟩ := s.gs.val i b d e
     exact ⟨v, e1, e2.mono sm⟩
   . obtain ⟨b, ys, e1, e2, e3, e4⟩ := s.gs.own i sl ds' e e'
     have hb : b ≠ a := by rintro rfl; exact h4 ⟨i, ⟨sl, ds', e, e'⟩, e1⟩
     exact ⟨b, ys, e1, e2, by rw [aN hb]; exact e3, e4.mono sm⟩
   . by_cases hb : b = a
     . subst hb; exact h5.imp id mj
     . rw [aN hb] at n'; exact s.yU b n n'
   . show Rep K _ _ (.lst ds)
     rw [Rep]; exact ⟨a, xs, rfl, fU.of bI, h3.mono sm⟩
theorem GS.pk {ρ : List Sl} {σ : St} {i : Nat} {d : D} (g : GS K F ρ σ H) (e : HH.pk ρ i = some d) : ∃ v : V, σ[i]? = some (some v) /\ dq K F H v d := by
 unfold HH.pk at e
 split at e
 . rename_i b d' h
   cases e
   obtain ⟨v, h1, h2⟩ := g.val i b d h
   exact ⟨v, h1, .inl h2⟩
 . rename_i b ds h
   cases e
   obtain ⟨a, xs, h1, h2, h3, h4⟩ := g.o9 i _ ds h rfl
   exact ⟨.ref a, h1, .inr ⟨a, xs, ds, rfl, h2, h4, rfl⟩⟩
 . rename_i ds h
   cases e
   obtain ⟨a, xs, h1, h2, h3, h4⟩ := g.o9 i _ ds h rfl
   exact ⟨.ref a, h1, .inr ⟨a, xs, ds, rfl, h2, h4, rfl⟩⟩
 . cases e
structure Ext (F H F' H' : Hp) : Prop where
 hs : aP H H'
 fs : aP F F'
 sub : aP F' H'
 gr : ∀ b, F b = none -> F' b ≠ none -> nt (H b) = none
theorem Ext.refl (h : aP F H) : Ext F H F H := ⟨.refl _, .refl _, h, fun _ a b => absurd a b⟩
theorem Ext.stp {ρ : List Sl} {σ : St} (g : GS K F ρ σ H) (e : Ext F H F' H') : bQ K F ρ σ H F' ρ σ H' := by
 refine ⟨⟨e.sub, g.len, fun i b d h => ?_, fun i s ds h h' => ?_, g.dis⟩, e.fs, fun b n n' => .inr (e.gr b n n'), fun b o h _ => e.hs b o h, fun _ h => .inl h, rfl, fun i s h _ => ⟨rfl, s, h, .refl s⟩⟩
 . obtain ⟨v, h1, h2⟩ := g.val i b d h
   exact ⟨v, h1, h2.mono e.fs⟩
 . obtain ⟨a, xs, h1, h2, h3, h4⟩ := g.own i s ds h h'
   refine ⟨a, xs, h1, e.hs _ _ h2, ?_, h4.mono e.fs⟩
   cases q : F' a with
   | none => rfl
   | some o => have := e.gr a h3 (by rw [q]; simp); rw [h2] at this; exact (zF h4 this).elim
noncomputable def cA (K : PySem.W.Frag) (F' H' H : Hp) (v : V) : R -> Prop
 | .val d => Rep K F' v d
 | .own ds => ∃ a xs, v = .ref a /\ H' a = some (.lst xs) /\ F' a = none /\ aJ K F' xs ds /\ H a = none
theorem cA.qL {ρ : List Sl} {σ : St} {v : V} {r : R} (g : GS K F ρ σ H) (h : cA K F' H' H v r) : bZ K F' ρ σ H' ρ σ H v r := by
 cases r with
 | val d => exact h
 | own ds =>
   obtain ⟨a, xs, rfl, h1, h2, h3, h4⟩ := h
   refine ⟨a, xs, rfl, h1, h2, h3, ?_, .inr h4⟩
   rintro ⟨i, ⟨s, ds', e, e'⟩, e2⟩
   obtain ⟨b, ys, q1, q2, _⟩ := g.own i s ds' e e'
   rw [e2] at q1; cases q1
   rw [h4] at q2; cases q2
theorem bZ.later {F1 H1 F2 H2 : Hp} {ρ ρ1 ρ2 : List Sl} {σ σ1 σ2 : St} {v : V} {r : R} (a : bQ K F ρ σ H F1 ρ1 σ1 H1) (h : bZ K F2 ρ2 σ2 H2 ρ1 σ1 H1 v r) : bZ K F2 ρ2 σ2 H2 ρ σ H v r := by
 cases r with
 | val d => exact h
 | own ds =>
   obtain ⟨b, xs, rfl, h1, h2, h3, h4, h5⟩ := h
   refine ⟨b, xs, rfl, h1, h2, h3, h4, ?_⟩
   rcases h5 with h5 | h5
   . exact a.yP b h5
   . by_cases ho : Own ρ σ b
     . exact .inl ho
     . right
       cases e : H b with
       | none => rfl
       | some o => rw [a.keep b o e ho] at h5; cases h5
end
end HH
end
section
namespace HH
open PySem L2 PySem.Spec PyProof.Rows
theorem aq {α β : Type} {x : Res α} {f : α -> List Sl -> Res β} {b : β} {ρ' : List Sl} (h : x.bind f = .ok b ρ') : ∃ a ρ, x = .ok a ρ /\ f a ρ = .ok b ρ' := by
 cases x with
 | ok a ρ => exact ⟨a, ρ, rfl, h⟩
 | exc _ _ => cases h
 | stuck => cases h
theorem aM {α : Type} {o : Option α} {ρ ρ' : List Sl} {a : α} (h : lift o ρ = .ok a ρ') : o = some a /\ ρ = ρ' := by
 cases o with
 | none => cases h
 | some b => cases h; exact ⟨rfl, rfl⟩
theorem map_some {α β : Type} {o : Option α} {f : α -> β} {b : β} (h : o.map f = some b) : ∃ a, o = some a /\ f a = b := by
 cases o with
 | none => cases h
 | some a => cases h; exact ⟨a, rfl, rfl⟩
theorem dZ {α β : Type} {o : Option α} {f : α -> Option β} {b : β} (h : o.bind f = some b) : ∃ a, o = some a /\ f a = some b := by
 cases o with
 | none => cases h
 | some a => exact ⟨a, rfl, h⟩
theorem bH {α : Type} {c : Prop} [Decidable c] {a b : α} (h : (if c then some a else none) = some b) : c /\ a = b := by
 split at h
 . rename_i hc; cases h; exact ⟨hc, rfl⟩
 . cases h
section
variable {X : Cx} {c : Call} {e a b : Expr} {p pa pb : P} {pos : Pos}
theorem fY {t t' : TE} (h : PE X e t) (i : ∀ σ H Q, t' σ H Q -> t σ H Q) : PE X e t' := fun pins s σ H Q I q => h pins s σ H Q I (i σ H Q q)
theorem Bx {t t' : TT} (h : PT X e t) (i : ∀ σ H Q, t' σ H Q -> t σ H Q) : PT X e t' := fun pins s σ H Q I q => h pins s σ H Q I (i σ H Q q)
theorem Gj {t t' : TT} (h : PW X e t) (i : ∀ σ H Q, t' σ H Q -> t σ H Q) : PW X e t' := fun wh pins s σ H Q I q => h wh pins s σ H Q I (i σ H Q q)
theorem uq {es : List Expr} {t t' : TA} (h : PA X es t) (i : ∀ σ H Q, t' σ H Q -> t σ H Q) : PA X es t' := fun pos pins s σ H Q I q => h pos pins s σ H Q I (i σ H Q q)
inductive Bh (K : PySem.W.Frag) (f : Ev) (σ : L2.St) (H : Hp) (Q : VK) : Prop where
 | mk (F : Hp) (ρ : List Sl) (r : R) (ρ' : List Sl) (g : GS K F ρ σ H) (e : f ρ = .ok r ρ') (k : ∀ v F' H', bQ K F ρ σ H F' ρ' σ H' -> bZ K F' ρ' σ H' ρ σ H v r -> Q v H')
inductive Gy (K : PySem.W.Frag) (f : List Sl -> Res Bool) (σ : L2.St) (H : Hp) (Q : Bool -> Hp -> Prop) : Prop where
 | mk (F : Hp) (ρ : List Sl) (b : Bool) (ρ' : List Sl) (g : GS K F ρ σ H) (e : f ρ = .ok b ρ') (k : ∀ F' H', bQ K F ρ σ H F' ρ' σ H' -> Q b H')
inductive W0 (K : PySem.W.Frag) (f : List Sl -> Res (List D)) (σ : L2.St) (H : Hp) (Q : List V -> Hp -> Prop) : Prop where
 | mk (F : Hp) (ρ : List Sl) (ds : List D) (ρ' : List Sl) (g : GS K F ρ σ H) (e : f ρ = .ok ds ρ') (k : ∀ vs F' H', bQ K F ρ σ H F' ρ' σ H' -> aJ K F' vs ds -> Q vs H')
structure SX (X : Cx) (c : Call) (e : Expr) (p : P) : Prop where
 ev : PE X e (Bh X.K (HH.ev c p))
 var : ∀ i, isVar p = some i -> PE X e (Oz i)
noncomputable def SA (X : Cx) (c : Call) (es : List Expr) (ps : List P) : Prop := PA X es (W0 X.K (evs c ps)) /\ ps.length = es.length
theorem SX.fV (h : SX X c e p) : ∃ t, PE X e t /\ ∀ {σ : L2.St} {H F : Hp} {ρ ρ' : List Sl} {d : D} {Q : VK}, GS X.K F ρ σ H -> fV (isVar p) (HH.ev c p) ρ = .ok d ρ' ->
 (∀ v F' H', bQ X.K F ρ σ H F' ρ' σ H' -> dq X.K F' H' v d -> Q v H') -> t σ H Q := by
 cases hv : isVar p with
 | none =>
   refine ⟨_, h.ev, fun {σ H F ρ ρ' d Q} g e k => ?_⟩
   obtain ⟨r, ρ1, e1, e2⟩ := aq e
   cases e2
   refine ⟨F, ρ, r, _, g, e1, fun v F' H' s rr => ?_⟩
   obtain ⟨F'', s', _, rp⟩ := s.jc rr
   exact k v F'' H' s' (.inl rp)
 | some i =>
   refine ⟨_, h.var i hv, fun {σ H F ρ ρ' d Q} g e k => ?_⟩
   obtain ⟨e1, e2⟩ := aM e
   subst e2
   obtain ⟨v, h1, h2⟩ := g.pk e1
   exact ⟨v, h1, k v F H (.refl g) h2⟩
theorem SX.lD (ha : SX X c a pa) (hb : SX X c b pb) : ∃ ta tb, PE X a ta /\ PE X b tb /\ ∀ {σ : L2.St} {H F : Hp} {ρ ρ' : List Sl} {xy : D × D} {R : V -> V -> Hp -> Prop}, GS X.K F ρ σ H ->
 lD (isVar pa) (HH.ev c pa) (isVar pb) (HH.ev c pb) ρ = .ok xy ρ' -> (∀ v u F' H', bQ X.K F ρ σ H F' ρ' σ H' -> dq X.K F' H' v xy.1 -> dq X.K F' H' u xy.2 -> R v u H') -> ta σ H fun x H1 => tb σ H1 fun y H2 => R x y H2 := by
 obtain ⟨tb, hb1, hb2⟩ := hb.fV
 cases hv : isVar pa with
 | none =>
   refine ⟨_, tb, ha.ev, hb1, fun {σ H F ρ ρ' xy R} g e k => ?_⟩
   obtain ⟨x, ρ1, e1, e⟩ := aq e
   obtain ⟨y, ρ2, e2, e⟩ := aq e
   cases e
   obtain ⟨r, ρ1', e1, e0⟩ := aq e1
   cases e0
   refine ⟨F, ρ, r, _, g, e1, fun v F' H' s rr => ?_⟩
   obtain ⟨F1, s1, _, rp⟩ := s.jc rr
   refine hb2 s1.gs e2 fun u F2 H2 s2 pu => ?_
   exact k v u F2 H2 (s1.trans s2) (.inl (rp.mono s2.dX)) pu
 | some i =>
   refine ⟨_, tb, ha.var i hv, hb1, fun {σ H F ρ ρ' xy R} g e k => ?_⟩
   obtain ⟨x0, ρ0, e0, e⟩ := aq e
   obtain ⟨Xu, BV⟩ := aM e0
   subst BV
   obtain ⟨y, ρ1, e1, e⟩ := aq e
   obtain ⟨x, ρ2, e2, e⟩ := aq e
   cases e
   have zz := aM e2; clear e2; obtain ⟨e2, e3⟩ := zz
   subst e3
   obtain ⟨v, h1, _⟩ := g.pk Xu
   refine ⟨v, h1, hb2 g e1 fun u F1 H1 s1 pu => ?_⟩
   obtain ⟨v', h1', pv⟩ := s1.gs.pk e2
   rw [h1] at h1'
   cases h1'
   exact k v u F1 H1 s1 pv pu
inductive rD (K : PySem.W.Frag) (f : D -> D -> Option R) (x y : V) (H : Hp) (Q : VK) : Prop where
 | mk (F : Hp) (d e : D) (r : R) (sm : aP F H) (px : dq K F H x d) (py : dq K F H y e) (he : f d e = some r) (k : ∀ v F' H', Ext F H F' H' -> cA K F' H' H v r -> Q v H')
inductive Yb (K : PySem.W.Frag) (f : D -> Option R) (x : V) (H : Hp) (Q : VK) : Prop where
 | mk (F : Hp) (d : D) (r : R) (sm : aP F H) (px : dq K F H x d) (he : f d = some r) (k : ∀ v F' H', Ext F H F' H' -> cA K F' H' H v r -> Q v H')
theorem vG {E : Expr} {f : D -> D -> Option R} {q : P} (hp : ∀ {ta tb}, PE X a ta -> PE X b tb -> PE X E (MP (rD X.K f) ta tb)) (ha : SX X c a pa) (hb : SX X c b pb)
 (hq : ∀ ρ, HH.ev c q ρ = (HH.lD (isVar pa) (HH.ev c pa) (isVar pb) (HH.ev c pb) ρ).bind fun xy ρ => lift (f xy.1 xy.2) ρ) (hv : isVar q = none) : SX X c E q := by
 obtain ⟨ta, tb, h1, h2, h3⟩ := ha.lD hb
 refine ⟨fY (hp h1 h2) ?_, fun i h => by rw [hv] at h; cases h⟩
 rintro σ H Q ⟨F, ρ, r, ρ', g, e, k⟩
 rw [hq] at e
 obtain ⟨xy, ρ1, e1, e2⟩ := aq e
 have zz := aM e2; clear e2; obtain ⟨e2, e3⟩ := zz
 subst e3
 refine h3 g e1 fun v u F' H' s pv pu => ⟨F', xy.1, xy.2, r, s.gs.sub, pv, pu, e2, fun w F2 H2 x rn => ?_⟩
 exact k w F2 H2 (s.trans (x.stp s.gs)) (.later s (rn.qL s.gs))
theorem Kg {E : Expr} {f : D -> Option R} {q : P} (hp : ∀ {ta}, PE X a ta -> PE X E (Yr (Yb X.K f) ta)) (ha : SX X c a pa)
 (hq : ∀ ρ, HH.ev c q ρ = (HH.fV (isVar pa) (HH.ev c pa) ρ).bind fun x ρ => lift (f x) ρ) (hv : isVar q = none) : SX X c E q := by
 obtain ⟨ta, h1, h3⟩ := ha.fV
 refine ⟨fY (hp h1) ?_, fun i h => by rw [hv] at h; cases h⟩
 rintro σ H Q ⟨F, ρ, r, ρ', g, e, k⟩
 rw [hq] at e
 obtain ⟨x, ρ1, e1, e2⟩ := aq e
 have zz := aM e2; clear e2; obtain ⟨e2, e3⟩ := zz
 subst e3
 refine h3 g e1 fun v F' H' s pv => ⟨F', x, r, s.gs.sub, pv, e2, fun w F2 H2 x rn => ?_⟩
 exact k w F2 H2 (s.trans (x.stp s.gs)) (.later s (rn.qL s.gs))
theorem GS.freeze {K : PySem.W.Frag} {F H : Hp} {ρ : List Sl} {σ : L2.St} {i : Nat} {b : Bool} {ds : List D} (g : GS K F ρ σ H) (e : ρ[i]? = some (.own b ds)) :
 ∃ v F', σ[i]? = some (some v) /\ bQ K F ρ σ H F' (ρ.set i (.val b (.lst ds))) σ H /\ Rep K F' v (.lst ds) := by
 obtain ⟨a, xs, h1, h2, h3, h4⟩ := g.o9 i _ ds e rfl
 have hi : i < ρ.length := (List.getElem?_eq_some_iff.mp e).1
 have sm : aP F (upd F a (.lst xs)) := aP.dh h3
 have rp : Rep K (upd F a (.lst xs)) (.ref a) (.lst ds) := by rw [Rep]; exact ⟨a, xs, rfl, fU.of bI, h4.mono sm⟩
 have oa : Own ρ σ a := ⟨i, ⟨_, _, e, rfl⟩, h1⟩
 have old : ∀ j x, bN (ρ.set i (.val b (.lst ds))) σ j x -> bN ρ σ j x /\ j ≠ i := fun j x ⟨⟨s, ds', q1, q2⟩, q3⟩ => by
  by_cases hj : j = i
  . subst hj; rw [List.getElem?_set_self hi] at q1; cases q1; cases q2
  . rw [List.getElem?_set_ne (Ne.symm hj)] at q1; exact ⟨⟨⟨s, ds', q1, q2⟩, q3⟩, hj⟩
 refine ⟨.ref a, upd F a (.lst xs), h1, ⟨⟨fun x o q => ?_, by simpa using g.len, fun j b' d q => ?_, fun j s ds' q q' => ?_, fun j k x q q' => g.dis j k x (old j x q).1 (old k x q').1⟩, sm, fun x n n' => ?_, fun _ _ q _ => q, fun x ⟨j, q⟩ => .inl ⟨j, (old j x q).1⟩, by simp, fun j s q l => ⟨rfl, ?_⟩⟩, rp⟩
 . by_cases hx : x = a
   . subst hx; rw [bI] at q; cases q; exact h2
   . rw [aN hx] at q; exact g.sub x o q
 . by_cases hj : j = i
   . subst hj; rw [List.getElem?_set_self hi] at q; cases q; exact ⟨_, h1, rp⟩
   . rw [List.getElem?_set_ne (Ne.symm hj)] at q
     obtain ⟨v, q1, q2⟩ := g.val j b' d q
     exact ⟨v, q1, q2.mono sm⟩
 . by_cases hj : j = i
   . subst hj; rw [List.getElem?_set_self hi] at q; cases q; cases q'
   . rw [List.getElem?_set_ne (Ne.symm hj)] at q
     obtain ⟨x, ys, q1, q2, q3, q4⟩ := g.own j s ds' q q'
     have hx : x ≠ a := by rintro rfl; exact hj (g.dis j i x ⟨⟨s, ds', q, q'⟩, q1⟩ ⟨⟨_, _, e, rfl⟩, h1⟩)
     exact ⟨x, ys, q1, q2, by rw [aN hx]; exact q3, q4.mono sm⟩
 . by_cases hx : x = a
   . subst hx; exact .inl oa
   . rw [aN hx] at n'; exact absurd n n'
 . by_cases hj : j = i
   . subst hj
     rw [e] at q; cases q
     refine ⟨_, List.getElem?_set_self hi, ?_⟩
     cases b with
     | true => exact .inr ⟨_, rfl⟩
     | false => cases l
   . exact ⟨s, by rw [List.getElem?_set_ne (Ne.symm hj)]; exact q, .refl s⟩
theorem GS.DR {K : PySem.W.Frag} {F H : Hp} {ρ : List Sl} {σ : L2.St} {i : Nat} {m : Dc} (g : GS K F ρ σ H) (e : ρ[i]? = some (.km m)) :
 ∃ a, σ[i]? = some (some (.ref a)) /\ H a = some m.ho /\ ∀ ob, bQ K F ρ σ H (upd F a (.jc ob m.ho)) (ρ.set i (.val false (.dB m))) σ (upd H a (.jc ob m.ho)) /\ Rep K (upd F a (.jc ob m.ho)) (.ref a) (.dB m) := by
 obtain ⟨a, o0, h1, h2, h3, h4⟩ := g.own i _ _ e rfl
 cases (show o0 = m.ho from h4)
 have hi : i < ρ.length := (List.getElem?_eq_some_iff.mp e).1
 refine ⟨a, h1, h2, fun ob => ?_⟩
 have sm : aP F (upd F a (.jc ob m.ho)) := aP.dh h3
 have rp : Rep K (upd F a (.jc ob m.ho)) (.ref a) (.dB m) := by rw [Rep]; exact ⟨a, ob, rfl, bI⟩
 have oa : Own ρ σ a := ⟨i, ⟨_, _, e, rfl⟩, h1⟩
 have old : ∀ j x, bN (ρ.set i (.val false (.dB m))) σ j x -> bN ρ σ j x /\ j ≠ i := fun j x ⟨⟨s, ds', q1, q2⟩, q3⟩ => by
  by_cases hj : j = i
  . subst hj; rw [List.getElem?_set_self hi] at q1; cases q1; cases q2
  . rw [List.getElem?_set_ne (Ne.symm hj)] at q1; exact ⟨⟨⟨s, ds', q1, q2⟩, q3⟩, hj⟩
 refine ⟨⟨⟨fun x o q => ?_, by simpa using g.len, fun j b' d q => ?_, fun j s ds' q q' => ?_, fun j k x q q' => g.dis j k x (old j x q).1 (old k x q').1⟩, sm, fun x n n' => ?_, fun x o q n => ?_, fun x ⟨j, q⟩ => .inl ⟨j, (old j x q).1⟩, by simp, fun j s q l => ⟨rfl, ?_⟩⟩, rp⟩
 . by_cases hx : x = a
   . subst hx; rw [bI] at q ⊢; exact q
   . rw [aN hx] at q ⊢; exact g.sub x o q
 . by_cases hj : j = i
   . subst hj; rw [List.getElem?_set_self hi] at q; cases q; exact ⟨_, h1, rp⟩
   . rw [List.getElem?_set_ne (Ne.symm hj)] at q
     obtain ⟨v, q1, q2⟩ := g.val j b' d q
     exact ⟨v, q1, q2.mono sm⟩
 . by_cases hj : j = i
   . subst hj; rw [List.getElem?_set_self hi] at q; cases q; cases q'
   . rw [List.getElem?_set_ne (Ne.symm hj)] at q
     obtain ⟨x, ys, q1, q2, q3, q4⟩ := g.own j s ds' q q'
     have hx : x ≠ a := by rintro rfl; exact hj (g.dis j i x ⟨⟨s, ds', q, q'⟩, q1⟩ ⟨⟨_, _, e, rfl⟩, h1⟩)
     exact ⟨x, ys, q1, by rw [aN hx]; exact q2, by rw [aN hx]; exact q3, q4.mono sm⟩
 . by_cases hx : x = a
   . subst hx; exact .inl oa
   . rw [aN hx] at n'; exact absurd n n'
 . have hx : x ≠ a := by rintro rfl; exact n oa
   rw [aN hx]; exact q
 . by_cases hj : j = i
   . subst hj
     rw [e] at q; cases q; cases l
   . exact ⟨s, by rw [List.getElem?_set_ne (Ne.symm hj)]; exact q, .refl s⟩
theorem Inv.V2 {X : Cx} {pins : List (Addr × Obj)} {σ : L2.St} {H : Hp} {s : Shared} {a : Addr} {kvs : List (Key × V)} (I : L2.Inv X pins σ H s) (h : H a = some (.dK kvs)) : ∃ o, L2.Inv X pins σ (upd H a (.jc o (.dK kvs))) s := by
 obtain ⟨hz, hS, vs, r, dd⟩ := (show di X.prog X.w H s.heap a (.dK kvs) from I.hok a _ h)
 obtain ⟨o, ho, _⟩ := dd.typeIs
 exact ⟨o, I.write (h' := s.heap) (t' := s.toks) (by rw [h]; exact trivial) (.inl rfl) (fun b u _ e => e) ⟨o, ho⟩ ⟨ho, hz, hS, vs, r, dd⟩⟩
theorem Jd {i : Nat} {x : Str} (hN : X.N[i]? = some x) (hv : G7 X.env.scope x) (hd : (x == ("__debug__" : Str)) = false := by decide) (hcd : (x == ("__classdict__" : Str)) = false := by decide) : SX X c (.Name x pos) (.var i) := by
 have h := qJ (X := X) (pos := pos) hN hv hd hcd
 refine ⟨?_, fun j hj => by cases hj; exact h⟩
 rintro pins s σ H Q I ⟨F, ρ, r, ρ', g, e, k⟩
 rw [HH.ev] at e
 split at e
 . rename_i b d q
   cases e
   obtain ⟨v, h1, h2⟩ := g.val i b d q
   exact h pins s σ H Q I ⟨v, h1, k v F H (.refl g) h2⟩
 . rename_i b ds q
   cases e
   obtain ⟨v, F', h1, h2, h3⟩ := g.freeze q
   exact h pins s σ H Q I ⟨v, h1, k v F' H h2 h3⟩
 . rename_i kvs q
   cases e
   obtain ⟨a, h1, h2, h3⟩ := g.DR q
   refine dN (h pins s σ H (fun v H' => v = .ref a /\ H' = H) I ⟨.ref a, h1, rfl, rfl⟩) fun u s1 ⟨v, H1, I1, r1, e1, e2⟩ => ?_
   subst e1 e2
   obtain ⟨o, I2⟩ := Inv.V2 I1 h2
   exact ⟨.ref a, _, I2, r1, k _ _ _ (h3 o).1 (h3 o).2⟩
 . cases e
theorem BJ {d : D} {v : V} (h : PE X e (tC v)) (hr : ∀ F, Rep X.K F v d) : SX X c e (.con d) :=
 ⟨fY h fun σ H Q ⟨F, ρ, r, ρ', g, e, k⟩ => by rw [HH.ev] at e; cases e; exact k v F H (.refl g) (hr F), fun i h => by cases h⟩
theorem ak {i j} : SX X c (.Constant (.int i) j pos) (.con (.int i)) := BJ KR fun F => by rw [Rep]
theorem jV {i j} : SX X c (.Constant (.bool i) j pos) (.con (.bl i)) := BJ Qq fun F => by rw [Rep]
theorem dq.int {K : PySem.W.Frag} {F H : Hp} {v : V} {i : Int} (h : dq K F H v (.int i)) : v = .int i := by
 rcases h with h | ⟨_, _, _, _, _, _, h⟩
 . rw [Rep] at h; exact h
 . cases h
theorem dq.bl {K : PySem.W.Frag} {F H : Hp} {v : V} {i : Bool} (h : dq K F H v (.bl i)) : v = .bl i := by
 rcases h with h | ⟨_, _, _, _, _, _, h⟩
 . rw [Rep] at h; exact h
 . cases h
theorem dq.str {K : PySem.W.Frag} {F H : Hp} {v : V} {i : Str} (h : dq K F H v (.str i)) : v = .str i := by
 rcases h with h | ⟨_, _, _, _, _, _, h⟩
 . rw [Rep] at h; exact h
 . cases h
theorem dq.non {K : PySem.W.Frag} {F H : Hp} {v : V} (h : dq K F H v .non) : v = .non := by
 rcases h with h | ⟨_, _, _, _, _, _, h⟩
 . rw [Rep] at h; exact h
 . cases h
theorem dq.tup {K : PySem.W.Frag} {F H : Hp} {v : V} {ds : List D} (s : aP F H) (h : dq K F H v (.tup ds)) : ∃ a xs, v = .ref a /\ jr K H a xs /\ aJ K F xs ds /\ Rep K F v (.tup ds) := by
 rcases h with h | ⟨_, _, _, _, _, _, h⟩
 . have h' := h
   rw [Rep] at h
   obtain ⟨a, xs, rfl, h1, h2⟩ := h
   exact ⟨a, xs, rfl, aP.jz s h1, h2, h'⟩
 . cases h
theorem dq.lst {K : PySem.W.Frag} {F H : Hp} {v : V} {ds : List D} (s : aP F H) (h : dq K F H v (.lst ds)) : ∃ a xs, v = .ref a /\ fU K H a xs /\ aJ K F xs ds := by
 rcases h with h | ⟨a, xs, es, h1, h2, h3, h⟩
 . rw [Rep] at h
   obtain ⟨a, xs, rfl, h1, h2⟩ := h
   exact ⟨a, xs, rfl, s.seq h1, h2⟩
 . cases h
   exact ⟨a, xs, h1, fU.of h2, h3⟩
theorem dq.dB {K : PySem.W.Frag} {F H : Hp} {v : V} {m : Dc} (s : aP F H) (h : dq K F H v (.dB m)) : ∃ a o, v = .ref a /\ H a = some (.jc o m.ho) := by
 rcases h with h | ⟨_, _, _, _, _, _, h⟩
 . rw [Rep] at h
   obtain ⟨a, o, rfl, h⟩ := h
   exact ⟨a, o, rfl, s _ _ h⟩
 . cases h
theorem Ag {X : Cx} {pins : List (Addr × Obj)} {σ : L2.St} {H : Hp} {s : Shared} {a : Addr} {ob : Obj} {m : Dc} (I : L2.Inv X pins σ H s) (h : H a = some (.jc ob m.ho)) : ∃ o, s.heap.get? a = some o /\ o.cls = .type "dict" := by
 have z := (show di X.prog X.w H s.heap a (.jc ob m.ho) from I.hok a _ h).2
 cases m with
 | k kvs =>
   obtain ⟨_, _, vs, _, d2⟩ := (show di X.prog X.w H s.heap a (.dK _) from z)
   exact d2.typeIs
 | t kvs =>
   obtain ⟨_, _, xs, _, o, es, ep, h1, h2, _⟩ := (show di X.prog X.w H s.heap a (.dT _) from z)
   exact ⟨o, h1, h2.1⟩
theorem dq.items {K : PySem.W.Frag} {F H : Hp} {v : V} {d : D} {ds : List D} (s : aP F H) (h : dq K F H v d) (e : items d = some ds) : ∃ a xs, v = .ref a /\ (fU K H a xs \/ jr K H a xs) /\ aJ K F xs ds := by
 cases d with
 | tup es => cases e; obtain ⟨a, xs, h1, h2, h3, _⟩ := h.tup s; exact ⟨a, xs, h1, .inr h2, h3⟩
 | lst es => cases e; obtain ⟨a, xs, h1, h2, h3⟩ := h.lst s; exact ⟨a, xs, h1, .inl h2, h3⟩
 | _ => cases e
theorem cA.dO {K : PySem.W.Frag} {F H : Hp} {Q : VK} {v : V} {d : D} (s : aP F H) (r : Rep K F v d) (k : ∀ v F' H', Ext F H F' H' -> cA K F' H' H v (.val d) -> Q v H') : Q v H := k v F H (.refl s) r
theorem cP {K : PySem.W.Frag} {F : Hp} (i : Int) : Rep K F (.int i) (.int i) := by rw [Rep]
theorem lQ {K : PySem.W.Frag} {F : Hp} (i : Bool) : Rep K F (.bl i) (.bl i) := by rw [Rep]
theorem Kd {K : PySem.W.Frag} {F : Hp} (i : Str) : Rep K F (.str i) (.str i) := by rw [Rep]
theorem JR {K : PySem.W.Frag} {F : Hp} : Rep K F .non .non := by rw [Rep]
theorem vH {K : PySem.W.Frag} {F H : Hp} {Q : VK} {xs : List V} {ds : List D} {p : Addr} (s : aP F H) (r : aJ K F xs ds) (hp : H p = none) (k : ∀ v F' H', Ext F H F' H' -> cA K F' H' H v (.own ds) -> Q v H') : Q (.ref p) (upd H p (.lst xs)) := by
 have fp : F p = none := by
  cases q : F p with
  | none => rfl
  | some o => rw [s p o q] at hp; cases hp
 exact k _ F _ ⟨aP.dh hp, .refl _, s.trans (aP.dh hp), fun _ a b => absurd a b⟩ ⟨p, xs, rfl, bI, fp, r, hp⟩
theorem Bc {K : PySem.W.Frag} {F H : Hp} {Q : VK} {xs : List V} {ds : List D} {p : Addr} (s : aP F H) (r : aJ K F xs ds) (hp : H p = none) (k : ∀ v F' H', Ext F H F' H' -> cA K F' H' H v (.val (.tup ds)) -> Q v H') : Q (.ref p) (upd H p (.tup xs)) := by
 have fp : F p = none := by
  cases q : F p with
  | none => rfl
  | some o => rw [s p o q] at hp; cases hp
 have sm : aP F (upd F p (.tup xs)) := aP.dh fp
 refine k _ (upd F p (.tup xs)) _ ⟨aP.dh hp, sm, fun b o e => ?_, fun b n n' => ?_⟩ ?_
 . by_cases hb : b = p
   . subst hb; rw [bI] at e ⊢; exact e
   . rw [aN hb] at e ⊢; exact s b o e
 . by_cases hb : b = p
   . subst hb; exact mj hp
   . rw [aN hb] at n'; exact absurd n n'
 . show Rep K _ _ (.tup ds)
   rw [Rep]; exact ⟨p, xs, rfl, jr.of bI, r.mono sm⟩
end
end HH
end
section
namespace HH
open PySem L2 PySem.Spec PyProof.Rows
theorem oZ (k : Int) (t : Tok) (l : Addr) (its : Array Value) (n : Nat) (dd : Option Addr) (sl : Array (Option Value)) :
 Meets (Builtin.«int.__rmul__» ⟨[.int k t, .ref l], []⟩) (fun _ R s => s.heap.get? l = some ⟨.type "list", dd, .seq its n, sl⟩ /\ R (.ok (.ret Value.notImplemented)) s) :=
 .of_wp fun prog w A R s h => by
  obtain ⟨hp, g, d, tk, os⟩ := s
  obtain ⟨hl, h⟩ := h
  wp_walk
  exact ⟨_, rfl, h⟩
theorem ym (l : Addr) (its : Array Value) (n : Nat) (dd : Option Addr) (sl : Array (Option Value)) (k : Int) (t : Tok) (h0 : ¬(!Builtin.List.listFitsIndex k) = true) (h1 : ¬its.size * k.toNat > (2 ^ 63 - 1) / 8) (h2 : ¬Builtin.List.listTooLong (its.size * k.toNat) = true) :
 Meets (Builtin.«list.__mul__» ⟨[.ref l, .int k t], []⟩) (fun _ R s => s.heap.get? l = some ⟨.type "list", dd, .seq its n, sl⟩ /\
  R (.ok (.ret (Value.ref s.heap.objs.size))) { s with heap := s.heap.push { cls := .type "list", data := .seq (List.foldl (· ++ ·) #[] (List.replicate (if its.isEmpty = true then 0 else k.toNat) its)) } }) :=
 .of_wp fun prog w A R s h => by
  obtain ⟨hp, g, d, tk, os⟩ := s
  obtain ⟨hl, h⟩ := h
  have hz := AutoListH.joined_fits h2
  wp_walk using wpAny_loadPart' hl
  refine wpAny_ite_false (decide_eq_false (Nat.not_lt.mpr hz)) ?_
  wp_walk
  exact ⟨_, rfl, h⟩
section
variable {X : Cx} {c : Call} {e a b d : Expr} {p pa pb pd : P} {pos : Pos}
theorem De : gF X (binaryOp .Add) (fun x y H Q => ∃ l b xs zs, x = .ref l /\ y = .ref b /\ fU X.K H l xs /\ fU X.K H b zs /\ xs.length + zs.length <= sizeLine /\ ∀ p, H p = none -> Q (.ref p) (upd H p (.lst (xs ++ zs)))) := by
 intro pins s σ H x y v u Q I rx ry h
 obtain ⟨l, b, xs, zs, rfl, rfl, hl, hb, hz, q⟩ := h
 cases rx
 cases ry
 obtain ⟨its, r, pl, _⟩ := I.list hl
 obtain ⟨its2, r2, pl2, _⟩ := I.list hb
 obtain ⟨⟨cls, dd, data, sl⟩, ho, hc, n, hd⟩ := id pl.isList
 obtain ⟨⟨cls2, dd2, data2, sl2⟩, ho2, hc2, n2, hd2⟩ := id pl2.isList
 simp only at hc hd hc2 hd2
 subst hc hd hc2 hd2
 have e : its.toArray ++ its2.toArray = (its ++ its2).toArray := by simp
 refine concat_meets ⟨_, ho, rfl⟩ ⟨_, ho2, rfl⟩ noFill_list_add seq_list_add PySem.F.slot_list_add PySem.F.entry_list_add (PySem.F.args_list_add_2 _ _) (list_addW l b its.toArray its2.toArray n n2 dd dd2 sl sl2 (by simp only [List.size_toArray]; rw [<- r.length, <- r2.length]; exact hz)) ⟨ho, ho2, ?_⟩
 rw [e]
 exact ⟨.ref _, _, I.Kf (t' := s.toks) (r.append r2) (by rw [List.length_append]; exact hz), rfl, q _ I.fresh⟩
theorem Aa : gF X (binaryOp .Add) (fun x y H Q => ∃ a b ys, x = .ref a /\ y = .ref b /\ jr X.K H a [] /\ jr X.K H b ys /\ Q (.ref b) H) := by
 intro pins s σ H x y v u Q I rx ry h
 obtain ⟨a, b, ys, rfl, rfl, ha, hb, q⟩ := h
 cases rx
 cases ry
 obtain ⟨its, r1, p1, _⟩ := I.tuple ha
 obtain ⟨its2, r2, p2, _⟩ := I.tuple hb
 obtain ⟨⟨cls, dd, data, sl⟩, ho, hc, n, hd⟩ := id p1
 obtain ⟨⟨cls2, dd2, data2, sl2⟩, ho2, hc2, n2, hd2⟩ := id p2
 simp only at hc hd hc2 hd2
 subst hc hd hc2 hd2
 have e0 : its = [] := r1.mK.mpr rfl
 subst e0
 exact concat_meets ⟨_, ho, rfl⟩ ⟨_, ho2, rfl⟩ noFill_tuple_add seq_tuple_add PySem.F.slot_tuple_add PySem.F.entry_tuple_add (PySem.F.args_tuple_add_2 _ _)
  (tuple_addW0 a b _ its2.toArray n n2 dd dd2 sl sl2 (by simp)) ⟨ho, ho2, ⟨.ref b, H, I, rfl, q⟩⟩
theorem aU : gF X (binaryOp .Add) (rD X.K (tQ .add)) := by
 rintro pins s σ H x y v u Q I rx ry ⟨F, d, e, r, sm, px, py, he, k⟩
 replace he : nP d e = some r := he
 unfold nP at he
 split at he
 . cases he
   rw [px.int] at rx; rw [py.int] at ry
   exact J1 pins s σ H _ _ v u Q I rx ry ⟨_, _, rfl, rfl, cA.dO sm (cP _) k⟩
 . rename_i xs ys
   obtain ⟨hl, he⟩ := bH he
   subst he
   obtain ⟨a, vs, rfl, ha, ra⟩ := px.lst sm
   obtain ⟨b, us, rfl, hb, rb⟩ := py.lst sm
   exact De pins s σ H _ _ v u Q I rx ry ⟨a, b, vs, us, rfl, rfl, ha, hb, by rw [ra.length, rb.length]; exact hl, fun p hp => vH sm (ra.append rb) hp k⟩
 . rename_i xs ys
   obtain ⟨hl, he⟩ := bH he
   subst he
   obtain ⟨a, vs, rfl, ha, ra, ta⟩ := px.tup sm
   obtain ⟨b, us, rfl, hb, rb, tb⟩ := py.tup sm
   by_cases h0 : vs = []
   . subst h0
     have e0 : xs = [] := by have := ra.length; exact List.eq_nil_of_length_eq_zero this.symm
     subst e0
     exact Aa pins s σ H _ _ v u Q I rx ry ⟨a, b, us, rfl, rfl, ha, hb, cA.dO sm tb k⟩
   . refine Fv pins s σ H _ _ v u Q I rx ry ⟨a, b, vs, us, rfl, rfl, ha, hb, h0, by rw [ra.length, rb.length]; exact hl, fun e => ?_, fun _ p hp => Bc sm (ra.append rb) hp k⟩
     subst e
     have e0 : ys = [] := by have := rb.length; exact List.eq_nil_of_length_eq_zero this.symm
     subst e0
     rw [List.append_nil] at k
     exact cA.dO sm ta k
 . rename_i x1 y1
   obtain ⟨hl, he⟩ := bH he
   subst he
   rw [px.str] at rx; rw [py.str] at ry
   exact vq pins s σ H _ _ v u Q I rx ry ⟨_, _, rfl, rfl, hl, cA.dO sm (Kd _) k⟩
 . cases he
theorem eE : gF X (binaryOp .Sub) (rD X.K (tQ .sub)) := by
 rintro pins s σ H x y v u Q I rx ry ⟨F, d, e, r, sm, px, py, he, k⟩
 replace he : uz d e = some r := he
 unfold uz at he
 split at he
 . cases he
   rw [px.int] at rx; rw [py.int] at ry
   exact Hv pins s σ H _ _ v u Q I rx ry ⟨_, _, rfl, rfl, cA.dO sm (cP _) k⟩
 . cases he
theorem Df : gF X (binaryOp .Mult) (fun x y H Q => ∃ l k xs, x = .ref l /\ y = .int k /\ fU X.K H l xs /\ -(2 ^ 63) <= k /\ k < 2 ^ 63 /\ xs.length * k.toNat <= sizeLine /\ ∀ p, H p = none -> Q (.ref p) (upd H p (.lst (List.replicate k.toNat xs).flatten))) := by
 intro pins s σ H x y v u Q I rx ry h
 obtain ⟨l, k, xs, rfl, rfl, hl, h1, h2, hz, q⟩ := h
 cases rx
 obtain ⟨t, rfl⟩ := ry
 obtain ⟨its, r, pl, _⟩ := I.list hl
 obtain ⟨⟨cls, dd, data, sl⟩, ho, hc, n, hd⟩ := id pl.isList
 simp only at hc hd
 subst hc hd
 have hlen : its.toArray.size * k.toNat <= sizeLine := by rw [List.size_toArray, <- r.length]; exact hz
 have Xv : ¬ its.toArray.size * k.toNat > (2 ^ 63 - 1) / 8 := by
  have : (sizeLine : Nat) <= (2 ^ 63 - 1) / 8 := by decide
  omega
 have hnew : List.foldl (· ++ ·) #[] (List.replicate (if its.toArray.isEmpty = true then 0 else k.toNat) its.toArray) = (List.replicate k.toNat its).flatten.toArray := by
  have f0 : ∀ m : Nat, List.foldl (· ++ ·) #[] (List.replicate m its.toArray) = (List.replicate m its).flatten.toArray := fun m => by
   have := foldl_rep its m []
   rw [List.nil_append] at this
   exact this
  rw [f0]
  cases its with
  | nil => simp
  | cons a r' => rw [if_neg (by simp)]
 refine wpAny_binaryOp_repeat_ref (T := "list") (U := "int") (by decide) ⟨_, ho, rfl⟩ (fun s' => typeIs_int s' k t) noFill_list_mul F.fills_int_mul F.slot_int_rmul repeat_list F.slot_int_index.lookup ?_
 refine call_meets F.slot_int_rmul (typeIs_int s k t) F.entry_int_rmul (F.args_int_rmul_2 _ _) (oZ k t l its.toArray n dd sl) ⟨ho, rfl, ⟨_, ho, rfl⟩, ?_⟩
 refine call_meets F.slot_list_mul ⟨_, ho, rfl⟩ F.entry_list_mul (F.args_list_mul_2 _ _) (ym l its.toArray n dd sl k t (by rw [fitsIndex_both h1 h2]; exact Bool.false_ne_true) Xv (by rw [uC hlen]; exact Bool.false_ne_true)) ⟨ho, ?_⟩
 rw [hnew]
 exact ⟨.ref _, _, I.Kf (t' := s.toks) (r.rep k.toNat) (by rw [len_rep, Nat.mul_comm]; exact hz), rfl, q _ I.fresh⟩
theorem kZ : fillsNumberSlot (.type "tuple") "mul" = pure false :=
 PySem.fillsNumberSlot_seq (id := "tuple.__mul__") (r := some (.builtin "tuple.__rmul__")) PySem.F.slot_tuple_mul.lookup (by decide +kernel) PySem.F.slot_tuple_rmul.lookup (by decide +kernel)
theorem qM : seqRepeat? (.type "tuple") = pure (some (.builtin "tuple.__mul__")) := by
 unfold seqRepeat?
 rw [PySem.seqSlot_of (T := "tuple") (name := "__mul__") (id := "tuple.__mul__") PySem.F.slot_tuple_mul.lookup (by decide +kernel), PySem.seqSlot_of (T := "tuple") (name := "__rmul__") (id := "tuple.__rmul__") PySem.F.slot_tuple_rmul.lookup (by decide +kernel)]
 rfl
theorem mY (k : Int) (t : Tok) (l : Addr) (its : Array Value) (n : Nat) (dd : Option Addr) (sl : Array (Option Value)) :
 Meets (Builtin.«int.__rmul__» ⟨[.int k t, .ref l], []⟩) (fun _ R s => s.heap.get? l = some ⟨.type "tuple", dd, .seq its n, sl⟩ /\ R (.ok (.ret Value.notImplemented)) s) :=
 .of_wp fun prog w A R s h => by
  obtain ⟨hp, g, d, tk, os⟩ := s
  obtain ⟨hl, h⟩ := h
  wp_walk
  exact ⟨_, rfl, h⟩
theorem uQ (l : Addr) (its : Array Value) (n : Nat) (dd : Option Addr) (sl : Array (Option Value)) (k : Int) (t : Tok) (h0 : 0 <= k) (h1 : k < 2 ^ 63) (hz : its.size * k.toNat <= sizeLine) (hne : 0 < its.size) :
 Meets (Builtin.«tuple.__mul__» ⟨[.ref l, .int k t], []⟩) (fun _ R s => s.heap.get? l = some ⟨.type "tuple", dd, .seq its n, sl⟩ /\
  (k = 1 -> R (.ok (.ret (Value.ref l))) s) /\ (k ≠ 1 -> R (.ok (.ret (Value.ref s.heap.objs.size))) { s with heap := s.heap.push { cls := .type "tuple", data := .seq (List.foldl (· ++ ·) #[] (List.replicate k.toNat its)) } })) :=
 .of_wp fun prog w A R s h => by
  obtain ⟨hp, g, d, tk, os⟩ := s
  obtain ⟨hl, q1, q2⟩ := h
  have Zj : its.isEmpty = false := by cases e : its.isEmpty with | false => rfl | true => rw [Array.isEmpty_iff_size_eq_zero] at e; omega
  show wpAny _ _ (asIndex (.int k t) >>= _) _ _ _
  wp_walk using wpAny_loadPart' hl
  have hI : IsTup hp l its := ⟨_, hl, rfl, n, rfl⟩
  rw [if_neg (by simp; omega)]
  refine wpAny_bind (PyProof.Rows.tupleItemsOf_ hI ?_)
  try dsimp only
  by_cases e1 : k = 1
  . rw [if_pos (by simp [e1])]
    wp_walk using wpAny_loadPart' hl
    exact ⟨_, rfl, q1 e1⟩
  . have q := q2 e1
    rw [if_neg (by simp [Zj, e1])]
    by_cases e0 : k = 0
    . subst e0
      rw [if_pos (by simp)]
      unfold Builtin.Tuple.tupleExact
      refine wpAny_bind (wpAny_newObj_type ?_)
      exact wpAny_pure ⟨_, rfl, q⟩
    . have hb : (its.size : Int) * k <= sizeLine := by
       have : ((its.size * k.toNat : Nat) : Int) <= (sizeLine : Nat) := by exact_mod_cast hz
       rw [Int.natCast_mul, show ((k.toNat : Nat) : Int) = k by omega] at this
       exact this
      have hs2 : (sizeLine : Int) <= (2 ^ 63 - 1) / 8 := by decide
      rw [if_neg (by simp [Zj]; omega), if_neg (by omega), if_neg (by simp [Builtin.Tuple.tupleTooMany]; omega)]
      unfold Builtin.Tuple.tupleExact
      refine wpAny_bind (wpAny_newObj_type ?_ ?_)
      . exact wpAny_pure ⟨_, rfl, q⟩
      . have := foldl_rep its.toList k.toNat []
        rw [List.nil_append, show its.toList.toArray = its by simp] at this
        show (List.foldl (· ++ ·) #[] (List.replicate k.toNat its)).size <= sizeLine
        rw [show (#[] : Array Value) = ([] : List Value).toArray from rfl, this, List.size_toArray, len_rep, Array.length_toList, Nat.mul_comm]
        exact hz
theorem Ft : gF X (binaryOp .Mult) (fun x y H Q => ∃ l k xs, x = .ref l /\ y = .int k /\ jr X.K H l xs /\ 0 < xs.length /\ 0 <= k /\ k < 2 ^ 63 /\ xs.length * k.toNat <= sizeLine /\ (k = 1 -> Q (.ref l) H) /\ (k ≠ 1 -> ∀ p, H p = none -> Q (.ref p) (upd H p (.tup (List.replicate k.toNat xs).flatten)))) := by
 intro pins s σ H x y v u Q I rx ry h
 obtain ⟨l, k, xs, rfl, rfl, hl, hne, h1, h2, hz, qa, qb⟩ := h
 cases rx
 obtain ⟨t, rfl⟩ := ry
 obtain ⟨its, r, pl, _⟩ := I.tuple hl
 obtain ⟨⟨cls, dd, data, sl⟩, ho, hc, n, hd⟩ := id pl
 simp only at hc hd
 subst hc hd
 have hlen : its.toArray.size * k.toNat <= sizeLine := by rw [List.size_toArray, <- r.length]; exact hz
 have hnew : List.foldl (· ++ ·) #[] (List.replicate k.toNat its.toArray) = (List.replicate k.toNat its).flatten.toArray := by
  have := foldl_rep its k.toNat []
  rw [List.nil_append] at this
  exact this
 refine wpAny_binaryOp_repeat_ref (T := "tuple") (U := "int") (by decide) ⟨_, ho, rfl⟩ (fun s' => typeIs_int s' k t) kZ F.fills_int_mul F.slot_int_rmul qM F.slot_int_index.lookup ?_
 refine call_meets F.slot_int_rmul (typeIs_int s k t) F.entry_int_rmul (F.args_int_rmul_2 _ _) (mY k t l its.toArray n dd sl) ⟨ho, rfl, ⟨_, ho, rfl⟩, ?_⟩
 refine call_meets PySem.F.slot_tuple_mul ⟨_, ho, rfl⟩ PySem.F.entry_tuple_mul (PySem.F.args_tuple_mul_2 _ _) (uQ l its.toArray n dd sl k t h1 h2 hlen (by rw [List.size_toArray, <- r.length]; exact hne)) ⟨ho, fun e => ⟨.ref l, H, I, rfl, qa e⟩, fun e => ?_⟩
 rw [hnew]
 refine ⟨.ref s.heap.objs.size, _, I.laid (t' := s.toks) (o := .tup (List.replicate k.toNat xs).flatten) (fun b ob q => Heap.get?_push_of_some _ q) (Nat.le_refl _) ?_, rfl, qb e _ (I.hok.fresh (Nat.le_refl _))⟩
 exact ⟨by rw [len_rep, Nat.mul_comm]; exact hz, _, r.rep k.toNat, IsTup.new _ _⟩
theorem dF : gF X (binaryOp .Mult) (rD X.K (tQ .mul)) := by
 rintro pins s σ H x y v u Q I rx ry ⟨F, d, e, r, sm, px, py, he, k⟩
 replace he : nq d e = some r := he
 unfold nq at he
 split at he
 . obtain ⟨hc, he⟩ := bH he
   subst he
   rw [px.int] at rx; rw [py.int] at ry
   exact Kh pins s σ H _ _ v u Q I rx ry ⟨_, _, rfl, rfl, hc, cA.dO sm (cP _) k⟩
 . rename_i xs i
   obtain ⟨⟨h1, h2, h3⟩, he⟩ := bH he
   subst he
   obtain ⟨a, vs, rfl, ha, ra⟩ := px.lst sm
   rw [py.int] at ry
   have hk : i < 2 ^ 63 := by
    have h4 := Nat.le_mul_of_pos_left i.toNat h2
    have h5 : i.toNat <= 16777216 := Nat.le_trans h4 h3
    omega
   exact Df pins s σ H _ _ v u Q I rx ry ⟨a, i, vs, rfl, rfl, ha, by omega, hk, by rw [ra.length]; exact h3, fun p hp => vH sm (ra.rep i.toNat) hp k⟩
 . rename_i xs i
   obtain ⟨⟨h1, h2, h3⟩, he⟩ := bH he
   subst he
   obtain ⟨a, vs, rfl, ha, ra, rr⟩ := px.tup sm
   rw [py.int] at ry
   have hk : i < 2 ^ 63 := by
    have h4 := Nat.le_mul_of_pos_left i.toNat h2
    have h5 : i.toNat <= 16777216 := Nat.le_trans h4 h3
    omega
   refine Ft pins s σ H _ _ v u Q I rx ry ⟨a, i, vs, rfl, rfl, ha, by rw [ra.length]; exact h2, h1, hk, by rw [ra.length]; exact h3, fun e => ?_, fun e p hp => Bc sm (ra.rep i.toNat) hp k⟩
   subst e
   refine cA.dO sm ?_ k
   have e1 : (List.replicate (1 : Int).toNat xs).flatten = xs := by simp
   rw [e1]
   exact rr
 . cases he
theorem uf : gF X (binaryOp .FloorDiv) (rD X.K (tQ .fdiv)) := by
 rintro pins s σ H x y v u Q I rx ry ⟨F, d, e, r, sm, px, py, he, k⟩
 replace he : oG d e = some r := he
 unfold oG at he
 split at he
 . rename_i i j
   obtain ⟨⟨h1, h2⟩, he⟩ := bH he
   subst he
   rw [px.int] at rx; rw [py.int] at ry
   obtain ⟨t, rfl⟩ := rx
   obtain ⟨t', rfl⟩ := ry
   have hl : j.natAbs.log2 < 9000 := by
    have : j.natAbs < 2 ^ 200 := by
     have : (2 : Nat) ^ 200 = 1606938044258990275541962092341162602522202993782792835301376 := by decide
     omega
    have h3 := (Nat.log2_lt (by omega)).mpr this
    omega
   exact floordiv_int (by omega) (by rw [Int.fdiv_eq_ediv_of_nonneg i (by omega)]; exact ⟨.int _, H, I.tok _, ⟨_, rfl⟩, cA.dO sm (cP _) k⟩) (.inl (PyProof.noPylong_of_log2 hl))
 . cases he
theorem eG : gF X (binaryOp .Mod) (rD X.K (tQ .mod)) := by
 rintro pins s σ H x y v u Q I rx ry ⟨F, d, e, r, sm, px, py, he, k⟩
 replace he : rW d e = some r := he
 unfold rW at he
 split at he
 . obtain ⟨h1, he⟩ := bH he
   subst he
   rw [px.int] at rx; rw [py.int] at ry
   exact Ks pins s σ H _ _ v u Q I rx ry ⟨_, _, rfl, rfl, h1, cA.dO sm (cP _) k⟩
 . cases he
theorem my : gF X (binaryOp .Pow) (rD X.K (tQ .pow)) := by
 rintro pins s σ H x y v u Q I rx ry ⟨F, d, e, r, sm, px, py, he, k⟩
 replace he : tG d e = some r := he
 unfold tG at he
 split at he
 . obtain ⟨⟨h1, h2, h3⟩, he⟩ := bH he
   subst he
   rw [px.int] at rx; rw [py.int] at ry
   exact Ib pins s σ H _ _ v u Q I rx ry ⟨_, _, rfl, rfl, ⟨h1, by omega, h3⟩, cA.dO sm (cP _) k⟩
 . cases he
theorem az {o : Op} {op : Operator} (ho : gF X (binaryOp op) (rD X.K (tQ o))) (ha : SX X c a pa) (hb : SX X c b pb) : SX X c (.BinOp a op b pos) (.bin o pa pb) :=
 vG (fun h1 h2 => Qj ho h1 h2) ha hb (fun ρ => by rw [HH.ev]) rfl
theorem oK (ha : SX X c a pa) : SX X c (.UnaryOp .USub a pos) (.neg pa) := by
 refine Kg (f := Dq) (fun h1 => O5 ?_ h1) ha (fun ρ => by rw [HH.ev]) rfl
 rintro pins s σ H x v Q I rx ⟨F, d, r, sm, px, he, k⟩
 unfold Dq at he
 obtain ⟨i, e1, e2⟩ := map_some he
 subst e2
 cases d <;> cases e1
 rw [px.int] at rx
 exact Jg pins s σ H _ v Q I rx ⟨_, rfl, cA.dO sm (cP _) k⟩
theorem wF {op : CmpOp} {f : Int -> Int -> Bool} (ho : gF X (compareOp op) (Ek fun i j => .bl (f i j))) : gF X (compareOp op) (rD X.K fun x y => (BZ f x y).map fun k => .val (.bl k)) := by
 rintro pins s σ H x y v u Q I rx ry ⟨F, d, e, r, sm, px, py, he, k⟩
 obtain ⟨t, e1, e2⟩ := map_some (show (BZ f d e).map _ = some r from he)
 subst e2
 unfold BZ at e1
 split at e1
 . cases e1
   rw [px.int] at rx; rw [py.int] at ry
   exact ho pins s σ H _ _ v u Q I rx ry ⟨_, _, rfl, rfl, cA.dO sm (lQ _) k⟩
 . cases e1
theorem zm {op : CmpOp} {f : Int -> Int -> Bool} (ho : gF X (compareOp op) (Ek fun i j => .bl (f i j))) {o : Cm} (hc : cm o = BZ f) : gF X (compareOp op) (rD X.K (vL o)) := by
 have e : vL o = fun x y => (BZ f x y).map fun k => .val (.bl k) := by funext x y; unfold vL; rw [hc]
 rw [e]; exact wF ho
theorem Iw : gF X (compareOp .Lt) (rD X.K fun x y => (BZ (fun i j => decide (i < j)) x y).map fun k => .val (.bl k)) := wF Qw
theorem nT : gF X (compareOp .LtE) (rD X.K (vL .le)) := zm N5 rfl
theorem fj : gF X (compareOp .Gt) (rD X.K (vL .gt)) := zm Px rfl
theorem J9 {o : Cm} {op : CmpOp} (ho : gF X (compareOp op) (rD X.K (vL o))) (ha : SX X c a pa) (hb : SX X c b pb) (hm : behindInMarks op b = false) : SX X c (.Compare a [op] [b] pos) (.cmp o pa pb) :=
 vG (fun h1 h2 => Fo ho h1 h2 hm) ha hb (fun ρ => by rw [HH.ev]) rfl
end
end HH
end
section
namespace HH
open PySem L2 PySem.Spec PyProof.Rows
section
variable {X : Cx} {c : Call} {e a b d : Expr} {p pa pb pd : P} {pos : Pos} {rest : List Expr}
theorem oh {x : D} {k : Bool} (h : sO x = some k) : x = .bl k := by cases x <;> cases h; rfl
theorem gk {x : D} {k : Int} (h : oU x = some k) : x = .int k := by cases x <;> cases h; rfl
theorem bZ.bool {K : PySem.W.Frag} {F' H' H : Hp} {ρ' ρ : List Sl} {σ' σ : L2.St} {v : V} {r : R} {k : Bool} (h : bZ K F' ρ' σ' H' ρ σ H v r) (e : r.d = .bl k) : v = .bl k := by
 cases r with
 | val d => cases (show d = .bl k from e); have h : Rep K F' v (.bl k) := h; rw [Rep] at h; exact h
 | own ds => cases e
noncomputable def ST (X : Cx) (c : Call) (e : Expr) (p : P) : Prop := PT X e (Gy X.K (kh (HH.ev c p)))
noncomputable def SW (X : Cx) (c : Call) (e : Expr) (p : P) : Prop := PW X e (Gy X.K (kh (HH.ev c p)))
theorem SW.st (h : SW X c e p) : ST X c e p := PW.pt h
theorem vI {t : TE} {Q : Bool -> Hp -> Prop} {σ : L2.St} {H : Hp} (hi : ∀ Q, Bh X.K (HH.ev c p) σ H Q -> t σ H Q) (h : Gy X.K (kh (HH.ev c p)) σ H Q) : t σ H fun x H1 => ∃ k, x = .bl k /\ Q k H1 := by
 obtain ⟨F, ρ, k, ρ', g, e, q⟩ := h
 obtain ⟨r, ρ1, e1, e2⟩ := aq e
 have zz := aM e2; clear e2; obtain ⟨e2, e3⟩ := zz
 subst e3
 exact hi _ ⟨F, ρ, r, ρ1, g, e1, fun v F' H' s rr => ⟨k, rr.bool (oh e2), q F' H' s⟩⟩
theorem jt (h : SX X c e p) (he : ∀ whole, isTrue e X.env whole = (do let v <- whole; standAt e.pos; holding [v] (truthy v)) := by intro _; rfl) : ST X c e p :=
 Bx (Ji h.ev he) fun σ H Q q => vI (fun _ z => z) q
theorem aZ {o : Cm} {op : CmpOp} (ho : gF X (compareOp op) (rD X.K (vL o))) (ha : SX X c a pa) (hb : SX X c b pb) (hm : behindInMarks op b = false) : ST X c (.Compare a [op] [b] pos) (.cmp o pa pb) := by
 obtain ⟨ta, tb, h1, h2, h3⟩ := ha.lD hb
 refine Bx (Fx ho h1 h2 hm) fun σ H Q q => vI (t := MP (rD X.K (vL o)) ta tb) (fun Q z => ?_) q
 obtain ⟨F, ρ, r, ρ', g, e, k⟩ := z
 rw [HH.ev] at e
 obtain ⟨xy, ρ1, e1, e2⟩ := aq e
 have zz := aM e2; clear e2; obtain ⟨e2, e3⟩ := zz
 subst e3
 refine h3 g e1 fun v u F' H' s pv pu => ⟨F', xy.1, xy.2, r, s.gs.sub, pv, pu, e2, fun w F2 H2 x rn => ?_⟩
 exact k w F2 H2 (s.trans (x.stp s.gs)) (.later s (rn.qL s.gs))
theorem lG (ha : ST X c a pa) : ST X c (.UnaryOp .Not a pos) (.not pa) := by
 refine Bx (JN ha) ?_
 rintro σ H Q ⟨F, ρ, k, ρ', g, e, q⟩
 unfold kh at e
 rw [HH.ev] at e
 obtain ⟨r, ρ1, e1, e2⟩ := aq e
 obtain ⟨k', ρ2, e3, e4⟩ := aq e1
 cases e4
 have zz := aM e2; clear e2; obtain ⟨e2, e5⟩ := zz
 subst e5
 have e2 : (!k') = k := by cases e2; rfl
 exact ⟨F, ρ, k', _, g, e3, fun F' H' s => by show Q (!k') H'; rw [e2]; exact q F' H' s⟩
theorem Ej (ρ : List Sl) : kh (HH.ev c (.and pa pb)) ρ = (kh (HH.ev c pa) ρ).bind fun x ρ => if x then kh (HH.ev c pb) ρ else .ok false ρ := by
 unfold kh
 rw [HH.ev]
 unfold kh
 cases HH.ev c pa ρ with
 | exc _ _ => rfl
 | stuck => rfl
 | ok r ρ1 =>
   simp only [Res.bind]
   cases h : sO r.d with
   | none => rfl
   | some k =>
     cases k with
     | false => rfl
     | true =>
       simp only [lift, if_true]
       cases HH.ev c pb ρ1 with
       | exc _ _ => rfl
       | stuck => rfl
       | ok r2 ρ2 =>
         simp only [Res.bind]
         cases h2 : sO r2.d with
         | none => rfl
         | some k2 => rfl
theorem Jm (ρ : List Sl) : kh (HH.ev c (.or pa pb)) ρ = (kh (HH.ev c pa) ρ).bind fun x ρ => if x then .ok true ρ else kh (HH.ev c pb) ρ := by
 unfold kh
 rw [HH.ev]
 unfold kh
 cases HH.ev c pa ρ with
 | exc _ _ => rfl
 | stuck => rfl
 | ok r ρ1 =>
   simp only [Res.bind]
   cases h : sO r.d with
   | none => rfl
   | some k =>
     cases k with
     | true => rfl
     | false =>
       simp only [lift, Bool.false_eq_true, if_false]
       cases HH.ev c pb ρ1 with
       | exc _ _ => rfl
       | stuck => rfl
       | ok r2 ρ2 =>
         simp only [Res.bind]
         cases h2 : sO r2.d with
         | none => rfl
         | some k2 => rfl
theorem iB (ha : ST X c a pa) : SW X c (.BoolOp .And [a] pos) pa := CZ ha
theorem m9 (ha : ST X c a pa) : SW X c (.BoolOp .Or [a] pos) pa := Hs ha
theorem ji (ha : ST X c a pa) (hb : SW X c (.BoolOp .And (b :: rest) pos) pb) : SW X c (.BoolOp .And (a :: b :: rest) pos) (.and pa pb) := by
 refine Gj (J6 ha hb) ?_
 rintro σ H Q ⟨F, ρ, k, ρ', g, e, q⟩
 rw [Ej] at e
 obtain ⟨x, ρ1, e1, e⟩ := aq e
 refine ⟨F, ρ, x, ρ1, g, e1, fun F1 H1 s1 => ?_⟩
 cases x with
 | true =>
   rw [if_pos rfl] at e ⊢
   exact ⟨F1, ρ1, k, ρ', s1.gs, e, fun F2 H2 s2 => q F2 H2 (s1.trans s2)⟩
 | false =>
   rw [if_neg Bool.false_ne_true] at e ⊢
   cases e
   exact q F1 H1 s1
theorem sS (ha : ST X c a pa) (hb : SW X c (.BoolOp .Or (b :: rest) pos) pb) : SW X c (.BoolOp .Or (a :: b :: rest) pos) (.or pa pb) := by
 refine Gj (Pk ha hb) ?_
 rintro σ H Q ⟨F, ρ, k, ρ', g, e, q⟩
 rw [Jm] at e
 obtain ⟨x, ρ1, e1, e⟩ := aq e
 refine ⟨F, ρ, x, ρ1, g, e1, fun F1 H1 s1 => ?_⟩
 cases x with
 | true =>
   rw [if_pos rfl] at e ⊢
   cases e
   exact q F1 H1 s1
 | false =>
   rw [if_neg Bool.false_ne_true] at e ⊢
   exact ⟨F1, ρ1, k, ρ', s1.gs, e, fun F2 H2 s2 => q F2 H2 (s1.trans s2)⟩
theorem Er {op} (ha : SX X c a pa) : PE X (.BoolOp op [a] pos) (Bh X.K (HH.ev c pa)) := Jl ha.ev
theorem Ip (ha : SX X c a pa) (hb : PE X (.BoolOp .And (b :: rest) pos) (Bh X.K (HH.ev c pb))) : SX X c (.BoolOp .And (a :: b :: rest) pos) (.and pa pb) := by
 refine ⟨fY (HR ha.ev hb) ?_, fun i h => by cases h⟩
 rintro σ H Q ⟨F, ρ, r, ρ', g, e, k⟩
 rw [HH.ev] at e
 obtain ⟨x, ρ1, e1, e⟩ := aq e
 refine vI (c := c) (fun _ z => z) (Q := fun x H1 => if x = true then Bh X.K (HH.ev c pb) σ H1 Q else Q (.bl false) H1) ⟨F, ρ, x, ρ1, g, e1, fun F1 H1 s1 => ?_⟩
 cases x with
 | true =>
   rw [if_pos rfl] at e ⊢
   obtain ⟨y, ρ2, e2, e3⟩ := aq e
   cases e3
   obtain ⟨r2, ρ3, e4, e5⟩ := aq e2
   have zz := aM e5; clear e5; obtain ⟨e5, e6⟩ := zz
   subst e6
   refine ⟨F1, ρ1, r2, _, s1.gs, e4, fun v F2 H2 s2 rr => ?_⟩
   rw [rr.bool (oh e5)]
   exact k _ F2 H2 (s1.trans s2) (show Rep X.K F2 _ _ from lQ _)
 | false =>
   rw [if_neg Bool.false_ne_true] at e ⊢
   cases e
   exact k _ F1 H1 s1 (show Rep X.K F1 _ _ from lQ _)
theorem rC : ∀ {ps : List P} {ρ ρ' : List Sl} {ds : List D}, evs c ps ρ = .ok ds ρ' -> ds.length = ps.length
 | [], _, _, _, h => by rw [evs] at h; cases h; rfl
 | p :: ps, _, _, _, h => by
   rw [evs] at h
   obtain ⟨r, ρ1, _, h⟩ := aq h
   obtain ⟨xs, ρ2, h2, h⟩ := aq h
   cases h
   simp [rC h2]
theorem aL : SA X c [] [] := ⟨uq eY fun σ H Q ⟨F, ρ, ds, ρ', g, e, k⟩ => by rw [evs] at e; cases e; exact k [] F H (.refl g) .nil, rfl⟩
theorem wL {es : List Expr} {ps : List P} (ha : SX X c a pa) (hr : SA X c es ps) (hs : starEach (a :: es) X.env = (false, eval a X.env) :: starEach es X.env := by rfl) : SA X c (a :: es) (pa :: ps) := by
 refine ⟨uq (bV ha.ev hr.1 hs) ?_, by simp [hr.2]⟩
 rintro σ H Q ⟨F, ρ, ds, ρ', g, e, k⟩
 rw [evs] at e
 obtain ⟨r, ρ1, e1, e⟩ := aq e
 obtain ⟨xs, ρ2, e2, e⟩ := aq e
 cases e
 refine ⟨F, ρ, r, ρ1, g, e1, fun v F' H' s rr => ?_⟩
 obtain ⟨F1, s1, _, rp⟩ := s.jc rr
 refine ⟨F1, ρ1, xs, _, s1.gs, e2, fun vs F2 H2 s2 rs => ?_⟩
 exact k _ F2 H2 (s1.trans s2) (.cons (rp.mono s2.dX) rs)
theorem Ext.Ez {K : PySem.W.Frag} {F H : Hp} {ρ ρ' : List Sl} {σ : L2.St} {H0 F0 : Hp} {Q : VK} {xs : List V} {ds : List D} (s : bQ K F0 ρ σ H0 F ρ' σ H) (r : aJ K F xs ds)
 (k : ∀ v F' H', bQ K F0 ρ σ H0 F' ρ' σ H' -> bZ K F' ρ' σ H' ρ σ H0 v (.val (.tup ds)) -> Q v H') (p : Addr) (hp : H p = none) : Q (.ref p) (upd H p (.tup xs)) :=
 Bc s.gs.sub r hp fun v F' H' x rn => k v F' H' (s.trans (x.stp s.gs)) rn
theorem cg {es : List Expr} {ps : List P} {x1} (h : SA X c es ps) (hz : ps.length <= sizeLine := by decide) : SX X c (.Tuple es x1 pos) (.tup ps) := by
 refine ⟨fY (Ko h.1) ?_, fun i h => by cases h⟩
 rintro σ H Q ⟨F, ρ, r, ρ', g, e, k⟩
 rw [HH.ev] at e
 obtain ⟨ds, ρ1, e1, e⟩ := aq e
 cases e
 exact ⟨F, ρ, ds, _, g, e1, fun vs F' H' s rs => ⟨by rw [rs.length, rC e1]; exact hz, fun p hp => Ext.Ez s rs k p hp⟩⟩
theorem bT {es : List Expr} {ps : List P} (h : SA X c es ps) (hz : ps.length <= sizeLine := by decide) : SX X c (.List es pos) (.lst ps) := by
 refine ⟨fY (JS h.1) ?_, fun i h => by cases h⟩
 rintro σ H Q ⟨F, ρ, r, ρ', g, e, k⟩
 rw [HH.ev] at e
 obtain ⟨ds, ρ1, e1, e⟩ := aq e
 cases e
 exact ⟨F, ρ, ds, _, g, e1, fun vs F' H' s rs => ⟨by rw [rs.length, rC e1]; exact hz, fun p hp => vH s.gs.sub rs hp fun v F2 H2 x rn => k v F2 H2 (s.trans (x.stp s.gs)) (.later s (rn.qL s.gs))⟩⟩
theorem Iu {ds : List D} {i : Int} {d : D} (h : at' ds i = some d) : ∃ j, L2.ju ds.length i = some j /\ ds[j]? = some d := dZ h
theorem W8 : T4 X (rD X.K uM) := by
 rintro value slice pins s σ H x y v u Q I rx ry ⟨F, d, e, r, sm, px, py, he, k⟩ hs
 unfold uM at he
 obtain ⟨ds, e1, he⟩ := dZ he
 obtain ⟨i, e2, he⟩ := dZ he
 obtain ⟨z, e3, he⟩ := map_some he
 subst he
 cases gk e2
 rw [py.int] at ry
 obtain ⟨p, xs, rfl, hq, rs⟩ := px.items sm e1
 obtain ⟨j, h1, h2⟩ := Iu e3
 obtain ⟨w, h3, h4⟩ := rs.get h2
 have hat : Mx xs i = some w := by unfold Mx; rw [rs.length, h1]; exact h3
 rcases hq with hq | hq
 . exact Fb value slice pins s σ H _ _ v u Q I rx ry ⟨p, xs, i, w, rfl, rfl, hq, hat, cA.dO sm h4 k⟩ hs
 . exact J5 value slice pins s σ H _ _ v u Q I rx ry ⟨p, xs, i, w, rfl, rfl, hq, hat, cA.dO sm h4 k⟩ hs
theorem aA (ha : SX X c a pa) (hb : SX X c b pb) (hs : xM b := by intro _ _; rfl) : SX X c (.Subscript a b pos) (.idx pa pb) :=
 vG (f := uM) (fun h1 h2 => Pq W8 h1 h2 hs) ha hb (fun ρ => by rw [HH.ev]) rfl
noncomputable def Gu (K : PySem.W.Frag) (f : D -> Option R) : List V -> Hp -> VK -> Prop := fun xs H Q => ∃ x, xs = [x] /\ Yb K f x H Q
theorem oJ {E : Expr} {f : D -> Option R} {q : P} (hp : ∀ {t}, PA X [a] t -> PE X E (Ti (Gu X.K f) t)) (ha : SX X c a pa)
 (hq : ∀ ρ, HH.ev c q ρ = (HH.fV (isVar pa) (HH.ev c pa) ρ).bind fun x ρ => lift (f x) ρ) (hv : isVar q = none) (hs : starEach [a] X.env = (false, eval a X.env) :: starEach [] X.env := by rfl) : SX X c E q := by
 obtain ⟨ta, h1, h3⟩ := ha.fV
 refine ⟨fY (hp (bV h1 eY hs)) ?_, fun i h => by rw [hv] at h; cases h⟩
 rintro σ H Q ⟨F, ρ, r, ρ', g, e, k⟩
 rw [hq] at e
 obtain ⟨x, ρ1, e1, e2⟩ := aq e
 have zz := aM e2; clear e2; obtain ⟨e2, e3⟩ := zz
 subst e3
 refine h3 g e1 fun v F' H' s pv => ⟨v, rfl, F', x, r, s.gs.sub, pv, e2, fun w F2 H2 x rn => ?_⟩
 exact k w F2 H2 (s.trans (x.stp s.gs)) (.later s (rn.qL s.gs))
theorem QJ : cR X (.builtin "len") (Gu X.K fun x => blt .len [x]) := by
 rintro pins s σ H xs us Q I r ⟨x, hx, F, d, r', sm, px, he, k⟩
 obtain ⟨ds, e1, he⟩ := map_some (show (items d).map _ = some r' from he)
 subst he
 obtain ⟨p, ys, rfl, hq, rs⟩ := px.items sm e1
 exact qW pins s σ H xs us Q I r ⟨p, ys, hx, hq, by rw [rs.length]; exact cA.dO sm (cP _) k⟩
theorem JD : cR X (.type "list") (Gu X.K fun x => blt .list [x]) := by
 rintro pins s σ H xs us Q I r ⟨x, hx, F, d, r', sm, px, he, k⟩
 obtain ⟨ds, e1, he⟩ := map_some (show (items d).map _ = some r' from he)
 subst he
 obtain ⟨p, ys, rfl, hq, rs⟩ := px.items sm e1
 exact rA pins s σ H xs us Q I r ⟨p, ys, hx, hq, fun l hl => vH sm rs hl k⟩
theorem DQ : cR X (.type "tuple") (Gu X.K fun x => blt .tuple [x]) := by
 rintro pins s σ H xs us Q I r ⟨x, hx, F, d, r', sm, px, he, k⟩
 obtain ⟨ds, e1, he⟩ := map_some (show (items d).map _ = some r' from he)
 subst he
 cases d with
 | tup es =>
   cases e1
   obtain ⟨a, ys, rfl, hq, rs, rt⟩ := px.tup sm
   exact iY pins s σ H xs us Q I r ⟨a, ys, hx, .inr ⟨hq, cA.dO sm rt k⟩⟩
 | lst es =>
   cases e1
   obtain ⟨a, ys, rfl, hq, rs⟩ := px.lst sm
   exact iY pins s σ H xs us Q I r ⟨a, ys, hx, .inl ⟨hq, fun l hl => Bc sm rs hl k⟩⟩
 | _ => cases e1
theorem mX {x : Str} {p' : Pos} (hx : x = "len") (hg : Gl X x) (hm : X.mg x = none) (ha : SX X c a pa) (hs : starEach [a] X.env = (false, eval a X.env) :: starEach [] X.env := by rfl) : SX X c (.Call (.Name x p') [a] [] pos) (.blt .len [pa]) := by
 subst hx; exact oJ (fun h => cW QJ hg hm PySem.boot_len h (he := hs)) ha (fun ρ => by rw [HH.ev]) rfl hs
theorem rm {x : Str} {p' : Pos} (hx : x = "list") (hg : Gl X x) (hm : X.mg x = none) (ha : SX X c a pa) (hs : starEach [a] X.env = (false, eval a X.env) :: starEach [] X.env := by rfl) : SX X c (.Call (.Name x p') [a] [] pos) (.blt .list [pa]) := by
 subst hx; exact oJ (fun h => lr JD hg hm (by decide +kernel) h (he := hs)) ha (fun ρ => by rw [HH.ev]) rfl hs
theorem uB {x : Str} {p' : Pos} (hx : x = "tuple") (hg : Gl X x) (hm : X.mg x = none) (ha : SX X c a pa) (hs : starEach [a] X.env = (false, eval a X.env) :: starEach [] X.env := by rfl) : SX X c (.Call (.Name x p') [a] [] pos) (.blt .tuple [pa]) := by
 subst hx; exact oJ (fun h => lr DQ hg hm (by decide +kernel) h (he := hs)) ha (fun ρ => by rw [HH.ev]) rfl hs
end
end HH
end
section
namespace HH
open PySem L2 PySem.Spec PyProof.Rows
noncomputable def jF (K : PySem.W.Frag) (np : Nat) (f : List Sl -> Res R) : Sp := fun vs H Q _ => vs.length = np /\ ∃ F args r args', GS K F args (vs.map some) H /\ f args = .ok r args' /\
 ∀ v F' σ' H', bQ K F args (vs.map some) H F' args' σ' H' -> bZ K F' args' σ' H' args (vs.map some) H v r -> Q v H'
section
variable {K : PySem.W.Frag}
noncomputable def uX (K : PySem.W.Frag) (F : Hp) (ρ : List Sl) (σ : L2.St) (H : Hp) (ρ₀ : List Sl) (H₀ : Hp) (v : V) : Arg -> Prop
 | .dat d => Rep K F v d
 | .tmp ds => ∃ x xs, v = .ref x /\ H x = some (.lst xs) /\ F x = none /\ aJ K F xs ds /\ ¬ Own ρ σ x /\ (Own ρ₀ σ x \/ H₀ x = none)
 | .dW i => σ[i]? = some (some v)
structure uA (K : PySem.W.Frag) (F : Hp) (ρ : List Sl) (σ : L2.St) (H : Hp) (ρ₀ : List Sl) (H₀ : Hp) (as : List Arg) (vs : List V) : Prop where
 len : as.length = vs.length
 one : ∀ (j : Nat) (a : Arg) (v : V), as[j]? = some a -> vs[j]? = some v -> uX K F ρ σ H ρ₀ H₀ v a
 dis : ∀ (j k : Nat) (ds es : List D) (x : Addr), as[j]? = some (.tmp ds) -> as[k]? = some (.tmp es) -> vs[j]? = some (.ref x) -> vs[k]? = some (.ref x) -> j = k
theorem uX.later {F F' H H' H₀ : Hp} {ρ ρ' ρ₀ : List Sl} {σ : L2.St} {v : V} {a : Arg} (s : bQ K F ρ σ H F' ρ' σ H') (h : uX K F ρ σ H ρ₀ H₀ v a) : uX K F' ρ' σ H' ρ₀ H₀ v a := by
 cases a with
 | dat d => exact Rep.mono s.dX h
 | dW i => exact h
 | tmp ds =>
   obtain ⟨x, xs, h1, h2, h3, h4, h5, h6⟩ := h
   refine ⟨x, xs, h1, s.keep x _ h2 h5, ?_, h4.mono s.dX, fun o => ?_, h6⟩
   . cases q : F' x with
     | none => rfl
     | some o =>
       rcases s.yU x h3 (by rw [q]; simp) with z | z
       . exact absurd z h5
       . exact (Bv h2 z).elim
   . rcases s.yP x o with z | z
     . exact h5 z
     . rw [h2] at z; cases z
theorem uA.nil {F H H₀ : Hp} {ρ ρ₀ : List Sl} {σ : L2.St} : uA K F ρ σ H ρ₀ H₀ [] [] := ⟨rfl, fun j a v h => by simp at h, fun j k ds es x h => by simp at h⟩
theorem uA.cons {F H H₀ : Hp} {ρ ρ₀ : List Sl} {σ : L2.St} {a : Arg} {v : V} {as : List Arg} {vs : List V} (h : uX K F ρ σ H ρ₀ H₀ v a) (t : uA K F ρ σ H ρ₀ H₀ as vs)
 (hd : ∀ ds x, a = .tmp ds -> v = .ref x -> ∀ (k : Nat) es, as[k]? = some (.tmp es) -> vs[k]? ≠ some (.ref x)) : uA K F ρ σ H ρ₀ H₀ (a :: as) (v :: vs) := by
 refine ⟨by simp [t.len], fun j b u h1 h2 => ?_, fun j k ds es x h1 h2 h3 h4 => ?_⟩
 . cases j with
   | zero => simp at h1 h2; subst h1; subst h2; exact h
   | succ j => exact t.one j b u (by simpa using h1) (by simpa using h2)
 . cases j with
   | zero =>
     cases k with
     | zero => rfl
     | succ k => simp at h1 h3; exact absurd (by simpa using h4) (hd ds x h1 h3 k es (by simpa using h2))
   | succ j =>
     cases k with
     | zero => simp at h2 h4; exact absurd (by simpa using h3) (hd es x h2 h4 j ds (by simpa using h1))
     | succ k => rw [t.dis j k ds es x (by simpa using h1) (by simpa using h2) (by simpa using h3) (by simpa using h4)]
noncomputable def zb (ρ : List Sl) : Arg -> Sl -> Prop
 | .dat d, s => s = .val false d
 | .tmp ds, s => s = .own false ds
 | .dW i, s => (∃ b d, ρ[i]? = some (.val b d) /\ s = .val false d) \/ (∃ b ds, ρ[i]? = some (.own b ds) /\ s = .own true ds) \/ ∃ ds, ρ[i]? = some (.lent ds) /\ s = .lent ds
theorem nJ {ρ : List Sl} : ∀ {as : List Arg} {used : List Nat} {args : List Sl}, bD ρ as used = some args -> args.length = as.length /\
 (∀ (j : Nat) (a : Arg) (s : Sl), as[j]? = some a -> args[j]? = some s -> zb ρ a s) /\
 (∀ (j : Nat) (i : Nat) (s : Sl) ds, as[j]? = some (.dW i) -> args[j]? = some s -> lst? s = some ds -> i ∉ used) /\
 (∀ (j k : Nat) (i : Nat) (s t : Sl) ds es, as[j]? = some (.dW i) -> as[k]? = some (.dW i) -> args[j]? = some s -> args[k]? = some t -> lst? s = some ds -> lst? t = some es -> j = k)
 | [], used, args, h => by
   rw [bD] at h; cases h
   exact ⟨rfl, fun j a s h => by simp at h, fun j i s ds h => by simp at h, fun j k i s t ds es h => by simp at h⟩
 | a :: as, used, args, h => by
   -- the Xw slot, the Xx
   have key : ∃ s0 r uE, args = s0 :: r /\ bD ρ as uE = some r /\ zb ρ a s0 /\ ((∃ i ds, a = .dW i /\ lst? s0 = some ds /\ uE = i :: used /\ i ∉ used) \/ ((∀ i ds, a = .dW i -> lst? s0 ≠ some ds) /\ uE = used)) := by
    cases a with
    | dat d =>
      rw [bD] at h
      obtain ⟨r, e1, e2⟩ := map_some h
      exact ⟨_, r, used, e2.symm, e1, rfl, .inr ⟨fun i ds z => (by cases z), rfl⟩⟩
    | tmp d =>
      rw [bD] at h
      obtain ⟨r, e1, e2⟩ := map_some h
      exact ⟨_, r, used, e2.symm, e1, rfl, .inr ⟨fun i ds z => (by cases z), rfl⟩⟩
    | dW i =>
      rw [bD] at h
      split at h
      . rename_i b d q
        obtain ⟨r, e1, e2⟩ := map_some h
        exact ⟨_, r, used, e2.symm, e1, .inl ⟨b, d, q, rfl⟩, .inr ⟨fun _ _ _ z => (by cases z), rfl⟩⟩
      . rename_i b ds q
        split at h
        . cases h
        . rename_i hu
          obtain ⟨r, e1, e2⟩ := map_some h
          exact ⟨_, r, _, e2.symm, e1, .inr (.inl ⟨b, ds, q, rfl⟩), .inl ⟨i, _, rfl, rfl, rfl, by simpa using hu⟩⟩
      . rename_i ds q
        split at h
        . cases h
        . rename_i hu
          obtain ⟨r, e1, e2⟩ := map_some h
          exact ⟨_, r, _, e2.symm, e1, .inr (.inr ⟨ds, q, rfl⟩), .inl ⟨i, _, rfl, rfl, rfl, by simpa using hu⟩⟩
      . cases h
   obtain ⟨s0, r, uE, rfl, hr, hs0, hu⟩ := key
   obtain ⟨l1, l2, l3, l4⟩ := nJ hr
   have sub : ∀ i, i ∉ uE -> i ∉ used := fun i hi hm => by
    rcases hu with ⟨_, _, _, _, rfl, _⟩ | ⟨_, rfl⟩
    . exact hi (List.mem_cons_of_mem _ hm)
    . exact hi hm
   refine ⟨by simp [l1], fun j b s h1 h2 => ?_, fun j i s ds h1 h2 h3 => ?_, fun j k i s t ds es h1 h2 h3 h4 h5 h6 => ?_⟩
   . cases j with
     | zero => simp at h1 h2; subst h1; subst h2; exact hs0
     | succ j => exact l2 j b s (by simpa using h1) (by simpa using h2)
   . cases j with
     | zero =>
       simp at h1 h2; subst h1; subst h2
       rcases hu with ⟨i', _, e, _, _, hn⟩ | ⟨hn, _⟩
       . cases e; exact hn
       . exact absurd h3 (hn i ds rfl)
     | succ j => exact sub i (l3 j i s ds (by simpa using h1) (by simpa using h2) h3)
   . have z0 : ∀ (k : Nat) (t : Sl) es, a = .dW i -> lst? s0 = some ds -> (as[k]? = some (.dW i)) -> r[k]? = some t -> lst? t = some es -> False := fun k t es ea e0 hk ht he => by
      rcases hu with ⟨i', _, e, _, rfl, hn⟩ | ⟨hn, _⟩
      . rw [ea] at e; cases e
        exact l3 k i t es hk ht he List.mem_cons_self
      . exact hn i ds ea e0
     have z1 : ∀ (k : Nat) (t : Sl) es, a = .dW i -> lst? s0 = some es -> (as[k]? = some (.dW i)) -> r[k]? = some t -> lst? t = some ds -> False := fun k t es ea e0 hk ht he => by
      rcases hu with ⟨i', _, e, _, rfl, hn⟩ | ⟨hn, _⟩
      . rw [ea] at e; cases e
        exact l3 k i t ds hk ht he List.mem_cons_self
      . exact hn i es ea e0
     cases j with
     | zero =>
       cases k with
       | zero => rfl
       | succ k => simp at h1 h3; subst h3; exact (z0 k t es h1 h5 (by simpa using h2) (by simpa using h4) h6).elim
     | succ j =>
       cases k with
       | zero => simp at h2 h4; subst h4; exact (z1 j s es h2 h6 (by simpa using h1) (by simpa using h3) h5).elim
       | succ k => rw [l4 j k i s t ds es (by simpa using h1) (by simpa using h2) (by simpa using h3) (by simpa using h4) h5 h6]
theorem uA.get {F H H₀ : Hp} {ρ ρ₀ : List Sl} {σ : L2.St} {as : List Arg} {vs : List V} (A : uA K F ρ σ H ρ₀ H₀ as vs) {args : List Sl} {j : Nat} {s : Sl} (hl : args.length = as.length) (h : args[j]? = some s) :
 ∃ a v, as[j]? = some a /\ vs[j]? = some v /\ uX K F ρ σ H ρ₀ H₀ v a := by
 have hj : j < args.length := (List.getElem?_eq_some_iff.mp h).1
 have h1 : j < as.length := by omega
 have h2 : j < vs.length := by rw [<- A.len]; exact h1
 exact ⟨as[j], vs[j], by simp [h1], by simp [h2], A.one j _ _ (by simp [h1]) (by simp [h2])⟩
theorem args_gs {F H H₀ : Hp} {ρ ρ₀ : List Sl} {σ : L2.St} {as : List Arg} {vs : List V} {args : List Sl} (g : GS K F ρ σ H) (A : uA K F ρ σ H ρ₀ H₀ as vs) (h : bD ρ as [] = some args) : GS K F args (vs.map some) H := by
 obtain ⟨l1, l2, l3, l4⟩ := nJ h
 have up : ∀ {j : Nat} {v : V}, vs[j]? = some v -> (vs.map some)[j]? = some (some v) := fun e => by rw [List.getElem?_map, e]; rfl
 have dn : ∀ {j : Nat} {v : V}, (vs.map some)[j]? = some (some v) -> vs[j]? = some v := fun {j v} e => by
  rw [List.getElem?_map] at e
  cases q : vs[j]? with
  | none => rw [q] at e; cases e
  | some w => rw [q] at e; cases e; rfl
 refine ⟨g.sub, by rw [l1, A.len, List.length_map], fun j b d e => ?_, fun j s ds e e' => ?_, fun j k x ⟨⟨s, ds, e1, e2⟩, e3⟩ ⟨⟨t, es, f1, f2⟩, f3⟩ => ?_⟩
 . obtain ⟨a, v, h1, h2, h3⟩ := A.get l1 e
   have h4 := l2 j a _ h1 e
   refine ⟨v, up h2, ?_⟩
   cases a with
   | dat d' => cases h4; exact h3
   | tmp ds => cases h4
   | dW i =>
     rcases h4 with ⟨b', d', q1, q2⟩ | ⟨_, _, _, q2⟩ | ⟨_, _, q2⟩
     . cases q2
       obtain ⟨w, q3, q4⟩ := g.val i b' d q1
       have h3 : σ[i]? = some (some v) := h3
       rw [h3] at q3; cases q3
       exact q4
     . cases q2
     . cases q2
 . obtain ⟨a, v, h1, h2, h3⟩ := A.get l1 e
   have h4 := l2 j a _ h1 e
   cases a with
   | dat d' => cases h4; cases e'
   | tmp es =>
     cases h4; cases e'
     obtain ⟨x, xs, rfl, q2, q3, q4, _⟩ := h3
     exact ⟨x, _, up h2, q2, q3, xs, rfl, q4⟩
   | dW i =>
     have h3 : σ[i]? = some (some v) := h3
     rcases h4 with ⟨b', d', q1, q2⟩ | ⟨b', es, q1, q2⟩ | ⟨es, q1, q2⟩
     . cases q2; cases e'
     . cases q2; cases e'
       obtain ⟨x, xs, q3, q4⟩ := g.own i _ _ q1 rfl
       rw [h3] at q3; cases q3
       exact ⟨x, xs, up h2, q4⟩
     . cases q2; cases e'
       obtain ⟨x, xs, q3, q4⟩ := g.own i _ _ q1 rfl
       rw [h3] at q3; cases q3
       exact ⟨x, xs, up h2, q4⟩
 . obtain ⟨a, v, h1, h2, h3⟩ := A.get l1 e1
   obtain ⟨a', v', h1', h2', h3'⟩ := A.get l1 f1
   have e3 := dn e3
   have f3 := dn f3
   rw [h2] at e3; cases e3
   rw [h2'] at f3; cases f3
   have s1 := l2 j a _ h1 e1
   have s2 := l2 k a' _ h1' f1
   have nm : ∀ {i : Nat} {s : Sl} {ds : Oc}, lst? s = some ds -> zb ρ (.dW i) s -> ∃ s' ds', ρ[i]? = some s' /\ lst? s' = some ds' := fun {i s ds} l z => by
    rcases z with ⟨_, _, _, z⟩ | ⟨b, es, q, _⟩ | ⟨es, q, _⟩
    . subst z; cases l
    . exact ⟨_, _, q, rfl⟩
    . exact ⟨_, _, q, rfl⟩
   cases a with
   | dat d => cases s1; cases e2
   | tmp Lb =>
     cases a' with
     | dat d => cases s2; cases f2
     | tmp Ga => exact A.dis j k Lb Ga x h1 h1' h2 h2'
     | dW i =>
       obtain ⟨y, _, q1, _, _, _, q2, _⟩ := h3
       cases q1
       obtain ⟨s', ds', q3, q4⟩ := nm f2 s2
       exact absurd ⟨i, ⟨s', ds', q3, q4⟩, h3'⟩ q2
   | dW i =>
     obtain ⟨s', ds', q3, q4⟩ := nm e2 s1
     cases a' with
     | dat d => cases s2; cases f2
     | tmp Ga =>
       obtain ⟨y, _, q1, _, _, _, q2, _⟩ := h3'
       cases q1
       exact absurd ⟨i, ⟨s', ds', q3, q4⟩, h3⟩ q2
     | dW i' =>
       obtain ⟨s'', Xy, q5, q6⟩ := nm f2 s2
       have := g.dis i i' x ⟨⟨s', ds', q3, q4⟩, h3⟩ ⟨⟨s'', Xy, q5, q6⟩, h3'⟩
       subst this
       exact l4 j k i s t ds es h1 h1' e1 f1 e2 f2
theorem lH {as : List Arg} {ss : List Sl} : ∀ (ρ : List Sl) (n i : Nat), (cu as ss n ρ)[i]? = (ρ[i]?).map fun s => dz s (aO (n + i) as ss)
 | [], n, i => by simp [cu]
 | s :: ρ, n, 0 => by simp [cu]
 | s :: ρ, n, i + 1 => by
   rw [cu]
   simp only [List.getElem?_cons_succ]
   rw [lH ρ (n + 1) i]
   have : n + 1 + i = n + (i + 1) := by omega
   rw [this]
theorem lA {as : List Arg} {ss : List Sl} : ∀ (ρ : List Sl) (n : Nat), (cu as ss n ρ).length = ρ.length
 | [], n => rfl
 | s :: ρ, n => by rw [cu]; simp [lA ρ]
theorem gO {i : Nat} : ∀ {as : List Arg} {ss : List Sl} {t : Sl}, aO i as ss = some t -> ∃ j : Nat, as[j]? = some (.dW i) /\ ss[j]? = some t
 | [], _, _, h => by simp [aO] at h
 | a :: as, [], _, h => by cases a <;> simp [aO] at h
 | a :: as, s :: ss, t, h => by
   have tl : aO i as ss = some t -> ∃ j : Nat, (a :: as)[j]? = some (.dW i) /\ (s :: ss)[j]? = some t := fun h => by
    obtain ⟨j, h1, h2⟩ := gO h
    exact ⟨j + 1, by simpa using h1, by simpa using h2⟩
   cases a with
   | dat d => exact tl (by simpa [aO] using h)
   | tmp d => exact tl (by simpa [aO] using h)
   | dW k =>
     rw [aO] at h
     split at h
     . rename_i hk; cases h; subst hk; exact ⟨0, rfl, rfl⟩
     . exact tl h
theorem jh {i : Nat} : ∀ {as : List Arg} {ss : List Sl}, as.length = ss.length -> aO i as ss = none -> ∀ j : Nat, as[j]? ≠ some (.dW i)
 | [], _, _, _ => fun j h => by simp at h
 | a :: as, [], hl, _ => by simp at hl
 | a :: as, s :: ss, hl, h => fun j hj => by
   have hl' : as.length = ss.length := by simpa using hl
   have tl : aO i as ss = none /\ a ≠ .dW i := by
    cases a with
    | dat d => exact ⟨by simpa [aO] using h, by simp⟩
    | tmp d => exact ⟨by simpa [aO] using h, by simp⟩
    | dW k =>
      rw [aO] at h
      split at h
      . cases h
      . rename_i hk; exact ⟨h, fun e => hk (by cases e; rfl)⟩
   cases j with
   | zero => simp at hj; exact tl.2 hj
   | succ j => exact jh hl' tl.1 j (by simpa using hj)
theorem zR {F₀ H₀ F H F' H' : Hp} {ρ₀ ρ args args' : List Sl} {σ σ' : L2.St} {as : List Arg} {vs : List V} (s0 : bQ K F₀ ρ₀ σ H₀ F ρ σ H) (A : uA K F ρ σ H ρ₀ H₀ as vs) (hb : bD ρ as [] = some args)
 (s : bQ K F args (vs.map some) H F' args' σ' H') :
 bQ K F₀ ρ₀ σ H₀ F' (cu as args' 0 ρ) σ H' /\ ∀ v r, bZ K F' args' σ' H' args (vs.map some) H v r -> bZ K F' (cu as args' 0 ρ) σ H' ρ₀ σ H₀ v r := by
 have g := s0.gs
 obtain ⟨l1, l2, l3, l4⟩ := nJ hb
 have up : ∀ {j : Nat} {v : V}, vs[j]? = some v -> (vs.map some)[j]? = some (some v) := fun e => by rw [List.getElem?_map, e]; rfl
 have dn : ∀ {j : Nat} {v : V}, (vs.map some)[j]? = some (some v) -> vs[j]? = some v := fun {j v} e => by
  rw [List.getElem?_map] at e
  cases q : vs[j]? with
  | none => rw [q] at e; cases e
  | some w => rw [q] at e; cases e; rfl
 have la : as.length = args'.length := by rw [s.len, l1]
 -- whose are the lists that the callee holds
 have own : ∀ b, Own args (vs.map some) b -> (∃ (j : Nat) (ds : List D), as[j]? = some (Arg.tmp ds) /\ vs[j]? = some (V.ref b) /\ ¬ Own ρ σ b /\ (Own ρ₀ σ b \/ H₀ b = none)) \/ Own ρ σ b := fun b ⟨j, ⟨sl, ds, e1, e2⟩, e3⟩ => by
  obtain ⟨a, v, h1, h2, h3⟩ := A.get l1 e1
  have s1 := l2 j a _ h1 e1
  have e3 := dn e3
  rw [h2] at e3; cases e3
  cases a with
  | dat d => cases s1; cases e2
  | tmp es =>
    obtain ⟨x, _, q1, _, _, _, q2, q3⟩ := h3
    cases q1
    exact .inl ⟨j, es, h1, h2, q2, q3⟩
  | dW i =>
    right
    rcases s1 with ⟨_, _, _, z⟩ | ⟨b', es, q, _⟩ | ⟨es, q, _⟩
    . subst z; cases e2
    . exact ⟨i, ⟨_, _, q, rfl⟩, h3⟩
    . exact ⟨i, ⟨_, _, q, rfl⟩, h3⟩
 have back : ∀ b, Own ρ σ b \/ H b = none -> Own ρ₀ σ b \/ H₀ b = none := fun b h => by
  rcases h with h | h
  . exact s0.yP b h
  . by_cases ho : Own ρ₀ σ b
    . exact .inl ho
    . right
      cases e : H₀ b with
      | none => rfl
      | some o => rw [s0.keep b o e ho] at h; cases h
 have own' : ∀ b, Own args (vs.map some) b -> Own ρ₀ σ b \/ H₀ b = none := fun b h => by
  rcases own b h with ⟨_, _, _, _, _, z⟩ | z
  . exact z
  . exact back b (.inl z)
 -- a name's slot behind the call
 have slot : ∀ {i : Nat} {t : Sl}, (cu as args' 0 ρ)[i]? = some t -> ∃ s1, ρ[i]? = some s1 /\ t = dz s1 (aO i as args') := fun {i t} h => by
  rw [lH] at h
  obtain ⟨s1, e1, e2⟩ := map_some h
  exact ⟨s1, e1, by rw [<- e2, Nat.zero_add]⟩
 have Rx : ∀ {i : Nat} {s1 : Sl}, ρ[i]? = some s1 -> (cu as args' 0 ρ)[i]? = some (dz s1 (aO i as args')) := fun {i s1} h => by
  rw [lH, h, Nat.zero_add]; rfl
 -- what the callee left of a list that was lent to it
 have lent : ∀ {i j : Nat} {s1 t : Sl} {ds : List D}, ρ[i]? = some s1 -> lst? s1 = some (.l ds) -> as[j]? = some (.dW i) -> args'[j]? = some t ->
  ∃ v s2, σ[i]? = some (some v) /\ σ'[j]? = some (some v) /\ args[j]? = some s2 /\ lF s2 t /\ ((∃ b, s1 = .own b ds /\ s2 = .own true ds) \/ (s1 = .lent ds /\ s2 = .lent ds)) := fun {i j s1 t ds} h1 h2 h3 h4 => by
  have hj : j < args.length := by rw [l1]; exact (List.getElem?_eq_some_iff.mp h3).1
  have e1 : args[j]? = some args[j] := by simp [hj]
  obtain ⟨a, v, q1, q2, q3⟩ := A.get l1 e1
  rw [h3] at q1; cases q1
  have q4 := l2 j _ _ h3 e1
  have kind : (∃ b, s1 = .own b ds /\ args[j] = .own true ds) \/ (s1 = .lent ds /\ args[j] = .lent ds) := by
   rcases q4 with ⟨_, _, z, _⟩ | ⟨b, es, z, z'⟩ | ⟨es, z, z'⟩
   . rw [h1] at z; cases z; cases h2
   . rw [h1] at z; cases z; cases h2; exact .inl ⟨b, rfl, z'⟩
   . rw [h1] at z; cases z; cases h2; exact .inr ⟨rfl, z'⟩
  have lk : Ci args[j] = true := by rcases kind with ⟨_, _, z⟩ | ⟨_, z⟩ <;> rw [z] <;> rfl
  obtain ⟨z1, s', z2, z3⟩ := s.lk j _ e1 lk
  rw [h4] at z2; cases z2
  exact ⟨v, _, q3, by rw [z1]; exact up q2, e1, z3, kind⟩
 have Gb : ∀ {i : Nat} {x : Addr}, bN (cu as args' 0 ρ) σ i x -> bN ρ σ i x := fun {i x} ⟨⟨t, ds, e1, e2⟩, e3⟩ => by
  obtain ⟨s1, q1, q2⟩ := slot e1
  refine ⟨?_, e3⟩
  cases s1 with
  | bj => subst q2; cases e2
  | val b d => subst q2; cases e2
  | own b es => exact ⟨_, _, q1, rfl⟩
  | lent es => exact ⟨_, _, q1, rfl⟩
  | km m => exact ⟨_, _, q1, rfl⟩
 refine ⟨?_, fun v r h => ?_⟩
 rotate_left
 . cases r with
   | val d => exact h
   | own ds =>
     obtain ⟨x, xs, h1, h2, h3, h4, h5, h6⟩ := h
     refine ⟨x, xs, h1, h2, h3, h4, fun ⟨i, h⟩ => ?_, ?_⟩
     . have hO := Gb h
       obtain ⟨⟨s1, Lb, q1, q2⟩, q3⟩ := hO
       obtain ⟨x', xs', w1, w2, _⟩ := g.own i s1 Lb q1 q2
       rw [q3] at w1; cases w1
       rcases h6 with h6 | h6
       . rcases own x h6 with ⟨_, _, _, _, z, _⟩ | _
         . exact z ⟨i, ⟨s1, Lb, q1, q2⟩, q3⟩
         . -- a name was lent
           obtain ⟨j, ⟨sl, es, w3, w4⟩, w5⟩ := h6
           obtain ⟨a', v', y1, y2, y3⟩ := A.get l1 w3
           have sa := l2 j a' _ y1 w3
           have w5 := dn w5
           rw [y2] at w5; cases w5
           cases a' with
           | dat d => cases sa; cases w4
           | tmp es' => obtain ⟨_, _, u1, _, _, _, u2, _⟩ := y3; cases u1; exact u2 ⟨i, ⟨s1, Lb, q1, q2⟩, q3⟩
           | dW i' =>
             have ex : ∃ s' ds', ρ[i']? = some s' /\ lst? s' = some ds' := by
              rcases sa with ⟨_, _, _, z⟩ | ⟨b, es, q, _⟩ | ⟨es, q, _⟩
              . subst z; cases w4
              . exact ⟨_, _, q, rfl⟩
              . exact ⟨_, _, q, rfl⟩
             have := g.dis i i' x ⟨⟨s1, Lb, q1, q2⟩, q3⟩ ⟨ex, y3⟩
             subst this
             have hk : ∃ Ga, Lb = .l Ga := by
              rcases sa with ⟨_, _, _, z⟩ | ⟨b, es, q, _⟩ | ⟨es, q, _⟩
              . subst z; cases w4
              . rw [q1] at q; cases q; cases q2; exact ⟨_, rfl⟩
              . rw [q1] at q; cases q; cases q2; exact ⟨_, rfl⟩
             obtain ⟨Ga, rfl⟩ := hk
             have hj : j < args'.length := by rw [<- la]; exact (List.getElem?_eq_some_iff.mp y1).1
             have e' : args'[j]? = some args'[j] := by simp [hj]
             obtain ⟨v2, s2, u1, u2, u3, u4, u5⟩ := lent q1 q2 y1 e'
             rw [q3] at u1; cases u1
             -- the slot behind the call is a list's
             obtain ⟨⟨t, dt, t1, t2⟩, _⟩ := h
             obtain ⟨s3, t3, t4⟩ := slot t1
             rw [q1] at t3; cases t3
             have lo : ∃ t5, aO i as args' = some t5 := by
              cases hl : aO i as args' with
              | none => exact absurd y1 (jh la hl j)
              | some t5 => exact ⟨t5, rfl⟩
             obtain ⟨t5, hl⟩ := lo
             obtain ⟨j2, t6, t7⟩ := gO hl
             have hj2 : j2 < args.length := by rw [l1]; exact (List.getElem?_eq_some_iff.mp t6).1
             obtain ⟨_, s6, _, v2', v3', v4', v5'⟩ := lent q1 q2 t6 t7
             have l4' : j2 = j := by
              have a1 : lst? s6 = some (.l Ga) := by rcases v5' with ⟨_, _, z⟩ | ⟨_, z⟩ <;> rw [z] <;> rfl
              have a2 : lst? s2 = some (.l Ga) := by rcases u5 with ⟨_, _, z⟩ | ⟨_, z⟩ <;> rw [z] <;> rfl
              exact l4 j2 j i s6 s2 _ _ t6 y1 v3' u3 a1 a2
             subst l4'
             rw [e'] at t7; cases t7
             rw [hl] at t4
             refine h5 ⟨j2, ?_, u2⟩
             rcases u5 with ⟨b, z1, z2⟩ | ⟨z1, z2⟩
             . subst z1; subst z2
               rcases u4 with ⟨d2, z⟩ | ⟨d2, z⟩
               . exact ⟨_, .l d2, e', by rw [z]; rfl⟩
               . rw [z] at t4; subst t4; cases t2
             . subst z1; subst z2
               exact ⟨_, .l Ga, e', by rw [show args'[j2] = .lent Ga from u4]; rfl⟩
       . rw [w2] at h6; cases h6
     . rcases h6 with h6 | h6
       . exact own' x h6
       . exact back x (.inr h6)
 refine ⟨⟨s.gs.sub, by rw [lA]; exact g.len, fun i b d e => ?_, fun i t ds e e' => ?_, fun i j x h1 h2 => g.dis i j x (Gb h1) (Gb h2)⟩, s0.dX.trans s.dX, fun b n n' => ?_, fun b o h n => ?_, fun b ⟨i, h⟩ => back b (.inl ⟨i, Gb h⟩), by rw [lA]; exact s0.len, fun i s1 h l => ?_⟩
 . -- data
   obtain ⟨s1, q1, q2⟩ := slot e
   cases s1 with
   | bj => cases q2
   | lent es => cases q2
   | km _ => cases q2
   | val b' d' =>
     cases q2
     obtain ⟨v, z1, z2⟩ := g.val i b d q1
     exact ⟨v, z1, z2.mono s.dX⟩
   | own b' es =>
     cases hl : aO i as args' with
     | none => rw [hl] at q2; cases q2
     | some t =>
       rw [hl] at q2
       obtain ⟨j, z1, z2⟩ := gO hl
       obtain ⟨v, s2, y1, y2, y3, y4, y5⟩ := lent q1 rfl z1 z2
       cases t with
       | bj => cases q2
       | own _ _ => cases q2
       | lent _ => cases q2
       | km _ => cases q2
       | val b2 d2 =>
         cases q2
         obtain ⟨w, x1, x2⟩ := s.gs.val j b2 d z2
         rw [y2] at x1; cases x1
         exact ⟨v, y1, x2⟩
 . -- lists
   obtain ⟨s1, q1, q2⟩ := slot e
   -- a list that was not lent
   have stay : ∀ es, lst? s1 = some es -> (∀ j : Nat, as[j]? ≠ some (.dW i)) -> t = s1 -> ∃ (a : Addr) (xs : HO), σ[i]? = some (some (V.ref a)) /\ H' a = some xs /\ F' a = none /\ pK K F' xs ds := fun es he hn ht => by
    subst ht
    rw [he] at e'; cases e'
    obtain ⟨a, xs, z1, z2, z3, z4⟩ := g.own i _ ds q1 he
    have no : ¬ Own args (vs.map some) a := fun h => by
     obtain ⟨j, ⟨sl, es, w1, w2⟩, w3⟩ := h
     obtain ⟨a', v, h1, h2, h3⟩ := A.get l1 w1
     have sa := l2 j a' _ h1 w1
     have w3 := dn w3
     rw [h2] at w3; cases w3
     cases a' with
     | dat d => cases sa; cases w2
     | tmp es => obtain ⟨x, _, y1, _, _, _, y2, _⟩ := h3; cases y1; exact y2 ⟨i, ⟨_, ds, q1, he⟩, z1⟩
     | dW i' =>
       have : ∃ s' ds', ρ[i']? = some s' /\ lst? s' = some ds' := by
        rcases sa with ⟨_, _, _, z⟩ | ⟨b, es, q, _⟩ | ⟨es, q, _⟩
        . subst z; cases w2
        . exact ⟨_, _, q, rfl⟩
        . exact ⟨_, _, q, rfl⟩
       have := g.dis i i' a ⟨⟨_, ds, q1, he⟩, z1⟩ ⟨this, h3⟩
       subst this
       exact hn j h1
    refine ⟨a, xs, z1, s.keep a _ z2 no, ?_, z4.mono s.dX⟩
    cases q : F' a with
    | none => rfl
    | some o =>
      rcases s.yU a z3 (by rw [q]; simp) with z | z
      . exact absurd z no
      . rw [z2] at z; exact (zF z4 z).elim
   cases hl : aO i as args' with
   | none =>
     have hn := jh la hl
     rw [hl] at q2
     cases s1 with
     | bj => subst q2; cases e'
     | val b' d' => subst q2; cases e'
     | own b' es => exact stay _ rfl hn q2
     | lent es => exact stay _ rfl hn q2
     | km m => exact stay _ rfl hn q2
   | some t2 =>
     rw [hl] at q2
     obtain ⟨j, z1, z2⟩ := gO hl
     cases s1 with
     | bj => subst q2; cases e'
     | val b' d' => subst q2; cases e'
     | km m =>
       have hj : j < args.length := by rw [l1]; exact (List.getElem?_eq_some_iff.mp z1).1
       rcases l2 j _ _ z1 (show args[j]? = some args[j] by simp [hj]) with ⟨_, _, z, _⟩ | ⟨_, _, z, _⟩ | ⟨_, z, _⟩ <;> (rw [q1] at z; cases z)
     | own b' es =>
       obtain ⟨v, s2, y1, y2, y3, y4, y5⟩ := lent q1 rfl z1 z2
       have : t2 ≠ .bj /\ ∀ x, t2 ≠ .lent x := by
        rcases y5 with ⟨_, _, y5⟩ | ⟨y5, _⟩
        . subst y5; rcases y4 with ⟨_, rfl⟩ | ⟨_, rfl⟩ <;> simp
        . cases y5
       cases t2 with
       | bj => exact absurd rfl this.1
       | km x =>
         rcases y5 with ⟨_, _, y5⟩ | ⟨y5, _⟩
         . subst y5; rcases y4 with ⟨_, h⟩ | ⟨_, h⟩ <;> cases h
         . cases y5
       | lent x => exact absurd rfl (this.2 x)
       | val b2 d2 => subst q2; cases e'
       | own b2 es2 =>
         subst q2; cases e'
         obtain ⟨a, xs, x1, x2⟩ := s.gs.own j _ _ z2 rfl
         rw [y2] at x1; cases x1
         exact ⟨a, xs, y1, x2⟩
     | lent es =>
       obtain ⟨v, s2, y1, y2, y3, y4, y5⟩ := lent q1 rfl z1 z2
       have ht : t = .lent es := by rw [q2]; cases t2 <;> rfl
       subst ht
       cases e'
       rcases y5 with ⟨_, y5, _⟩ | ⟨_, y5⟩
       . cases y5
       . subst y5
         cases (show t2 = .lent es from y4)
         obtain ⟨a, xs, x1, x2⟩ := s.gs.own j _ _ z2 rfl
         rw [y2] at x1; cases x1
         exact ⟨a, xs, y1, x2⟩
 . by_cases q : F b = none
   . rcases s.yU b q n' with z | z
     . exact (own' b z).imp id mj
     . by_cases ho : Own ρ₀ σ b
       . exact .inl ho
       . right
         cases q2 : H₀ b with
         | none => rfl
         | some o => rw [s0.keep b o q2 ho] at z; exact z
   . exact s0.yU b n q
 . refine s.keep b o (s0.keep b o h n) fun z => ?_
   rcases own' b z with z | z
   . exact n z
   . rw [h] at z; cases z
 . obtain ⟨e1, s2, h2, k2⟩ := s0.lk i s1 h l
   refine ⟨e1, _, Rx h2, ?_⟩
   have Xz := k2.Ci l
   refine lF.trans l k2 ?_
   cases s2 with
   | bj => cases Xz
   | km _ => cases Xz
   | val b d => exact lF.refl _
   | lent es =>
     cases aO i as args' with
     | none => rfl
     | some t => cases t <;> rfl
   | own b es =>
     cases b with
     | false => cases Xz
     | true =>
       cases aO i as args' with
       | none => exact .inl ⟨_, rfl⟩
       | some t =>
         cases t with
         | bj => exact .inl ⟨_, rfl⟩
         | lent _ => exact .inl ⟨_, rfl⟩
         | km _ => exact .inl ⟨_, rfl⟩
         | own _ ds => exact .inl ⟨_, rfl⟩
         | val _ d => exact .inr ⟨_, rfl⟩
theorem uA.rebase {F1 H1 F2 H2 F H : Hp} {ρ ρ1 ρ2 : List Sl} {σ : L2.St} {as : List Arg} {vs : List V} (a : bQ K F ρ σ H F1 ρ1 σ H1) (A : uA K F2 ρ2 σ H2 ρ1 H1 as vs) : uA K F2 ρ2 σ H2 ρ H as vs := by
 refine ⟨A.len, fun j b v h1 h2 => ?_, A.dis⟩
 have h := A.one j b v h1 h2
 cases b with
 | dat d => exact h
 | dW i => exact h
 | tmp ds =>
   obtain ⟨x, xs, q1, q2, q3, q4, q5, q6⟩ := h
   refine ⟨x, xs, q1, q2, q3, q4, q5, ?_⟩
   rcases q6 with q6 | q6
   . exact a.yP x q6
   . by_cases ho : Own ρ σ x
     . exact .inl ho
     . right
       cases e : H x with
       | none => rfl
       | some o => rw [a.keep x o e ho] at q6; cases q6
theorem uA.Qi {F1 H1 F2 H2 F H : Hp} {ρ ρ1 ρ2 : List Sl} {σ : L2.St} {as : List Arg} {vs : List V} {v : V} {r : R} (s1 : bQ K F ρ σ H F1 ρ1 σ H1) (rr : bZ K F1 ρ1 σ H1 ρ σ H v r) (s2 : bQ K F1 ρ1 σ H1 F2 ρ2 σ H2)
 (A : uA K F2 ρ2 σ H2 ρ1 H1 as vs) : uA K F2 ρ2 σ H2 ρ H (ug r :: as) (v :: vs) := by
 have h1 : uX K F1 ρ1 σ H1 ρ H v (ug r) := by
  cases r with
  | val d => exact rr
  | own ds => exact rr
 refine .cons (h1.later s2) (A.rebase s1) fun ds x ea ev k es ek evk => ?_
 cases r with
 | val d => cases ea
 | own ds' =>
   obtain ⟨y, xs, q1, q2, q3, q4, q5, q6⟩ := rr
   rw [ev] at q1; cases q1
   have h := A.one k _ _ ek evk
   obtain ⟨z, zs, w1, _, _, _, _, w6⟩ := h
   cases w1
   rcases w6 with w6 | w6
   . exact q5 w6
   . rw [q2] at w6; cases w6
end
end HH
end
section
namespace HH
open PySem L2 PySem.Spec PyProof.Rows
section
variable {K : PySem.W.Frag} {F F1 H H1 : Hp} {ρ ρ1 ρ2 : List Sl} {σ σ1 : L2.St}
theorem vK {i : Nat} {s : Sl} (h : put ρ i s = some ρ1) : ∃ s0, ρ[i]? = some s0 /\ Ci s0 = false /\ ρ1 = ρ.set i s := by
 unfold put at h
 split at h
 . rename_i q; cases h; exact ⟨_, q, rfl, rfl⟩
 . rename_i q; cases h; exact ⟨_, q, rfl, rfl⟩
 . rename_i q; cases h; exact ⟨_, q, rfl, rfl⟩
 . cases h
theorem bQ.put {i : Nat} {v : V} {r : R} (s : bQ K F ρ σ H F1 ρ1 σ1 H1) (rr : bZ K F1 ρ1 σ1 H1 ρ σ H v r) (h : HH.put ρ1 i (yf r) = some ρ2) : bQ K F ρ σ H F1 ρ2 (σ1.set i (some v)) H1 := by
 obtain ⟨s0, h0, hl, rfl⟩ := vK h
 have hi : i < ρ1.length := (List.getElem?_eq_some_iff.mp h0).1
 have hi' : i < σ1.length := by rw [<- s.gs.len]; exact hi
 have old : ∀ {j : Nat} {a : Addr}, j ≠ i -> bN (ρ1.set i (yf r)) (σ1.set i (some v)) j a -> bN ρ1 σ1 j a := fun {j a} hj ⟨⟨t, ds, e1, e2⟩, e3⟩ => by
  rw [List.getElem?_set_ne (Ne.symm hj)] at e1 e3
  exact ⟨⟨t, ds, e1, e2⟩, e3⟩
 have new : ∀ {a : Addr}, bN (ρ1.set i (yf r)) (σ1.set i (some v)) i a -> ¬ Own ρ1 σ1 a /\ (Own ρ σ a \/ H a = none) := fun {a} ⟨⟨t, ds, e1, e2⟩, e3⟩ => by
  rw [List.getElem?_set_self hi] at e1
  rw [List.getElem?_set_self hi'] at e3
  cases e1; cases e3
  cases r with
  | val d => cases e2
  | own es => obtain ⟨x, xs, q1, q2, q3, q4, q5, q6⟩ := rr; cases q1; exact ⟨q5, q6⟩
 refine ⟨⟨s.gs.sub, by simp [s.gs.len], fun j b d e => ?_, fun j t ds e e' => ?_, fun j k a h1 h2 => ?_⟩, s.dX, s.yU, s.keep, fun a ⟨j, hj⟩ => ?_, by simp [s.len], fun j t e l => ?_⟩
 . by_cases hj : j = i
   . subst hj
     rw [List.getElem?_set_self hi] at e
     cases r with
     | own es => cases e
     | val d' => cases e; exact ⟨v, List.getElem?_set_self hi', rr⟩
   . rw [List.getElem?_set_ne (Ne.symm hj)] at e ⊢
     exact s.gs.val j b d e
 . by_cases hj : j = i
   . subst hj
     rw [List.getElem?_set_self hi] at e
     cases r with
     | val d' => cases e; cases e'
     | own es =>
       cases e; cases e'
       obtain ⟨x, xs, rfl, q2, q3, q4, _⟩ := rr
       exact ⟨x, _, List.getElem?_set_self hi', q2, q3, xs, rfl, q4⟩
   . rw [List.getElem?_set_ne (Ne.symm hj)] at e ⊢
     exact s.gs.own j t ds e e'
 . by_cases hj : j = i
   . by_cases hk : k = i
     . rw [hj, hk]
     . subst hj; exact absurd ⟨k, old hk h2⟩ (new h1).1
   . by_cases hk : k = i
     . subst hk; exact absurd ⟨j, old hj h1⟩ (new h2).1
     . exact s.gs.dis j k a (old hj h1) (old hk h2)
 . by_cases hji : j = i
   . subst hji; exact (new hj).2
   . exact s.yP a ⟨j, old hji hj⟩
 . obtain ⟨e1, t1, e2, e3⟩ := s.lk j t e l
   have hj : j ≠ i := by
    rintro rfl
    rw [h0] at e2; cases e2
    rw [e3.Ci l] at hl; cases hl
   exact ⟨by rw [List.getElem?_set_ne (Ne.symm hj)]; exact e1, t1, by rw [List.getElem?_set_ne (Ne.symm hj)]; exact e2, e3⟩
theorem GS.mut {x : Nat} {b : Bool} {ds es : List D} {a : Addr} {ys : List V} (g : GS K F ρ σ H) (e : ρ[x]? = some (.own b ds)) (hx : σ[x]? = some (some (.ref a))) (r : aJ K F ys es) :
 bQ K F ρ σ H F (ρ.set x (.own b es)) σ (upd H a (.lst ys)) := by
 have hi : x < ρ.length := (List.getElem?_eq_some_iff.mp e).1
 have oa : bN ρ σ x a := ⟨⟨_, _, e, rfl⟩, hx⟩
 obtain ⟨a', xs, h1, h2, h3, h4⟩ := g.o9 x _ ds e rfl
 rw [hx] at h1; cases h1
 have old : ∀ {j : Nat} {c : Addr}, bN (ρ.set x (.own b es)) σ j c -> bN ρ σ j c := fun {j c} ⟨⟨t, dt, q1, q2⟩, q3⟩ => by
  by_cases hj : j = x
  . subst hj; exact ⟨⟨_, _, e, rfl⟩, q3⟩
  . rw [List.getElem?_set_ne (Ne.symm hj)] at q1; exact ⟨⟨t, dt, q1, q2⟩, q3⟩
 refine ⟨⟨fun c o q => ?_, by simp [g.len], fun j b' d q => ?_, fun j t dt q q' => ?_, fun j k c q1 q2 => g.dis j k c (old q1) (old q2)⟩, .refl _, fun c n n' => absurd n n', fun c o q n => ?_, fun c ⟨j, q⟩ => .inl ⟨j, old q⟩, by simp, fun j t q l => ⟨rfl, ?_⟩⟩
 . have : c ≠ a := by rintro rfl; rw [h3] at q; cases q
   rw [aN this]; exact g.sub c o q
 . by_cases hj : j = x
   . subst hj; rw [List.getElem?_set_self hi] at q; cases q
   . rw [List.getElem?_set_ne (Ne.symm hj)] at q; exact g.val j b' d q
 . by_cases hj : j = x
   . subst hj
     rw [List.getElem?_set_self hi] at q; cases q; cases q'
     exact ⟨a, _, hx, bI, h3, ys, rfl, r⟩
   . rw [List.getElem?_set_ne (Ne.symm hj)] at q
     obtain ⟨c, zs, w1, w2, w3, w4⟩ := g.own j t dt q q'
     have : c ≠ a := by rintro rfl; exact hj (g.dis j x c ⟨⟨t, dt, q, q'⟩, w1⟩ oa)
     exact ⟨c, zs, w1, by rw [aN this]; exact w2, w3, w4⟩
 . have : c ≠ a := by rintro rfl; exact n ⟨x, oa⟩
   rw [aN this]; exact q
 . by_cases hj : j = x
   . subst hj
     rw [e] at q; cases q
     refine ⟨_, List.getElem?_set_self hi, ?_⟩
     cases b with
     | true => exact .inl ⟨_, rfl⟩
     | false => cases l
   . exact ⟨t, by rw [List.getElem?_set_ne (Ne.symm hj)]; exact q, .refl t⟩
theorem GS.lend {i : Nat} {b : Bool} {ds : List D} (g : GS K F ρ σ H) (e : ρ[i]? = some (.own b ds)) : GS K F (ρ.set i (.lent ds)) σ H := by
 have hi : i < ρ.length := (List.getElem?_eq_some_iff.mp e).1
 have old : ∀ {j : Nat} {c : Addr}, bN (ρ.set i (.lent ds)) σ j c -> bN ρ σ j c := fun {j c} ⟨⟨t, dt, q1, q2⟩, q3⟩ => by
  by_cases hj : j = i
  . subst hj; exact ⟨⟨_, _, e, rfl⟩, q3⟩
  . rw [List.getElem?_set_ne (Ne.symm hj)] at q1; exact ⟨⟨t, dt, q1, q2⟩, q3⟩
 refine ⟨g.sub, by simp [g.len], fun j b' d q => ?_, fun j t dt q q' => ?_, fun j k c q1 q2 => g.dis j k c (old q1) (old q2)⟩
 . by_cases hj : j = i
   . subst hj; rw [List.getElem?_set_self hi] at q; cases q
   . rw [List.getElem?_set_ne (Ne.symm hj)] at q; exact g.val j b' d q
 . by_cases hj : j = i
   . subst hj; rw [List.getElem?_set_self hi] at q; cases q; cases q'; exact g.own j _ _ e rfl
   . rw [List.getElem?_set_ne (Ne.symm hj)] at q; exact g.own j t dt q q'
theorem bQ.bh {i : Nat} {b : Bool} {ds : List D} (g : GS K F ρ σ H) (e : ρ[i]? = some (.own b ds)) (s : bQ K F (ρ.set i (.lent ds)) σ H F1 ρ1 σ1 H1) :
 bQ K F ρ σ H F1 (ρ1.set i (.own b ds)) σ1 H1 /\ ∀ v r, bZ K F1 ρ1 σ1 H1 (ρ.set i (.lent ds)) σ H v r -> bZ K F1 (ρ1.set i (.own b ds)) σ1 H1 ρ σ H v r := by
 have hi : i < ρ.length := (List.getElem?_eq_some_iff.mp e).1
 have h1 : (ρ.set i (.lent ds))[i]? = some (.lent ds) := List.getElem?_set_self hi
 obtain ⟨z1, s', z2, z3⟩ := s.lk i _ h1 rfl
 cases (show s' = .lent ds from z3)
 have hi1 : i < ρ1.length := (List.getElem?_eq_some_iff.mp z2).1
 have o1 : ∀ {j : Nat} {c : Addr}, bN (ρ.set i (.lent ds)) σ j c -> bN ρ σ j c := fun {j c} ⟨⟨t, dt, q1, q2⟩, q3⟩ => by
  by_cases hj : j = i
  . subst hj; exact ⟨⟨_, _, e, rfl⟩, q3⟩
  . rw [List.getElem?_set_ne (Ne.symm hj)] at q1; exact ⟨⟨t, dt, q1, q2⟩, q3⟩
 have o1' : ∀ {c : Addr}, Own ρ σ c -> Own (ρ.set i (.lent ds)) σ c := fun {c} ⟨j, ⟨t, dt, q1, q2⟩, q3⟩ => by
  by_cases hj : j = i
  . subst hj; exact ⟨j, ⟨_, _, h1, rfl⟩, q3⟩
  . exact ⟨j, ⟨t, dt, by rw [List.getElem?_set_ne (Ne.symm hj)]; exact q1, q2⟩, q3⟩
 have o2 : ∀ {j : Nat} {c : Addr}, bN (ρ1.set i (.own b ds)) σ1 j c -> bN ρ1 σ1 j c := fun {j c} ⟨⟨t, dt, q1, q2⟩, q3⟩ => by
  by_cases hj : j = i
  . subst hj; exact ⟨⟨_, _, z2, rfl⟩, q3⟩
  . rw [List.getElem?_set_ne (Ne.symm hj)] at q1; exact ⟨⟨t, dt, q1, q2⟩, q3⟩
 have w : ∀ {c : Addr} {h : Hp}, Own (ρ.set i (.lent ds)) σ c \/ h c = none -> Own ρ σ c \/ h c = none := fun {c h} q => q.imp (fun ⟨j, q⟩ => ⟨j, o1 q⟩) id
 have w' : ∀ {c : Addr} {h : Hp}, Own (ρ.set i (.lent ds)) σ c \/ nt (h c) = none -> Own ρ σ c \/ nt (h c) = none := fun {c h} q => q.imp (fun ⟨j, q⟩ => ⟨j, o1 q⟩) id
 refine ⟨⟨⟨s.gs.sub, by simp [s.gs.len], fun j b' d q => ?_, fun j t dt q q' => ?_, fun j k c q1 q2 => s.gs.dis j k c (o2 q1) (o2 q2)⟩, s.dX, fun c n n' => w' (s.yU c n n'), fun c o q n => s.keep c o q fun ⟨j, x⟩ => n ⟨j, o1 x⟩, fun c ⟨j, q⟩ => w (s.yP c ⟨j, o2 q⟩), by simpa using s.len, fun j t q l => ?_⟩, fun v r h => ?_⟩
 . by_cases hj : j = i
   . subst hj; rw [List.getElem?_set_self hi1] at q; cases q
   . rw [List.getElem?_set_ne (Ne.symm hj)] at q; exact s.gs.val j b' d q
 . by_cases hj : j = i
   . subst hj; rw [List.getElem?_set_self hi1] at q; cases q; cases q'; exact s.gs.own j _ _ z2 rfl
   . rw [List.getElem?_set_ne (Ne.symm hj)] at q; exact s.gs.own j t dt q q'
 . by_cases hj : j = i
   . subst hj
     rw [e] at q; cases q
     refine ⟨z1, _, List.getElem?_set_self hi1, ?_⟩
     cases b with
     | true => exact .inl ⟨_, rfl⟩
     | false => cases l
   . obtain ⟨y1, t', y2, y3⟩ := s.lk j t (by rw [List.getElem?_set_ne (Ne.symm hj)]; exact q) l
     exact ⟨y1, t', by rw [List.getElem?_set_ne (Ne.symm hj)]; exact y2, y3⟩
 . cases r with
   | val d => exact h
   | own es =>
     obtain ⟨x, xs, q1, q2, q3, q4, q5, q6⟩ := h
     exact ⟨x, xs, q1, q2, q3, q4, fun ⟨j, q⟩ => q5 ⟨j, o2 q⟩, w q6⟩
theorem GS.give {i : Nat} {ds : List D} (g : GS K F ρ σ H) (e : ρ[i]? = some (.own false ds)) : ∃ v, σ[i]? = some (some v) /\ bQ K F ρ σ H F (ρ.set i .bj) σ H /\ bZ K F (ρ.set i .bj) σ H ρ σ H v (.own ds) := by
 have hi : i < ρ.length := (List.getElem?_eq_some_iff.mp e).1
 obtain ⟨a, xs, h1, h2, h3, h4⟩ := g.o9 i _ ds e rfl
 have old : ∀ {j : Nat} {c : Addr}, bN (ρ.set i .bj) σ j c -> bN ρ σ j c /\ j ≠ i := fun {j c} ⟨⟨t, dt, q1, q2⟩, q3⟩ => by
  by_cases hj : j = i
  . subst hj; rw [List.getElem?_set_self hi] at q1; cases q1; cases q2
  . rw [List.getElem?_set_ne (Ne.symm hj)] at q1; exact ⟨⟨⟨t, dt, q1, q2⟩, q3⟩, hj⟩
 have oa : bN ρ σ i a := ⟨⟨_, _, e, rfl⟩, h1⟩
 refine ⟨.ref a, h1, ⟨⟨g.sub, by simp [g.len], fun j b' d q => ?_, fun j t dt q q' => ?_, fun j k c q1 q2 => g.dis j k c (old q1).1 (old q2).1⟩, .refl _, fun c n n' => absurd n n', fun _ _ q _ => q, fun c ⟨j, q⟩ => .inl ⟨j, (old q).1⟩, by simp, fun j t q l => ⟨rfl, ?_⟩⟩, a, xs, rfl, h2, h3, h4, fun ⟨j, q⟩ => ?_, .inl ⟨i, oa⟩⟩
 . by_cases hj : j = i
   . subst hj; rw [List.getElem?_set_self hi] at q; cases q
   . rw [List.getElem?_set_ne (Ne.symm hj)] at q; exact g.val j b' d q
 . by_cases hj : j = i
   . subst hj; rw [List.getElem?_set_self hi] at q; cases q; cases q'
   . rw [List.getElem?_set_ne (Ne.symm hj)] at q; exact g.own j t dt q q'
 . by_cases hj : j = i
   . subst hj; rw [e] at q; cases q; cases l
   . exact ⟨t, by rw [List.getElem?_set_ne (Ne.symm hj)]; exact q, .refl t⟩
 . exact (old q).2 (g.dis j i a (old q).1 oa)
theorem GS.more {n : Nat} {τ : List (Option V)} (g : GS K F ρ σ H) (hn : τ.length = n) : GS K F (ρ ++ List.replicate n .bj) (σ ++ τ) H := by
 have get : ∀ {j : Nat} {t : Sl}, (ρ ++ List.replicate n Sl.bj)[j]? = some t -> t ≠ .bj -> ρ[j]? = some t /\ j < ρ.length := fun {j t} q ne => by
  by_cases hj : j < ρ.length
  . rw [List.getElem?_append_left hj] at q; exact ⟨q, hj⟩
  . rw [List.getElem?_append_right (by omega), List.getElem?_replicate] at q
    split at q
    . cases q; exact absurd rfl ne
    . cases q
 have up : ∀ {j : Nat} {v : Option V}, j < ρ.length -> (σ[j]? = some v ↔ (σ ++ τ)[j]? = some v) := fun {j v} hj => by rw [List.getElem?_append_left (by rw [<- g.len]; exact hj)]
 have old : ∀ {j : Nat} {c : Addr}, bN (ρ ++ List.replicate n .bj) (σ ++ τ) j c -> bN ρ σ j c := fun {j c} ⟨⟨t, dt, q1, q2⟩, q3⟩ => by
  obtain ⟨h1, h2⟩ := get q1 (by rintro rfl; cases q2)
  exact ⟨⟨t, dt, h1, q2⟩, (up h2).mpr q3⟩
 refine ⟨g.sub, by simp [g.len, hn], fun j b d q => ?_, fun j t dt q q' => ?_, fun j k c q1 q2 => g.dis j k c (old q1) (old q2)⟩
 . obtain ⟨h1, h2⟩ := get q (by simp)
   obtain ⟨v, e1, e2⟩ := g.val j b d h1
   exact ⟨v, (up h2).mp e1, e2⟩
 . obtain ⟨h1, h2⟩ := get q (by rintro rfl; cases q')
   obtain ⟨a, xs, e1, e2⟩ := g.own j t dt h1 q'
   exact ⟨a, xs, (up h2).mp e1, e2⟩
theorem bQ.less {n : Nat} {τ : List (Option V)} {m : Nat} (hm : m = ρ.length) (g : GS K F ρ σ H) (hn : τ.length = n) (s : bQ K F (ρ ++ List.replicate n .bj) (σ ++ τ) H F1 ρ1 σ1 H1) :
 bQ K F ρ σ H F1 (ρ1.take m) (σ1.take m) H1 /\ ∀ v r, bZ K F1 ρ1 σ1 H1 (ρ ++ List.replicate n .bj) (σ ++ τ) H v r -> bZ K F1 (ρ1.take m) (σ1.take m) H1 ρ σ H v r := by
 subst hm
 have l1 : ρ.length <= ρ1.length := by rw [s.len]; simp
 have l2 : ρ.length <= σ1.length := by rw [<- s.gs.len]; exact l1
 have tk : ∀ {α : Type} {l : List α} {j : Nat} {x : α}, (l.take ρ.length)[j]? = some x -> l[j]? = some x /\ j < ρ.length := fun {α l j x} q => by
  rw [List.getElem?_take] at q
  split at q
  . exact ⟨q, by assumption⟩
  . cases q
 have kt : ∀ {α : Type} {l : List α} {j : Nat} {x : α}, j < ρ.length -> l[j]? = some x -> (l.take ρ.length)[j]? = some x := fun {α l j x} hj q => by rw [List.getElem?_take, if_pos hj]; exact q
 have oN : ∀ {c : Addr}, Own (ρ ++ List.replicate n .bj) (σ ++ τ) c -> Own ρ σ c := fun {c} ⟨j, ⟨t, dt, q1, q2⟩, q3⟩ => by
  by_cases hj : j < ρ.length
  . rw [List.getElem?_append_left hj] at q1
    rw [List.getElem?_append_left (by rw [<- g.len]; exact hj)] at q3
    exact ⟨j, ⟨t, dt, q1, q2⟩, q3⟩
  . rw [List.getElem?_append_right (by omega), List.getElem?_replicate] at q1
    split at q1
    . cases q1; cases q2
    . cases q1
 have oN' : ∀ {c : Addr}, Own ρ σ c -> Own (ρ ++ List.replicate n .bj) (σ ++ τ) c := fun {c} ⟨j, ⟨t, dt, q1, q2⟩, q3⟩ => by
  have hj : j < ρ.length := (List.getElem?_eq_some_iff.mp q1).1
  exact ⟨j, ⟨t, dt, by rw [List.getElem?_append_left hj]; exact q1, q2⟩, by rw [List.getElem?_append_left (by rw [<- g.len]; exact hj)]; exact q3⟩
 have o1 : ∀ {j : Nat} {c : Addr}, bN (ρ1.take ρ.length) (σ1.take ρ.length) j c -> bN ρ1 σ1 j c := fun {j c} ⟨⟨t, dt, q1, q2⟩, q3⟩ => ⟨⟨t, dt, (tk q1).1, q2⟩, (tk q3).1⟩
 have w : ∀ {c : Addr} {h : Hp}, Own (ρ ++ List.replicate n .bj) (σ ++ τ) c \/ h c = none -> Own ρ σ c \/ h c = none := fun {c h} q => q.imp oN id
 have w' : ∀ {c : Addr} {h : Hp}, Own (ρ ++ List.replicate n .bj) (σ ++ τ) c \/ nt (h c) = none -> Own ρ σ c \/ nt (h c) = none := fun {c h} q => q.imp oN id
 refine ⟨⟨⟨s.gs.sub, by simp only [List.length_take]; omega, fun j b d q => ?_, fun j t dt q q' => ?_, fun j k c q1 q2 => s.gs.dis j k c (o1 q1) (o1 q2)⟩, s.dX, fun c a b => w' (s.yU c a b), fun c o q n => s.keep c o q fun x => n (oN x), fun c ⟨j, q⟩ => w (s.yP c ⟨j, o1 q⟩), by simp only [List.length_take]; omega, fun j t q l => ?_⟩, fun v r h => ?_⟩
 . obtain ⟨h1, h2⟩ := tk q
   obtain ⟨v, e1, e2⟩ := s.gs.val j b d h1
   exact ⟨v, kt h2 e1, e2⟩
 . obtain ⟨h1, h2⟩ := tk q
   obtain ⟨a, xs, e1, e2⟩ := s.gs.own j t dt h1 q'
   exact ⟨a, xs, kt h2 e1, e2⟩
 . have hj : j < ρ.length := (List.getElem?_eq_some_iff.mp q).1
   obtain ⟨y1, t', y2, y3⟩ := s.lk j t (by rw [List.getElem?_append_left hj]; exact q) l
   rw [List.getElem?_append_left (by rw [<- g.len]; exact hj)] at y1
   refine ⟨?_, t', kt hj y2, y3⟩
   rw [List.getElem?_take, if_pos hj]; exact y1
 . cases r with
   | val d => exact h
   | own es =>
     obtain ⟨x, xs, q1, q2, q3, q4, q5, q6⟩ := h
     exact ⟨x, xs, q1, q2, q3, q4, fun ⟨j, q⟩ => q5 ⟨j, o1 q⟩, w q6⟩
end
end HH
end
section
namespace HH
open PySem L2 PySem.Spec PyProof.Rows
section
variable {X : Cx} {c : Call} {n : Nat} {e a b d : Expr} {p pa pb pd : P} {pos : Pos} {es : List Expr} {ps : List P}
inductive Vr (K : PySem.W.Frag) (f : List Sl -> Res (List Arg)) (σ : L2.St) (H : Hp) (Q : List V -> Hp -> Prop) : Prop where
 | mk (F : Hp) (ρ : List Sl) (as : List Arg) (ρ' : List Sl) (g : GS K F ρ σ H) (e : f ρ = .ok as ρ') (k : ∀ vs F' H', bQ K F ρ σ H F' ρ' σ H' -> uA K F' ρ' σ H' ρ H as vs -> Q vs H')
noncomputable def SG (X : Cx) (c : Call) (es : List Expr) (ps : List P) : Prop := PA X es (Vr X.K (vY c ps))
theorem aG : SG X c [] [] := uq eY fun σ H Q ⟨F, ρ, as, ρ', g, e, k⟩ => by rw [vY] at e; cases e; exact k [] F H (.refl g) .nil
theorem Dv (ha : SX X c a pa) (hr : SG X c es ps) (hs : starEach (a :: es) X.env = (false, eval a X.env) :: starEach es X.env := by rfl) : SG X c (a :: es) (pa :: ps) := by
 cases hv : isVar pa with
 | none =>
   refine uq (bV ha.ev hr hs) ?_
   rintro σ H Q ⟨F, ρ, as, ρ', g, e, k⟩
   rw [vY, hv] at e
   obtain ⟨r, ρ1, e1, e⟩ := aq e
   obtain ⟨xs, ρ2, e2, e⟩ := aq e
   cases e
   refine ⟨F, ρ, r, ρ1, g, e1, fun v F1 H1 s1 rr => ⟨F1, ρ1, xs, _, s1.gs, e2, fun vs F2 H2 s2 A => k _ F2 H2 (s1.trans s2) (uA.Qi s1 rr s2 A)⟩⟩
 | some i =>
   refine uq (bV (ha.var i hv) hr hs) ?_
   rintro σ H Q ⟨F, ρ, as, ρ', g, e, k⟩
   rw [vY, hv] at e
   obtain ⟨x0, ρ0, e0, e⟩ := aq e
   obtain ⟨Xu, BV⟩ := aM e0
   subst BV
   obtain ⟨xs, ρ2, e2, e⟩ := aq e
   cases e
   obtain ⟨v, h1, _⟩ := g.pk Xu
   exact ⟨v, h1, F, ρ, xs, _, g, e2, fun vs F2 H2 s2 A => k _ F2 H2 s2 (.cons h1 A fun ds x z => by cases z)⟩
theorem Eb {k f : Nat} {fa : Addr} {fd : FuncData} {qs : List Str} {x : Str} {p' : Pos} (Fn : cF X.prog X.w X.K X.mg X.base iZ k fa fd qs (jF X.K qs.length (c f))) (hr : ie k X.A) (hg : Gl X x) (hm : X.mg x = some (.ref fa)) (hk : PySem.W.keepIn X.K (.ref fa) = true)
 (hb : Binds X.K fd qs []) (ha : SG X c (e :: es) ps) (hl : (e :: es).length = qs.length) (hdb : (x == ("__debug__" : Str)) = false := by decide) (he : starEach (e :: es) X.env = (false, eval e X.env) :: starEach es X.env := by rfl) (hpl : (backTo pos (starEach es X.env)).any (·.1) = false := by rfl)
 (hl2 : ps.length = (e :: es).length := by rfl) : SX X c (.Call (.Name x p') (e :: es) [] pos) (.call f ps) := by
 refine ⟨fY (Eo (E := E0) Fn hr hg hm hk hb .nil NZ ha hdb he hpl) ?_, fun i h => by cases h⟩
 rintro σ H Q ⟨F, ρ, r, ρ', g, e, k⟩
 rw [HH.ev] at e
 obtain ⟨as, ρ1, e1, e⟩ := aq e
 unfold lq at e
 split at e
 . cases e
 . rename_i args hb'
   split at e
   . rename_i r' args' hc
     cases e
     refine ⟨F, ρ, as, ρ1, g, e1, fun vs F1 H1 s1 A => ?_⟩
     have hlen : vs.length = qs.length := by
      have : ∀ {ps : List P} {ρ ρ' : List Sl} {as : List Arg}, vY c ps ρ = .ok as ρ' -> as.length = ps.length := by
       intro ps
       induction ps with
       | nil => intro ρ ρ' as h; rw [vY] at h; cases h; rfl
       | cons q qs ih =>
         intro ρ ρ' as h
         rw [vY] at h
         split at h
         . obtain ⟨_, _, _, h⟩ := aq h
           obtain ⟨xs, ρ2, h2, h⟩ := aq h
           cases h; simp [ih h2]
         . obtain ⟨_, _, _, h⟩ := aq h
           obtain ⟨xs, ρ2, h2, h⟩ := aq h
           cases h; simp [ih h2]
      rw [<- A.len, this e1, hl2, hl]
     show jF X.K qs.length (c f) (vs ++ []) H1 Q E0
     rw [List.append_nil]
     refine ⟨hlen, F1, args, r, args', args_gs s1.gs A hb', hc, fun v F' σ' H' s rr => ?_⟩
     obtain ⟨z1, z2⟩ := zR s1 A hb' s
     exact k v F' H' z1 (z2 v r rr)
   . cases e
   . cases e
noncomputable def Ol (K : PySem.W.Frag) (D : Ends) (F' : Hp) (ρ' : List Sl) (σ' : L2.St) (H' : Hp) (ρ : List Sl) (σ : L2.St) (H : Hp) (fl : Fl) : Prop := match fl with
 | .next => D.nx σ' H'
 | .brk => D.bk σ' H'
 | .cont => D.ct σ' H'
 | .ret r => ∀ v, bZ K F' ρ' σ' H' ρ σ H v r -> D.rt v H'
inductive Tt (K : PySem.W.Frag) (f : List Sl -> Res Fl) (D : Ends) (σ : L2.St) (H : Hp) : Prop where
 | mk (F : Hp) (ρ : List Sl) (fl : Fl) (ρ' : List Sl) (g : GS K F ρ σ H) (e : f ρ = .ok fl ρ') (k : ∀ F' σ' H', bQ K F ρ σ H F' ρ' σ' H' -> Ol K D F' ρ' σ' H' ρ σ H fl)
noncomputable def SS (X : Cx) (c : Call) (n : Nat) (st : Stmt) (s : S) : Prop := PS X st (Tt X.K (ex c n s))
noncomputable def SB (X : Cx) (c : Call) (n : Nat) (st : List Stmt) (s : List S) : Prop := xF X st (Tt X.K (jo c n s))
theorem jb {st : Stmt} {t t' : TS} (h : PS X st t) (i : ∀ D σ H, t' D σ H -> t D σ H) : PS X st t' := fun pins s σ H D I q => h pins s σ H D I (i D σ H q)
theorem zJ {st : List Stmt} {t t' : TS} (h : xF X st t) (i : ∀ D σ H, t' D σ H -> t D σ H) : xF X st t' := fun pins s σ H D I q => h pins s σ H D I (i D σ H q)
theorem au : SB X c n [] [] := zJ Dl fun D σ H ⟨F, ρ, fl, ρ', g, e, k⟩ => by rw [jo] at e; cases e; exact k F σ H (.refl g)
theorem aj {st : Stmt} {s : S} {sts : List Stmt} {ss : List S} (h1 : SS X c n st s) (h2 : SB X c n sts ss) : SB X c n (st :: sts) (s :: ss) := by
 refine zJ (zT h1 h2) ?_
 rintro D σ H ⟨F, ρ, fl, ρ', g, e, k⟩
 rw [jo] at e
 obtain ⟨f1, ρ1, e1, e⟩ := aq e
 cases f1 with
 | next =>
   refine ⟨F, ρ, .next, ρ1, g, e1, fun F1 σ1 H1 s1 => ⟨F1, ρ1, fl, ρ', s1.gs, e, fun F2 σ2 H2 s2 => ?_⟩⟩
   have q := k F2 σ2 H2 (s1.trans s2)
   cases fl with
   | next => exact q
   | brk => exact q
   | cont => exact q
   | ret r => exact fun v rr => q v (rr.later s1)
 | brk => cases e; exact ⟨F, ρ, .brk, _, g, e1, k⟩
 | cont => cases e; exact ⟨F, ρ, .cont, _, g, e1, k⟩
 | ret r => cases e; exact ⟨F, ρ, .ret r, _, g, e1, k⟩
theorem Qp {t1 t2 : TE} (h1 : PE X e t1) (h2 : PE X e t2) : PE X e (fun σ H Q => t1 σ H Q \/ t2 σ H Q) := fun pins s σ H Q I h => h.elim (h1 pins s σ H Q I) (h2 pins s σ H Q I)
theorem aX (he : SX X c e p) : SS X c n (.Return (some e) pos) (.ret p) := by
 have plain : ∀ (D : Ends) (σ : L2.St) (H : Hp), (∃ F ρ fl ρ', GS X.K F ρ σ H /\ ((HH.ev c p ρ).bind fun r ρ => .ok (Fl.ret r) ρ) = .ok fl ρ' /\ ∀ F' σ' H', bQ X.K F ρ σ H F' ρ' σ' H' -> (match fl with
  | .next => D.nx σ' H' | .brk => D.bk σ' H' | .cont => D.ct σ' H' | .ret r => ∀ v, bZ X.K F' ρ' σ' H' ρ σ H v r -> D.rt v H')) -> Bh X.K (HH.ev c p) σ H D.rt := fun D σ H ⟨F, ρ, fl, ρ', g, e, k⟩ => by
  obtain ⟨r, ρ1, e1, e⟩ := aq e
  cases e
  exact ⟨F, ρ, r, _, g, e1, fun v F1 H1 s1 rr => k F1 σ H1 s1 v rr⟩
 cases hv : isVar p with
 | none =>
   refine jb (Ab he.ev) fun D σ H ⟨F, ρ, fl, ρ', g, e, k⟩ => plain D σ H ⟨F, ρ, fl, ρ', g, ?_, k⟩
   rw [ex, hv] at e
   exact e
 | some i =>
   -- by the name itself: its own list is handed back, else its data
   have hp : p = .var i := by cases p <;> cases hv; rfl
   subst hp
   refine jb (Ab (Qp (he.var i hv) he.ev)) ?_
   rintro D σ H ⟨F, ρ, fl, ρ', g, e, k⟩
   rw [ex, hv] at e
   dsimp only at e
   split at e
   . rename_i ds q
     cases e
     obtain ⟨v, h1, h2, h3⟩ := g.give q
     exact .inl ⟨v, h1, k F σ H h2 v h3⟩
   . exact .inr (plain D σ H ⟨F, ρ, fl, ρ', g, e, k⟩)
theorem cX {sa sb : List Stmt} {ta tb : List S} (hc : ST X c e p) (ha : SB X c n sa ta) (hb : SB X c n sb tb) : SS X c n (.If e sa sb pos) (.ifs p ta tb) := by
 refine jb (Oh hc ha hb) ?_
 rintro D σ H ⟨F, ρ, fl, ρ', g, e, k⟩
 rw [ex] at e
 obtain ⟨x, ρ1, e1, e⟩ := aq e
 refine ⟨F, ρ, x, ρ1, g, e1, fun F1 H1 s1 => ?_⟩
 have go : ∀ {f : List Sl -> Res Fl}, f ρ1 = .ok fl ρ' -> Tt X.K f D σ H1 := fun {f} h => ⟨F1, ρ1, fl, ρ', s1.gs, h, fun F2 σ2 H2 s2 => by
  have q := k F2 σ2 H2 (s1.trans s2)
  cases fl with
  | next => exact q
  | brk => exact q
  | cont => exact q
  | ret r => exact fun v rr => q v (rr.later s1)⟩
 cases x with
 | true => rw [if_pos rfl] at e; exact go e
 | false => rw [if_neg Bool.false_ne_true] at e; exact go e
theorem aK {i : Nat} {x : Str} {pos' : Pos} (hN : X.N.Nodup) (hi : X.N[i]? = some x) (hx : Loc X.env.scope x) (he : SX X c e p) (hs : swapsWith e (some (.Name x pos')) pos.line X.env = pure false := by rfl) (hf : X.fn x = true \/ X.env.scope.names.lookup x = some .local := by first | exact .inl rfl | exact .inr rfl | assumption) :
 SS X c n (.Assign [.Name x pos'] e pos) (.asg i p) := by
 refine jb (J2 hN hi hx he.ev hs hf) ?_
 rintro D σ H ⟨F, ρ, fl, ρ', g, e, k⟩
 rw [ex] at e
 obtain ⟨r, ρ1, e1, e⟩ := aq e
 obtain ⟨ρ2, ρ3, e2, e⟩ := aq e
 cases e
 have zz := aM e2; clear e2; obtain ⟨e2, e3⟩ := zz
 exact ⟨F, ρ, r, ρ1, g, e1, fun v F1 H1 s1 rr => k F1 _ H1 (s1.put rr e2)⟩
end
end HH
end
section
namespace L2
open PySem PySem.Spec PyProof.Rows
noncomputable def tW (X : Cx) (scope : Scope) (N' : List Str) (cl : List (Str × Addr)) (C : Addr) (s₀ : Shared) (H₀ : Hp) (ex : List Addr) : Cx :=
 { X with N := N', s₀ := s₀, H₀ := H₀, env := compEnvC scope cl C X.env, outer := X.stack, stack := X.stack, ex := ex, fn := fun x => scope.names.lookup x == some .cell, pn := [], xe := fun _ _ => False }
theorem vf {env : Env} (l : List (Str × NameKind)) : ∀ (cs : List (Str × Addr)), (∀ n, (n, NameKind.free) ∈ l -> ∃ c, env.cells.lookup n = some c) -> (∀ n c, cs.lookup n = some c -> env.cells.lookup n = some c) ->
 ∃ cl, (forIn l cs (fun (x : Str × NameKind) (r : List (Str × Addr)) => (if (x.2 == NameKind.free) = true then (do let a <- cellOf env x.1; pure (ForInStep.yield ((x.1, a) :: r))) else pure (ForInStep.yield r) : Sem (ForInStep (List (Str × Addr))))) : Sem (List (Str × Addr))) = pure cl /\
   (∀ n c, cl.lookup n = some c -> env.cells.lookup n = some c) /\ (∀ n, ((n, NameKind.free) ∈ l \/ (cs.lookup n).isSome) -> (cl.lookup n).isSome) := by
 induction l with
 | nil => intro cs _ h; exact ⟨cs, rfl, h, fun n hn => by rcases hn with hn | hn; cases hn; exact hn⟩
 | cons y l ih =>
   obtain ⟨n, k⟩ := y
   intro cs hl hc
   rw [List.forIn_cons]
   by_cases hk : k = .free
   . subst hk
     obtain ⟨a, ha⟩ := hl n List.mem_cons_self
     obtain ⟨cl, e, h1, h2⟩ := ih ((n, a) :: cs) (fun m hm => hl m (List.mem_cons_of_mem _ hm)) fun m c hm => by
      rw [List.lookup_cons] at hm
      split at hm
      . rename_i q; have q := eq_of_beq q; subst q; cases hm; exact ha
      . exact hc m c hm
     refine ⟨cl, ?_, h1, fun m hm => h2 m ?_⟩
     . rw [<- e]
       have : cellOf env n = pure a := by unfold cellOf; rw [ha]
       simp only [beq_self_eq_true, if_true, this]
       rfl
     . rcases hm with hm | hm
       . rcases List.mem_cons.mp hm with hm | hm
         . cases hm; right; simp [List.lookup_cons]
         . exact .inl hm
       . right
         rw [List.lookup_cons]
         split
         . rfl
         . exact hm
   . obtain ⟨cl, e, h1, h2⟩ := ih cs (fun m hm => hl m (List.mem_cons_of_mem _ hm)) hc
     refine ⟨cl, ?_, h1, fun m hm => h2 m ?_⟩
     . rw [<- e]
       have : (k == NameKind.free) = false := by simpa using hk
       simp only [this, Bool.false_eq_true, if_false]
       rfl
     . rcases hm with hm | hm
       . rcases List.mem_cons.mp hm with hm | hm
         . cases hm; exact absurd rfl hk
         . exact .inl hm
       . exact .inr hm
theorem vm {env : Env} {scope : Scope} (hl : ∀ n, (n, NameKind.free) ∈ scope.names -> ∃ c, env.cells.lookup n = some c) :
 ∃ cl, closureFor scope env = pure cl /\ (∀ n c, cl.lookup n = some c -> env.cells.lookup n = some c) /\ ∀ n, (n, NameKind.free) ∈ scope.names -> (cl.lookup n).isSome := by
 obtain ⟨cl, e, h1, h2⟩ := vf (env := env) scope.names [] hl (by simp)
 refine ⟨cl, ?_, h1, fun n hn => h2 n (.inl hn)⟩
 unfold closureFor
 exact (congrArg (fun t => t >>= fun r => pure r) e).trans rfl
theorem cZ {env : Env} : ∀ (names : List (Str × NameKind)) (x : Str),
 (names.map fun (n, k) => if (k == NameKind.free && env.scope.kind == .function && env.kindOf n == some .cell) then (n, NameKind.cell) else (n, k)).lookup x =
  (names.lookup x).map fun k => if (k == NameKind.free && env.scope.kind == .function && env.kindOf x == some .cell) = true then NameKind.cell else k
 | [], x => rfl
 | (n, k) :: r, x => by
   have ih := cZ (env := env) r x
   show List.lookup x ((if (k == NameKind.free && env.scope.kind == .function && env.kindOf n == some .cell) = true then (n, NameKind.cell) else (n, k)) :: _) = _
   by_cases hc : (k == NameKind.free && env.scope.kind == .function && env.kindOf n == some .cell) = true
   . rw [if_pos hc, List.lookup_cons, List.lookup_cons]
     cases hx : x == n with
     | true =>
       have := eq_of_beq hx
       subst this
       show some NameKind.cell = some (if _ then _ else _)
       rw [if_pos hc]
     | false => exact ih
   . rw [if_neg hc, List.lookup_cons, List.lookup_cons]
     cases hx : x == n with
     | true =>
       have := eq_of_beq hx
       subst this
       show some k = some (if _ then _ else _)
       rw [if_neg hc]
     | false => exact ih
noncomputable def Oi (N N' : List Str) (sc : Scope) : Bool := (N.zip N').all fun p => (p.1 == p.2 && sc.names.lookup p.2 == some .free) || (sc.names.lookup p.2 != some .local && sc.names.lookup p.2 != some .cell && sc.names.lookup p.2 != some .free)
structure fc (X : Cx) (scope : Scope) (N' : List Str) (n : Nat) : Prop where
 kind : scope.kind = .function
 cons : ∀ y ∈ scope.names, scope.names.lookup y.1 = some y.2
 names : ∀ y ∈ scope.names, y.2 = .local -> scope.names.lookup y.1 = some .local
 cap : ∀ y ∈ scope.names, y.2 = .free -> X.env.scope.names.lookup y.1 = some .cell \/ X.env.scope.names.lookup y.1 = some .free
 len : N'.length = X.N.length + n
 same : Oi X.N N' scope = true
theorem fc.get {X : Cx} {scope : Scope} {N' : List Str} {n : Nat} (c : fc X scope N' n) {i : Nat} {x : Str} (hi : i < X.N.length) (h : N'[i]? = some x) (hv : G7 (relabel scope X.env) x) : X.N[i]? = some x /\ scope.names.lookup x = some .free := by
 have hz : (X.N.zip N')[i]? = some (X.N[i], x) := by
  rw [List.getElem?_zip_eq_some]
  exact ⟨by simp [hi], h⟩
 have := (List.all_eq_true.mp c.same) _ (List.mem_of_getElem? hz)
 simp only [Bool.or_eq_true, Bool.and_eq_true] at this
 rcases this with ⟨h1, h2⟩ | ⟨⟨h1, h2⟩, h3⟩
 . have h1 := eq_of_beq h1
   have h2 := eq_of_beq h2
   exact ⟨by simp [hi, h1], h2⟩
 . exfalso
   have h1 : scope.names.lookup x ≠ some .local := by simpa using h1
   have h2 : scope.names.lookup x ≠ some .cell := by simpa using h2
   have h3 : scope.names.lookup x ≠ some .free := by simpa using h3
   have e := cZ (env := X.env) scope.names x
   have hv : (relabel scope X.env).names.lookup x = some .local \/ (relabel scope X.env).names.lookup x = some .cell \/ (relabel scope X.env).names.lookup x = some .free := hv
   rw [show (relabel scope X.env).names.lookup x = _ from e] at hv
   cases q : scope.names.lookup x with
   | none => rw [q] at hv; simp at hv
   | some k =>
     rw [q] at hv h1 h2 h3
     have hk : (k == NameKind.free) = false := by
      cases k <;> first | rfl | exact absurd rfl h3
     simp only [Option.map_some, hk, Bool.false_and, Bool.false_eq_true, if_false, Option.some.injEq] at hv
     rcases hv with rfl | rfl | rfl
     . exact h1 rfl
     . exact h2 rfl
     . exact h3 rfl
end L2
namespace L2
open PySem PySem.Spec PyProof.Rows
structure CI (cl : List (Str × Addr)) (z : Nat) (h : Heap) (acc : List (Str × Addr)) : Prop where
 from' : ∀ n c, acc.lookup n = some c -> cl.lookup n = some c \/ (z <= c /\ h.IsCell c none)
 inj : ∀ n n' c, acc.lookup n = some c -> acc.lookup n' = some c -> n = n'
theorem zY {cl : List (Str × Addr)} {z : Nat} (hcl : ∀ n c, cl.lookup n = some c -> c < z) : ∀ (names : List (Str × NameKind)) (h : Heap) (acc : List (Str × Addr)), z <= h.objs.size -> CI cl z h acc ->
 CI cl z (pushCells h names) (cellsFrom h.objs.size names acc) /\ (∀ n, (acc.lookup n).isSome -> ((cellsFrom h.objs.size names acc).lookup n).isSome) /\
 (∀ n, ((∃ c, acc.lookup n = some c /\ z <= c) \/ (n, NameKind.cell) ∈ names) -> ∃ c, (cellsFrom h.objs.size names acc).lookup n = some c /\ z <= c) /\
 (∀ n c, (n, NameKind.cell) ∉ names -> (cellsFrom h.objs.size names acc).lookup n = some c -> acc.lookup n = some c)
 | [], h, acc, hz, x => by
   refine ⟨x, fun _ q => q, fun n q => ?_, fun _ _ _ q => q⟩
   rcases q with q | q
   . exact q
   . cases q
 | (name, kind) :: r, h, acc, hz, x => by
   unfold pushCells cellsFrom
   by_cases hk : kind = .cell
   . subst hk
     rw [if_pos (by rfl), if_pos (by rfl)]
     have hx : CI cl z (h.push { cls := .type "cell", data := .cell none }) ((name, h.objs.size) :: acc) := by
      have lt : ∀ n c, acc.lookup n = some c -> c < h.objs.size := fun n c e => by
       rcases x.from' n c e with q | q
       . exact Nat.lt_of_lt_of_le (hcl n c q) hz
       . exact q.2.lt
      refine ⟨fun n c e => ?_, fun n n' c e e' => ?_⟩
      . rw [List.lookup_cons] at e
        split at e
        . cases e; exact .inr ⟨hz, _, Heap.get?_push_size _ rfl, rfl⟩
        . rcases x.from' n c e with q | q
          . exact .inl q
          . exact .inr ⟨q.1, q.2.keeps fun b o e => Heap.get?_push_of_some _ e⟩
      . rw [List.lookup_cons] at e e'
        split at e <;> split at e'
        . rename_i _ a _ b; rw [eq_of_beq a, eq_of_beq b]
        . cases e; exact absurd (lt n' _ e') (Nat.lt_irrefl _)
        . cases e'; exact absurd (lt n _ e) (Nat.lt_irrefl _)
        . exact x.inj n n' c e e'
     have ih := zY hcl r (h.push { cls := .type "cell", data := .cell none }) ((name, h.objs.size) :: acc) (by rw [Heap.size_push]; omega) hx
     rw [Heap.size_push] at ih
     refine ⟨ih.1, fun n q => ih.2.1 n ?_, fun n q => ih.2.2.1 n ?_, fun n c q e => ?_⟩
     . rw [List.lookup_cons]; split
       . rfl
       . exact q
     . rcases q with ⟨c, e, hc⟩ | q
       . left
         rw [List.lookup_cons]; split
         . exact ⟨_, rfl, hz⟩
         . exact ⟨c, e, hc⟩
       . rcases List.mem_cons.mp q with q | q
         . cases q; left; exact ⟨_, by simp [List.lookup_cons], hz⟩
         . exact .inr q
     . have := ih.2.2.2 n c (fun z => q (List.mem_cons_of_mem _ z)) e
       rw [List.lookup_cons] at this
       split at this
       . rename_i a; exact absurd (by rw [eq_of_beq a]; exact List.mem_cons_self) q
       . exact this
   . have hk' : (kind == NameKind.cell) = false := by simpa using hk
     rw [if_neg (by rw [hk']; decide), if_neg (by rw [hk']; decide)]
     have ih := zY hcl r h acc hz x
     refine ⟨ih.1, ih.2.1, fun n q => ih.2.2.1 n ?_, fun n c q e => ih.2.2.2 n c (fun z => q (List.mem_cons_of_mem _ z)) e⟩
     rcases q with q | q
     . exact .inl q
     . rcases List.mem_cons.mp q with q | q
       . cases q; exact absurd rfl hk
       . exact .inr q
structure Bq (X : Cx) (scope : Scope) (z : Nat) (h : Heap) (cs : List (Str × Addr)) : Prop where
 from' : ∀ n c, cs.lookup n = some c -> X.env.cells.lookup n = some c \/ (z < c /\ h.IsCell c none)
 inj : ∀ n n' c, cs.lookup n = some c -> cs.lookup n' = some c -> n = n'
 has : ∀ n, (scope.names.lookup n = some .free \/ scope.names.lookup n = some .cell) -> ∃ c, cs.lookup n = some c
 XC : ∀ n c, scope.names.lookup n = some .free -> cs.lookup n = some c -> X.env.cells.lookup n = some c
 own : ∀ n c, scope.names.lookup n = some .cell -> cs.lookup n = some c -> z < c
theorem xV {M : Model} {A : Around} {E : Value -> Shared -> Prop} {X : Cx} {s : Shared} {scope : Scope} {N' : List Str} {n : Nat} {cl : List (Str × Addr)} {Q : Env -> Shared -> Prop} (ok : fc X scope N' n) (hlt : ∀ n c, X.env.cells.lookup n = some c -> c < s.heap.objs.size)
 (hinj : ∀ x y c, X.env.cells.lookup x = some c -> X.env.cells.lookup y = some c -> x = y)
 (hcl : ∀ n c, cl.lookup n = some c -> X.env.cells.lookup n = some c) (v7 : ∀ n, (n, NameKind.free) ∈ scope.names -> (cl.lookup n).isSome)
 (hQ : ∀ cs h', h'.Ns s.heap.objs.size (fun _ => none) -> (∀ b o, s.heap.get? b = some o -> h'.get? b = some o) -> Bq X scope s.heap.objs.size h' cs ->
  Q { scope := scope, locals := s.heap.objs.size, globals := X.env.globals, cells := cs, qual := X.env.qual, func := none, code := X.env.code, frame := X.env.frame, builtins := X.env.builtins } { s with heap := h' }) :
 wpAny M A (newFunctionEnv scope X.env.globals cl [] X.env.qual none .none (some X.env)) Q E s := by
 simp only [newFunctionEnv, Option.isSome_some, if_true]
 refine wpAny_bind (wpAny_alloc ?_)
 refine wpAny_bind (wpAny_layCells _ (fun name kind cells => by cases hkc : kind == NameKind.cell <;> simp [hkc]) _ _ _ _ ?_)
 have ck := zY (cl := cl) (z := s.heap.objs.size + 1) (fun n c e => Nat.lt_succ_of_lt (hlt n c (hcl n c e))) scope.names (s.heap.push { cls := .type "dict", data := .dict #[] }) cl (by rw [Heap.size_push]; exact Nat.le_refl _)
  ⟨fun n c e => .inl e, fun n n' c e e' => hinj n n' c (hcl n c e) (hcl n' c e')⟩
 obtain ⟨c1, c2, c3, c4⟩ := ck
 rw [show ({ s with heap := s.heap.push { cls := .type "dict", data := .dict #[] } } : Shared).heap.objs.size = (s.heap.push { cls := .type "dict", data := .dict #[] }).objs.size from rfl]
 refine wpAny_bind ?_
 rw [List.forIn_nil]
 refine wpAny_pure (wpAny_pure (hQ _ _ ((Heap.Ns.new s.heap (.type "dict")).keeps (pushCells_keeps _ _)) (fun b o e => pushCells_keeps _ _ b o (Heap.get?_push_of_some _ e)) ⟨fun n c e => ?_, c1.inj, fun n q => ?_, fun n c q e => ?_, fun n c q e => ?_⟩))
 . rcases c1.from' n c e with z | z
   . exact .inl (hcl n c z)
   . exact .inr ⟨z.1, z.2⟩
 . rcases q with q | q
   . exact Option.isSome_iff_exists.mp (c2 n (v7 n (PySem.mem_of_lookup q)))
   . obtain ⟨c, e, _⟩ := c3 n (.inr (PySem.mem_of_lookup q))
     exact ⟨c, e⟩
 . refine hcl n c (c4 n c (fun z => ?_) e)
   have := ok.cons _ z
   rw [q] at this; cases this
 . obtain ⟨c', e', hc'⟩ := c3 n (.inr (PySem.mem_of_lookup q))
   rw [e] at e'; cases e'
   exact hc'
section
variable {X : Cx} {pins : List (Addr × Obj)} {σ : L2.St} {H : Hp} {s : Shared} {scope : Scope} {N' : List Str} {n : Nat} {fp : List Addr} {cl : List (Str × Addr)}
theorem Bs {h1 : Heap} {m : Str -> Option Value} {t : Nat} {cs : List (Str × Addr)} (ok : fc X scope N' n) (I : Inv X pins σ H s) (hf : ∀ b ∈ fp, nA X pins H b /\ b < s.heap.objs.size) (bc : Bq X scope s.heap.objs.size h1 cs)
 (hn : h1.Ns s.heap.objs.size m) (old : ∀ b u, s.heap.get? b = some u -> h1.get? b = some u) :
 Inv (tW X scope N' cs s.heap.objs.size s H fp) [] (σ ++ List.replicate n none) H { s with heap := h1, toks := t } := by
 have Ry : ∀ x, scope.names.lookup x = some .free -> (relabel scope X.env).names.lookup x = some .cell \/ (relabel scope X.env).names.lookup x = some .free := fun x h => by
  have e := cZ (env := X.env) scope.names x
  rw [h] at e
  have e' : (relabel scope X.env).names.lookup x = _ := e
  rw [e']
  simp only [Option.map_some]
  split
  . exact .inl rfl
  . exact .inr rfl
 refine ⟨⟨I.ok.mod, ok.kind, I.ok.glob, I.ok.blt, Nat.le_refl _, fun x y c h1 h2 => bc.inj x y c h1 h2, fun x hx => ?_, fun x c h e => Nat.le_of_lt (bc.own x c (eq_of_beq (show (scope.names.lookup x == some NameKind.cell) = true from h)) e), I.ok.hd, I.ok.frames, .inl rfl, fun b hb => ?_, I.bs, Nat.le_trans I.ok.Hc I.sz, fun b u e hb => ?_, fun b hb hfs => ?_, I.stack, I.wD⟩,
  rfl, I.bare, Un.kept old, ⟨m, hn, fun i x v e1 e2 hv => ?_⟩, fun x c e => ?_, I.hok.fresh (Nat.le_refl _), fun x c e => ?_, fun p hp => (by cases hp), I.hok.kept old, ?_⟩
 . -- a Rz name has its cell
   have hx : (relabel scope X.env).names.lookup x = some .cell \/ (relabel scope X.env).names.lookup x = some .free := hx
   have e := cZ (env := X.env) scope.names x
   have e' : (relabel scope X.env).names.lookup x = _ := e
   rw [e'] at hx
   refine bc.has x ?_
   cases q : scope.names.lookup x with
   | none => rw [q] at hx; simp at hx
   | some k =>
     rw [q] at hx
     by_cases hk : k = .free
     . rw [hk]; exact .inl rfl
     . have hk' : (k == NameKind.free) = false := by simpa using hk
       simp only [Option.map_some, hk', Bool.false_and, Bool.false_eq_true, if_false, Option.some.injEq] at hx
       rcases hx with rfl | rfl
       . exact .inr rfl
       . exact absurd rfl hk
 . obtain ⟨f, lt⟩ := hf b hb
   refine ⟨Nat.ne_of_lt lt, fun x c e => ?_⟩
   rcases bc.from' x c e with e | e
   . exact f.2.2.2.2.1 x c e
   . rintro rfl; exact absurd (Nat.lt_trans e.1 lt) (Nat.lt_irrefl _)
 . obtain ⟨f, lt⟩ := hf b hb
   rcases f.2.2.2.1 with h | h
   . exact I.ok.BL b u e h
   . have this : b < X.base.objs.size := Heap.lt_size e
     exact absurd (Nat.lt_of_lt_of_le this (Nat.le_trans I.ok.Hc h)) (Nat.lt_irrefl _)
 . obtain ⟨f, lt⟩ := hf b hb
   rcases List.mem_cons.mp (I.qg b hfs) with h | h
   . exact f.2.1 h
   . exact f.2.2.1 h
 . -- the names
   have hi : i < σ.length := by
    by_cases hi : i < σ.length
    . exact hi
    . rw [List.getElem?_append_right (by omega), List.getElem?_replicate] at e2
      split at e2 <;> cases e2
   rw [List.getElem?_append_left hi] at e2
   obtain ⟨h1', h2'⟩ := ok.get (by rw [<- I.len]; exact hi) e1 hv
   have hk := ok.cap (x, .free) (PySem.mem_of_lookup h2') rfl
   obtain ⟨m0, hn0, hl⟩ := I.loc
   obtain ⟨u, r, l⟩ := hl i x v h1' e2 (.inr hk)
   refine ⟨u, r, .inr ⟨Ry x h2', ?_⟩⟩
   rcases l with ⟨hk', _⟩ | ⟨_, c, hc, hcell⟩
   . have hk' : X.env.scope.names.lookup x = some .local := hk'
     rcases hk with hk | hk <;> (rw [hk'] at hk; cases hk)
   . obtain ⟨c', hc'⟩ := bc.has x (.inl h2')
     have := bc.XC x c' h2' hc'
     rw [hc] at this; cases this
     refine ⟨c, hc', ?_⟩
     obtain ⟨oc, e3, e4⟩ := hcell
     exact ⟨oc, old c oc e3, e4⟩
 . rcases bc.from' x c e with e | e
   . obtain ⟨v, oc, e3, e4⟩ := I.cell x c e
     exact ⟨v, oc, old c oc e3, e4⟩
   . exact ⟨_, e.2⟩
 . rcases bc.from' x c e with e | e
   . exact I.iy x c e
   . exact I.hok.fresh (Nat.le_of_lt e.1)
 . show (σ ++ List.replicate n none).length = N'.length
   rw [List.length_append, List.length_replicate, I.len, ok.len]
theorem qI {prog : Program} {w : World} {A : Around} {R : Result -> Shared -> Prop} {elt target iter : Expr} {ifs : List Expr} {scope : Scope} {pos : Pos} {it acc : Value} {env : Env} (I : Nat -> Shared -> Prop)
 (turn : ∀ n s, I n s -> wpAny (model prog w) A (pyNext it) (fun r s₁ => match r with
  | none => R (.ok .next) s₁
  | some v => wpAny (model prog w) A (letOwnedTupleGo target it v) (fun _ s₁ => wpAny (model prog w) A (assign target env v) (fun _ s₂ =>
   wpAny (model prog w) A (forIn ifs true fun c r => if r = true then do let ok <- isTrue c env (eval c env); pure (ForInStep.yield ok) else pure (ForInStep.yield r)) (fun ok s₃ =>
    if ok = true then wpAny (model prog w) A (eval elt env) (fun x s₄ =>
     wpAny (model prog w) A (call (.builtin "list.append") [acc, x]) (fun _ s₅ => ∃ m, m < n /\ I m s₅) (notedBy (model prog w) A env fun e s' => R (.error e) s') s₄) (notedBy (model prog w) A env fun e s' => R (.error e) s') s₃
    else ∃ m, m < n /\ I m s₃) (notedBy (model prog w) A env fun e s' => R (.error e) s') s₂) (notedBy (model prog w) A env fun e s' => R (.error e) s') s₁) (notedBy (model prog w) A env fun e s' => R (.error e) s') s₁) (notedBy (model prog w) A env fun e s' => R (.error e) s') s)
 (n : Nat) {s : Shared} (h : I n s) :
 codeAny (model prog w) A (.compLoop (.ListComp elt [⟨target, iter, ifs, 0⟩] scope pos) 0 it acc env) R s := by
 refine codeAny_loop rfl I (fun n s hI => ?_) n h
 show wpAny _ A ((compTurn (.ListComp elt [⟨target, iter, ifs, 0⟩] scope pos) 0 it acc env).onRaise (fun x => do noteFrame x env; theTreesLotGoes x)) _ _ s
 refine wpAny_noted ?_
 rw [compTurn_list]
 refine wpAny_bind (wpAny_standAt (wpAny_bind (wpAny_mono (turn n s hI) (fun r s₁ h₁ => ?_) fun _ _ h' => h')))
 cases r with
 | none => exact wpAny_pure h₁
 | some v =>
   refine wpAny_bind (wpAny_mono h₁ (fun _ s₁ h₁ => ?_) fun _ _ h' => h')
   refine wpAny_bind (wpAny_mono h₁ (fun _ s₂ h₂ => wpAny_bind (wpAny_mono h₂ (fun ok s₃ h₃ => ?_) fun _ _ h' => h')) fun _ _ h' => h')
   cases ok with
   | false => exact wpAny_pure ⟨rfl, h₃⟩
   | true =>
     exact wpAny_bind (wpAny_bind (wpAny_mono h₃ (fun x s₄ h₄ => wpAny_bind (wpAny_mono h₄ (fun _ s₅ h₅ => wpAny_pure (wpAny_pure ⟨rfl, h₅⟩)) fun _ _ h' => h')) fun _ _ h' => h'))
noncomputable def Jf (X : Cx) (ifs : List Expr) (t : TT) : Prop :=
 ∀ (pins : List (Addr × Obj)) (s : Shared) (σ : L2.St) (H : Hp) (Q : Bool -> Hp -> Prop), Inv X pins σ H s -> t σ H Q ->
   wpAny (model X.prog X.w) X.A (forIn ifs true fun c r => if r = true then do let ok <- isTrue c X.env (eval c X.env); pure (ForInStep.yield ok) else pure (ForInStep.yield r)) (TP X pins σ Q) X.xe s
theorem Cu {X : Cx} : Jf X [] (fun _ H Q => Q true H) := fun pins s σ H Q I h => wpAny_tests_nil ⟨H, I, h⟩
theorem DK {X : Cx} {c : Expr} {t : TT} (h : PT X c t) : Jf X [c] t := fun pins s σ H Q I q => wpAny_tests_one (h pins s σ H Q I q)
noncomputable def G5 (J : It) (g : TG) (tt : TT) (te : TE) (D : Addr) (Q : Hp -> Prop) (W : Nat -> Nat -> List V -> L2.St -> Hp -> Prop) : Prop :=
 ∀ i m ys σ H, W i m ys σ H -> H D = some (.lst ys) /\ ((J.stop i H /\ Q H) \/ (J.go i H /\ ∀ x H2, J.K6 i H x H2 -> g x σ H2 fun σ3 H3 => tt σ3 H3 fun b H4 => if b = true then
   te σ3 H4 fun y H5 => H5 D = some (.lst ys) /\ ys.length < sizeLine /\ ∃ m', m' < m /\ W (i + 1) m' (ys ++ [y]) σ3 (upd H5 D (.lst (ys ++ [y]))) else ∃ m', m' < m /\ W (i + 1) m' ys σ3 H4))
theorem pO {E : Value -> Shared -> Prop} {elt target iter : Expr} {ifs : List Expr} {pos : Pos} {it : Addr} {tn : Nat -> Heap -> Prop} {J : It} {g : TG} {tt : TT} {te : TE} {Q : Addr -> Hp -> Prop} {RR : Value -> Addr -> Result -> Shared -> Prop}
 (hc : X.calm = true) (ok : fc X scope N' n) (I : Inv X pins σ H s) (hcl : ∀ n c, cl.lookup n = some c -> X.env.cells.lookup n = some c) (v7 : ∀ n, (n, NameKind.free) ∈ scope.names -> (cl.lookup n).isSome)
 (T : Turn X.prog X.w X.K target J fp it tn) (h0 : tn 0 s.heap) (hf : ∀ b ∈ fp, nA X pins H b)
 (hg : ∀ cl C s₀ H₀ ex, PG (tW X scope N' cl C s₀ H₀ ex) target g) (ht : ∀ cl C s₀ H₀ ex, Jf (tW X scope N' cl C s₀ H₀ ex) ifs tt) (he : ∀ cl C s₀ H₀ ex, PE (tW X scope N' cl C s₀ H₀ ex) elt te)
 (hw : ∀ D, H D = none -> ∃ W, (∃ m, W 0 m [] (σ ++ List.replicate n none) (upd H D (.lst []))) /\ G5 J g tt te D (Q D) W)
 (hRR : ∀ D C s' H', Q D H' -> (∃ m, s'.heap.Ns C m) -> nA X pins H' C -> Inv X pins σ H' s' -> RR (.ref D) C (.ok .next) s') :
 wpAny (model X.prog X.w) X.A (newList []) (fun acc s₃ => wpAny (model X.prog X.w) X.A (newFunctionEnv scope X.env.globals cl [] X.env.qual none .none (some X.env)) (fun cenv s₄ =>
  codeAny (model X.prog X.w) X.A (.compStart (.ListComp elt [⟨target, iter, ifs, 0⟩] scope pos) 0 (.ref it) acc { cenv with scope := relabel scope X.env }) (RR acc cenv.locals) s₄) E s₃) E s := by
 refine wpAny_newObj_type (xV ok (fun x c e => ?lt) I.ok.inj hcl v7 (fun cs h₁ hns hold bc => ?_))
 case lt =>
  obtain ⟨v, z⟩ := I.cell x c e
  exact Nat.lt_of_lt_of_le z.lt (by show _ <= (s.heap.push _).objs.size; rw [Heap.size_push]; exact Nat.le_succ _)
 dsimp only at hns hold bc ⊢
 -- the new list, tracked
 have I3 : Inv X pins σ (upd H s.heap.objs.size (.lst [])) { s with heap := s.heap.push { cls := .type "list", data := .seq ([] : List Value).toArray } } := I.Kf (t' := s.toks) .nil (Nat.zero_le _)
 generalize hs3 : ({ s with heap := s.heap.push { cls := .type "list", data := .seq ([] : List Value).toArray } } : Shared) = s3 at I3
 have hsz : s3.heap.objs.size = s.heap.objs.size + 1 := by rw [<- hs3]; exact Heap.size_push _ _
 have Hh : s3.heap = s.heap.push { cls := .type "list", data := .seq ([] : List Value).toArray } := by rw [<- hs3]
 obtain ⟨W, ⟨m0, w0⟩, turn⟩ := hw s.heap.objs.size I.fresh
 have Zk : ∀ {h' : Heap}, (∀ b o, s.heap.get? b = some o -> h'.get? b = some o) -> tn 0 h' := fun k => T.keep _ _ _ h0 fun b hb o e => k b o e
 have T9 : ∀ b ∈ fp, nA X pins (upd H s.heap.objs.size (.lst [])) b /\ b < s3.heap.objs.size := fun b hb => by
  obtain ⟨o, e, _⟩ := T.obj 0 _ h0 b hb
  have lt := Heap.lt_size e
  obtain ⟨f1, f2⟩ := hf b hb
  exact ⟨⟨by rw [aN (Nat.ne_of_lt lt)]; exact f1, f2⟩, by rw [hsz]; exact Nat.lt_succ_of_lt lt⟩
 rw [<- Hh] at hns hold bc ⊢
 have I4 := Bs (t := s3.toks) ok I3 T9 bc hns hold
 have RB : ∀ b o, s.heap.get? b = some o -> h₁.get? b = some o := fun b o e => hold b o (by rw [Hh]; exact Heap.get?_push_of_some _ e)
 generalize hX : tW X scope N' cs s3.heap.objs.size s3 (upd H s.heap.objs.size (.lst [])) fp = X' at I4
 have hA : X'.A = X.A := by rw [<- hX]; rfl
 have hpr : X'.prog = X.prog := by rw [<- hX]; rfl
 have hwr : X'.w = X.w := by rw [<- hX]; rfl
 have hKK : X'.K = X.K := by rw [<- hX]; rfl
 have hcalm : X'.calm = true := by rw [<- hX]; exact hc
 have hxe : X'.xe = fun _ _ => False := by rw [<- hX]; rfl
 have henv : X'.env = compEnvC scope cs s3.heap.objs.size X.env := by rw [<- hX]; rfl
 have hg' : PG X' target g := by rw [<- hX]; exact hg _ _ _ _ _
 have ht' : Jf X' ifs tt := by rw [<- hX]; exact ht _ _ _ _ _
 have he' : PE X' elt te := by rw [<- hX]; exact he _ _ _ _ _
 have ff : ∀ {H' : Hp} {b : Addr}, b ∈ fp -> H' b = none -> nA X' [] H' b := fun {H' b} hb hn => by
  obtain ⟨f, lt⟩ := T9 b hb
  rw [<- hX]
  refine ⟨hn, Nat.ne_of_lt lt, fun hfs => ?_, .inl hb, fun x c e => ?_, fun p hp => by cases hp⟩
  . rcases List.mem_cons.mp (I3.qg b hfs) with h | h
    . exact f.2.1 h
    . exact f.2.2.1 h
  . rcases bc.from' x c e with e | e
    . exact f.2.2.2.2.1 x c e
    . rintro rfl; exact absurd (Nat.lt_trans e.1 lt) (Nat.lt_irrefl _)
 -- behind the block
 have fin : ∀ {σ' : L2.St} {H' : Hp} {s' : Shared}, Inv X' [] σ' H' s' -> Q s.heap.objs.size H' -> RR (.ref s.heap.objs.size) s3.heap.objs.size (.ok .next) s' := fun {σ' H' s'} J' q => by
  rw [<- hX] at J'
  have hC : H' s3.heap.objs.size = none := J'.free
  obtain ⟨hh, gg, dd, tt', os'⟩ := s'
  have eos : os' = s3.os := J'.os
  subst eos
  refine hRR _ _ _ H' q (let ⟨m, hm, _⟩ := J'.loc; ⟨m, hm⟩) ?_ (I3.call (h' := hh) (g' := gg) (d' := dd) (t' := tt') (ch := fp) J'.base J'.hok J'.bare fun b hb => ?_)
  . exact I3.Fy (Nat.le_refl _) hC
  . obtain ⟨f, lt⟩ := T9 b hb
    exact ⟨f.2.2.2.1, f.2.1, f.2.2.2.2.1, f.2.2.2.2.2⟩
 have main : codeAny (model X.prog X.w) X.A (.compLoop (.ListComp elt [⟨target, iter, ifs, 0⟩] scope pos) 0 (.ref it) (.ref s.heap.objs.size) X'.env) (RR (.ref s.heap.objs.size) s3.heap.objs.size) { s3 with heap := h₁, toks := s3.toks } := by
  refine qI (fun k s' => ∃ i ys σ' H', Inv X' [] σ' H' s' /\ tn i s'.heap /\ (∀ b ∈ fp, H' b = none) /\ W i k ys σ' H') (fun k s5 hI => ?_) m0 ⟨0, [], _, _, I4, Zk RB, fun b hb => (T9 b hb).1.1, w0⟩
  obtain ⟨i, ys, σ5, H5, I5, t5, f5, w5⟩ := hI
  obtain ⟨hD, hturn⟩ := turn i k ys σ5 H5 w5
  have Ua : ∀ {Z : Value -> Shared -> Prop}, ∀ (e : Value) (s' : Shared), X'.xe e s' -> Z e s' := fun e s' z => by rw [hxe] at z; exact False.elim z
  rcases hturn with ⟨stop, q⟩ | ⟨go, step⟩
  . have z := T.done X' hpr hwr hKK hcalm i [] s5 σ5 H5 (fun _ _ => False) I5 (fun b hb => ff hb (f5 b hb)) t5 stop
    rw [hA] at z
    refine wpAny_mono z (?_) fun _ _ z => False.elim z
    rintro r s6 ⟨hr, I6⟩
    subst hr
    exact fin I6 q
  . have z := T.item X' hpr hwr hKK hcalm i [] s5 σ5 H5 (fun _ _ => False) I5 (fun b hb => ff hb (f5 b hb)) t5 go
    rw [hA] at z
    refine wpAny_mono z (?_) fun _ _ z => False.elim z
    rintro r s6 ⟨u, hr, z6⟩
    subst hr
    refine wpAny_mono z6 (?_) fun _ _ z => False.elim z
    rintro _ s7 ⟨x, H7, I7, r7, y7, t7, f7⟩
    have I7' := I7.pinned (fun b hb => ff hb (f7 b hb)) (T.obj _ _ t7)
    -- what the pins keep
    have back : ∀ {σ' : L2.St} {H' : Hp} {s' : Shared}, Inv X' ([] ++ mZ fp s7.heap) σ' H' s' -> Inv X' [] σ' H' s' /\ tn (i + 1) s'.heap /\ ∀ b ∈ fp, H' b = none := fun {σ' H' s'} J' => by
     refine ⟨J'.jW, T.keep _ _ _ t7 fun b hb o e => (J'.pin (b, o) (List.mem_append_right _ (List.mem_append_right _ (gC hb e)))).1, fun b hb => ?_⟩
     obtain ⟨o, e, _⟩ := T.obj _ _ t7 b hb
     exact (J'.pin (b, o) (List.mem_append_right _ (List.mem_append_right _ (gC hb e)))).2.1
    have z7 := hg' _ s7 σ5 H7 x u _ I7' r7 (step x H7 y7)
    rw [hA, hpr, hwr] at z7
    refine wpAny_mono z7 (?_) Ua
    rintro _ s8 ⟨σ8, H8, I8, q8⟩
    have z8 := ht' _ s8 σ8 H8 _ I8 q8
    rw [hA, hpr, hwr] at z8
    refine wpAny_mono z8 (?_) Ua
    rintro b s9 ⟨H9, I9, q9⟩
    cases b with
    | false =>
      rw [if_neg Bool.false_ne_true] at q9 ⊢
      obtain ⟨m', hm, w'⟩ := q9
      obtain ⟨b1, b2, b3⟩ := back I9
      exact ⟨m', hm, i + 1, ys, σ8, H9, b1, b2, b3, w'⟩
    | true =>
      rw [if_pos rfl] at q9 ⊢
      have z9 := he' _ s9 σ8 H9 _ I9 q9
      rw [hA, hpr, hwr] at z9
      refine wpAny_mono z9 (?_) Ua
      rintro y gU ⟨yv, Zm, I10, r10, XD, hlen, m', hm, w'⟩
      have Zn := pD _ gU σ8 Zm (.ref s.heap.objs.size) [yv] (.ref s.heap.objs.size) [y] (fun v Zo => Zo = upd Zm s.heap.objs.size (.lst (ys ++ [yv]))) I10 rfl (.cons r10 .nil) ⟨_, ys, yv, rfl, rfl, XD, hlen, rfl⟩
      rw [hA, hpr, hwr] at Zn
      refine wpAny_mono Zn (?_) Ua
      rintro _ uO ⟨_, Zo, I11, _, e11⟩
      subst e11
      obtain ⟨b1, b2, b3⟩ := back I11
      exact ⟨m', hm, i + 1, ys ++ [yv], σ8, _, b1, b2, b3, w'⟩
 have e3 : ({ s3 with heap := h₁, toks := s3.toks } : Shared) = { s with heap := h₁ } := by rw [<- hs3]
 rw [henv, e3] at main
 exact codeAny_compStart_list main (T.self _ 0 _ _ _ (Zk RB) main)
end
end L2
end
section
namespace L2
open PySem PySem.Spec PyProof.Rows
section
variable {X : Cx} {elt target iter : Expr} {ifs : List Expr} {scope : Scope} {pos : Pos} {N' : List Str} {n : Nat} {wi : TI} {g : TG} {tt : TT} {te : TE}
noncomputable def wu (n : Nat) (wi : TI) (g : TG) (tt : TT) (te : TE) : TE := fun σ H Q => wi σ H fun J H1 => ∀ D, H1 D = none -> ∃ W, (∃ m, W 0 m [] (σ ++ List.replicate n none) (upd H1 D (.lst []))) /\ G5 J g tt te D (fun H' => Q (.ref D) H') W
theorem jO {pins : List (Addr × Obj)} {σ : L2.St} {H : Hp} {s : Shared} (I : Inv X pins σ H s) (ok : fc X scope N' n) :
 ∃ cl, closureFor scope X.env = pure cl /\ (∀ n c, cl.lookup n = some c -> X.env.cells.lookup n = some c) /\ ∀ n, (n, NameKind.free) ∈ scope.names -> (cl.lookup n).isSome :=
 vm fun m hm => I.ok.has m (ok.cap (m, .free) hm rfl)
theorem Cv (hc : X.calm = true) (ok : fc X scope N' n) (hi : PI X target iter wi)
 (hg : ∀ cl C s₀ H₀ ex, PG (tW X scope N' cl C s₀ H₀ ex) target g) (ht : ∀ cl C s₀ H₀ ex, Jf (tW X scope N' cl C s₀ H₀ ex) ifs tt) (he : ∀ cl C s₀ H₀ ex, PE (tW X scope N' cl C s₀ H₀ ex) elt te)
 (hs : ∀ x, foldedSetIterable iter X.env x = pure x := by intro _; rfl) : PE X (.ListComp elt [⟨target, iter, ifs, 0⟩] scope pos) (wu n wi g tt te) := by
 intro pins s σ H Q I h
 obtain ⟨cl, hclos, hcl, v7⟩ := jO I ok
 rw [eval_ListComp]
 refine wpAny_comprehension_free (use := none) rfl hs hclos ok.kind ok.names (dN (hi pins s σ H _ I h) fun v s1 h1 => dN h1 fun itv s2 h2 => ?_)
 obtain ⟨it, fp, tn, J, H2, rfl, I2, T, t0, f2, hw⟩ := h2
 refine pO (Q := fun D H' => Q (.ref D) H') (RR := fun acc C => compPost (model X.prog X.w) X.A X.xe none (EP X pins σ Q) acc C) hc ok I2 hcl v7 T t0 f2 hg ht he hw fun D C s' H' q hm yQ I' => ?_
 obtain ⟨m, hm⟩ := hm
 refine ⟨m, hm, fun h' hs' => ⟨.ref D, H', ?_, rfl, q⟩⟩
 exact I'.turned (t' := s'.toks) (fun b o hb e => hs'.extBut b o hb e) yQ.1 yQ.2.1 yQ.2.2.2.1 yQ.2.2.2.2.1 yQ.2.2.2.2.2
theorem El {i : Nat} {x : Str} {pos' spos : Pos} (hc : X.calm = true) (hN : X.N.Nodup) (hx0 : X.N[i]? = some x) (hx : Loc X.env.scope x) (ok : fc X scope N' n) (hi : PI X target iter wi)
 (hg : ∀ cl C s₀ H₀ ex, PG (tW X scope N' cl C s₀ H₀ ex) target g) (ht : ∀ cl C s₀ H₀ ex, Jf (tW X scope N' cl C s₀ H₀ ex) ifs tt) (he : ∀ cl C s₀ H₀ ex, PE (tW X scope N' cl C s₀ H₀ ex) elt te)
 (hsw : swapsWith (.ListComp elt [⟨target, iter, ifs, 0⟩] scope pos) (some (.Name x pos')) spos.line X.env = pure true)
 (hs : ∀ x, foldedSetIterable iter X.env x = pure x := by intro _; rfl) (hf : X.fn x = true \/ X.env.scope.names.lookup x = some .local := by first | exact .inl rfl | exact .inr rfl | assumption) :
 PS X (.Assign [.Name x pos'] (.ListComp elt [⟨target, iter, ifs, 0⟩] scope pos) spos) (Kr (wu n wi g tt te) (m7 i)) := by
 intro pins s σ H D I h
 obtain ⟨cl, hclos, hcl, v7⟩ := jO I ok
 rw [exec_Assign_Name_used _ _ _ _ hsw]
 refine wpAny_bind (wpAny_standAt (wpAny_bind ?_))
 show wpAny _ X.A (do let _ <- comprehension (.ListComp elt [⟨target, iter, ifs, 0⟩] scope pos) scope X.env _ (newList []) false (eval iter X.env) (some (assign (.Name x pos') X.env))) _ _ s
 refine wpAny_bind (wpAny_mono (wpAny_comprehension_free (use := some (assign (.Name x pos') X.env)) (Q := fun _ s' => SP X pins D .next s') rfl hs hclos ok.kind ok.names
  (dN (hi pins s σ H _ I h) fun v s1 h1 => dN h1 fun itv s2 h2 => ?_)) (fun _ s' hq => wpAny_pure (wpAny_pure hq)) fun _ _ e => e)
 obtain ⟨it, fp, tn, J, H2, rfl, I2, T, t0, f2, hw⟩ := h2
 refine pO (Q := fun Da H' => D.nx (σ.set i (some (.ref Da))) H') (RR := fun acc C => compPost (model X.prog X.w) X.A X.xe (some (assign (.Name x pos') X.env)) (fun _ s' => SP X pins D .next s') acc C) hc ok I2 hcl v7 T t0 f2 hg ht he hw fun Da C s' H' q hm yQ I' => ?_
 obtain ⟨m, hm⟩ := hm
 show wpAny _ X.A (assign (.Name x pos') X.env (.ref Da)) _ _ _
 refine wpAny_assign_Name (pL I' hN hx0 hx (show RelV (.ref Da) (.ref Da) from rfl) (?_) hf)
 rintro s'' I'' ⟨a, sb, ha⟩
 have hCa : C ≠ a := by
  rcases ha with rfl | ha
  . exact yQ.2.1
  . exact fun z => yQ.2.2.2.2.1 x a ha z.symm
 refine ⟨m, hm.sameBut sb hCa, fun h' hs' => ⟨_, H', ?_, q⟩⟩
 exact I''.turned (t' := s''.toks) (fun b o hb e => hs'.extBut b o hb e) yQ.1 yQ.2.1 yQ.2.2.2.1 yQ.2.2.2.2.1 yQ.2.2.2.2.2
noncomputable def Ws (K : PySem.W.Frag) (tl : TE) : TI := fun σ H R => tl σ H fun x H1 => ∃ a, x = .ref a /\ (((∃ xs, fU K H1 a xs) /\ R (KQ K a) H1) \/ ((∃ xs, jr K H1 a xs) /\ R (Nb K a) H1))
theorem zO {tg l : Expr} {tl : TE} (hl : PE X l tl) : PI X tg l (Ws X.K tl) := by
 intro pins s σ H R I h
 refine dN (hl pins s σ H _ I h) ?_
 rintro v s1 ⟨x, H1, I1, r1, q1⟩
 obtain ⟨a, e, q1⟩ := q1
 subst e
 cases r1
 rcases q1 with ⟨⟨xs, hq⟩, q⟩ | ⟨⟨xs, hq⟩, q⟩
 . obtain ⟨its, rv, p, hz⟩ := I1.list hq
   refine wpAny_pyIter_list p.isList ?_
   refine ⟨s1.heap.objs.size, [s1.heap.objs.size], _, _, H1, rfl, I1.kept (t' := s1.toks) fun b o e => Heap.get?_push_of_some _ e, yj a _, ⟨_, Heap.get?_push_size _ rfl, rfl, rfl⟩, fun b hb => ?_, q⟩
   have e : b = s1.heap.objs.size := by simpa using hb
   subst e
   exact I1.Fy (Nat.le_refl _) (I1.hok.fresh (Nat.le_refl _))
 . obtain ⟨its, rv, p, hz⟩ := I1.tuple hq
   refine wpAny_pyIter_tuple (show s1.heap.IsTuple a its.toArray from p) ?_
   refine ⟨s1.heap.objs.size, [s1.heap.objs.size], _, _, H1, rfl, I1.kept (t' := s1.toks) fun b o e => Heap.get?_push_of_some _ e, vJ a _, ⟨_, Heap.get?_push_size _ rfl, rfl, rfl⟩, fun b hb => ?_, q⟩
   have e : b = s1.heap.objs.size := by simpa using hb
   subst e
   exact I1.Fy (Nat.le_refl _) (I1.hok.fresh (Nat.le_refl _))
end
end L2
end
section
namespace HH
open PySem L2 PySem.Spec PyProof.Rows
structure Walk (K : PySem.W.Frag) (F : Hp) (ρ : List Sl) (σ : L2.St) (H : Hp) (ul : List Sl -> List Sl) (J : It) (ds : List D) (F1 : Hp) (ρ1 : List Sl) (H1 : Hp) : Prop where
 gs : GS K F1 ρ1 σ H1
 src : ∀ (n k : Nat) (F' : Hp) (ρ' : List Sl) (σ' : L2.St) (H' : Hp), bQ K F1 (ρ1 ++ List.replicate n .bj) (σ ++ List.replicate n none) H1 F' ρ' σ' H' ->
  (∀ d, ds[k]? = some d -> J.go k H' /\ ∀ x xQ, J.K6 k H' x xQ -> ∃ F'', Ext F' H' F'' xQ /\ Rep K F'' x d) /\ (ds.length <= k -> J.stop k H')
 fin : ∀ F2 ρ2 σ2 H2, bQ K F1 ρ1 σ H1 F2 ρ2 σ2 H2 -> bQ K F ρ σ H F2 (ul ρ2) σ2 H2 /\ ∀ v r, bZ K F2 ρ2 σ2 H2 ρ1 σ H1 v r -> bZ K F2 (ul ρ2) σ2 H2 ρ σ H v r
inductive YM (K : PySem.W.Frag) (iv : Option Nat) (f : Ev) (σ : L2.St) (H : Hp) (R : It -> Hp -> Prop) : Prop where
 | mk (F : Hp) (ρ : List Sl) (ds : List D) (ρ1 : List Sl) (g : GS K F ρ σ H) (e : srcOf iv f ρ = .ok ds ρ1) (k : ∀ J F1 H1, Walk K F ρ σ H (bh ρ iv) J ds F1 ρ1 H1 -> R J H1)
section
variable {K : PySem.W.Frag} {F F1 H H1 : Hp} {ρ ρ1 : List Sl} {σ : L2.St} {ds : List D} {a : Addr}
theorem DW {xs : List V} {F' H' : Hp} (hq : jr K H' a xs) (r : aJ K F' xs ds) (s : aP F' H') (k : Nat) :
 (∀ d, ds[k]? = some d -> (Nb K a).go k H' /\ ∀ x xQ, (Nb K a).K6 k H' x xQ -> ∃ F'', Ext F' H' F'' xQ /\ Rep K F'' x d) /\ (ds.length <= k -> (Nb K a).stop k H') := by
 refine ⟨fun d hd => ?_, fun h => ⟨xs, hq, by rw [r.length]; exact h⟩⟩
 obtain ⟨w, h1, h2⟩ := r.get hd
 refine ⟨⟨xs, w, hq, h1⟩, ?_⟩
 rintro x xQ ⟨e, y⟩
 subst e
 have := y xs hq
 rw [h1] at this; cases this
 exact ⟨F', .refl s, h2⟩
theorem rY {xs : List V} {F' H' : Hp} (hq : fU K H' a xs) (r : aJ K F' xs ds) (s : aP F' H') (k : Nat) :
 (∀ d, ds[k]? = some d -> (KQ K a).go k H' /\ ∀ x xQ, (KQ K a).K6 k H' x xQ -> ∃ F'', Ext F' H' F'' xQ /\ Rep K F'' x d) /\ (ds.length <= k -> (KQ K a).stop k H') := by
 refine ⟨fun d hd => ?_, fun h => ⟨xs, hq, by rw [r.length]; exact h⟩⟩
 obtain ⟨w, h1, h2⟩ := r.get hd
 refine ⟨⟨xs, w, hq, h1⟩, ?_⟩
 rintro x xQ ⟨e, y⟩
 subst e
 have := y xs hq
 rw [h1] at this; cases this
 exact ⟨F', .refl s, h2⟩
theorem ur {ul : List Sl -> List Sl} {v : V} {d : D} (s : bQ K F ρ σ H F1 ρ1 σ H1) (r : Rep K F1 v d) (hi : items d = some ds)
 (fin : ∀ F2 ρ2 σ2 H2, bQ K F1 ρ1 σ H1 F2 ρ2 σ2 H2 -> bQ K F ρ σ H F2 (ul ρ2) σ2 H2 /\ ∀ v r, bZ K F2 ρ2 σ2 H2 ρ1 σ H1 v r -> bZ K F2 (ul ρ2) σ2 H2 ρ σ H v r) :
 ∃ a, v = .ref a /\ (((∃ xs, fU K H1 a xs) /\ Walk K F ρ σ H ul (KQ K a) ds F1 ρ1 H1) \/ ((∃ xs, jr K H1 a xs) /\ Walk K F ρ σ H ul (Nb K a) ds F1 ρ1 H1)) := by
 cases d with
 | tup es =>
   cases hi
   rw [Rep] at r
   obtain ⟨a, xs, rfl, h1, h2⟩ := r
   exact ⟨a, rfl, .inr ⟨⟨xs, aP.jz s.gs.sub h1⟩, s.gs, fun n k F' ρ' σ' H' s' => DW (aP.jz s'.gs.sub (aP.jz s'.dX h1)) (h2.mono s'.dX) s'.gs.sub k, fin⟩⟩
 | lst es =>
   cases hi
   rw [Rep] at r
   obtain ⟨a, xs, rfl, h1, h2⟩ := r
   exact ⟨a, rfl, .inl ⟨⟨xs, s.gs.sub.seq h1⟩, s.gs, fun n k F' ρ' σ' H' s' => rY (s'.gs.sub.seq (s'.dX.seq h1)) (h2.mono s'.dX) s'.gs.sub k, fin⟩⟩
 | _ => cases hi
theorem pZ {i : Nat} {ul : List Sl -> List Sl} (g : GS K F ρ1 σ H) (e : ρ1[i]? = some (.lent ds))
 (fin : ∀ F2 ρ2 σ2 H2, bQ K F ρ1 σ H F2 ρ2 σ2 H2 -> bQ K F ρ σ H F2 (ul ρ2) σ2 H2 /\ ∀ v r, bZ K F2 ρ2 σ2 H2 ρ1 σ H v r -> bZ K F2 (ul ρ2) σ2 H2 ρ σ H v r) :
 ∃ a, σ[i]? = some (some (.ref a)) /\ (∃ xs, fU K H a xs) /\ Walk K F ρ σ H ul (KQ K a) ds F ρ1 H := by
 obtain ⟨a, xs, h1, h2, h3, h4⟩ := g.o9 i _ ds e rfl
 have hi : i < ρ1.length := (List.getElem?_eq_some_iff.mp e).1
 refine ⟨a, h1, ⟨xs, fU.of h2⟩, g, fun n k F' ρ' σ' H' s' => ?_, fin⟩
 obtain ⟨z1, t, z2, z3⟩ := s'.lk i _ (by rw [List.getElem?_append_left hi]; exact e) rfl
 cases (show t = .lent ds from z3)
 rw [List.getElem?_append_left (by rw [<- g.len]; exact hi), h1] at z1
 obtain ⟨a', ys, w1, w2, w3, w4⟩ := s'.gs.o9 i _ ds z2 rfl
 rw [z1] at w1; cases w1
 exact rY (fU.of w2) w4 s'.gs.sub k
end
section
variable {X : Cx} {c : Call} {n : Nat} {e a b d tg : Expr} {p pa pb pd : P} {pos : Pos}
theorem wH {t t' : TI} (h : PI X tg e t) (i : ∀ σ H R, t' σ H R -> t σ H R) : PI X tg e t' := fun pins s σ H R I q => h pins s σ H R I (i σ H R q)
noncomputable def SI (X : Cx) (c : Call) (tg e : Expr) (p : P) : Prop := PI X tg e (YM X.K (isVar p) (HH.ev c p))
theorem bR (h : SX X c e p) : SI X c tg e p := by
 unfold SI
 cases hv : isVar p with
 | none =>
   refine wH (zO h.ev) ?_
   rintro σ H R ⟨F, ρ, ds, ρ1, g, e, k⟩
   obtain ⟨r, ρ2, e1, e2⟩ := aq e
   have zz := aM e2; clear e2; obtain ⟨e2, e3⟩ := zz
   subst e3
   refine ⟨F, ρ, r, _, g, e1, fun v F' H' s rr => ?_⟩
   obtain ⟨F2, s2, _, rp⟩ := s.jc rr
   obtain ⟨a, ha, hw⟩ := ur (ul := bh ρ none) s2 rp e2 fun F3 ρ3 σ3 H3 s3 => ⟨s2.trans s3, fun v r rr => rr.later s2⟩
   exact ⟨a, ha, hw.imp (fun ⟨z, w⟩ => ⟨z, k _ _ _ w⟩) (fun ⟨z, w⟩ => ⟨z, k _ _ _ w⟩)⟩
 | some i =>
   refine wH (zO (h.var i hv)) ?_
   rintro σ H R ⟨F, ρ, ds, ρ1, g, e, k⟩
   unfold srcOf at e
   dsimp only at e
   split at e
   . rename_i b d q
     have zz := aM e; clear e; obtain ⟨e2, e3⟩ := zz
     subst e3
     obtain ⟨v, h1, h2⟩ := g.val i b d q
     have fin : ∀ F2 ρ2 σ2 H2, bQ X.K F ρ σ H F2 ρ2 σ2 H2 -> bQ X.K F ρ σ H F2 (bh ρ (some i) ρ2) σ2 H2 /\ ∀ v r, bZ X.K F2 ρ2 σ2 H2 ρ σ H v r -> bZ X.K F2 (bh ρ (some i) ρ2) σ2 H2 ρ σ H v r := fun F2 ρ2 σ2 H2 s => by
      unfold bh; dsimp only; rw [q]; exact ⟨s, fun _ _ z => z⟩
     obtain ⟨a, ha, hw⟩ := ur (ul := bh ρ (some i)) (.refl g) h2 e2 fin
     exact ⟨v, h1, a, ha, hw.imp (fun ⟨z, w⟩ => ⟨z, k _ _ _ w⟩) (fun ⟨z, w⟩ => ⟨z, k _ _ _ w⟩)⟩
   . rename_i b ds' q
     cases e
     have hi : i < ρ.length := (List.getElem?_eq_some_iff.mp q).1
     have fin : ∀ F2 ρ2 σ2 H2, bQ X.K F (ρ.set i (.lent ds)) σ H F2 ρ2 σ2 H2 -> bQ X.K F ρ σ H F2 (bh ρ (some i) ρ2) σ2 H2 /\ ∀ v r, bZ X.K F2 ρ2 σ2 H2 (ρ.set i (.lent ds)) σ H v r -> bZ X.K F2 (bh ρ (some i) ρ2) σ2 H2 ρ σ H v r := fun F2 ρ2 σ2 H2 s => by
      unfold bh; dsimp only; rw [q]; exact bQ.bh g q s
     obtain ⟨a, h1, hx, w⟩ := pZ (ul := bh ρ (some i)) (g.lend q) (List.getElem?_set_self hi) fin
     exact ⟨_, h1, a, rfl, .inl ⟨hx, k _ _ _ w⟩⟩
   . rename_i ds' q
     cases e
     have fin : ∀ F2 ρ2 σ2 H2, bQ X.K F ρ σ H F2 ρ2 σ2 H2 -> bQ X.K F ρ σ H F2 (bh ρ (some i) ρ2) σ2 H2 /\ ∀ v r, bZ X.K F2 ρ2 σ2 H2 ρ σ H v r -> bZ X.K F2 (bh ρ (some i) ρ2) σ2 H2 ρ σ H v r := fun F2 ρ2 σ2 H2 s => by
      unfold bh; dsimp only; rw [q]; exact ⟨s, fun _ _ z => z⟩
     obtain ⟨a, h1, hx, w⟩ := pZ (ul := bh ρ (some i)) g q fin
     exact ⟨_, h1, a, rfl, .inl ⟨hx, k _ _ _ w⟩⟩
   . cases e
theorem tH {K : PySem.W.Frag} {F F1 H H1 : Hp} {ρ ρ1 : List Sl} {σ : L2.St} (s : bQ K F ρ σ H F1 ρ1 σ H1) (i j : Int) : Walk K F ρ σ H (bh ρ none) (Ov i (j - i).toNat) ((List.range (j - i).toNat).map fun (k : Nat) => D.int (i + (k : Int))) F1 ρ1 H1 := by
 refine ⟨s.gs, fun n k F' ρ' σ' H' s' => ⟨fun d hd => ?_, fun h => ?_⟩, fun F3 ρ3 σ3 H3 s3 => ⟨s.trans s3, fun v r rr => rr.later s⟩⟩
 . rw [List.getElem?_map] at hd
   obtain ⟨m, e1, e2⟩ := map_some hd
   obtain ⟨h1, h2⟩ := List.getElem?_eq_some_iff.mp e1
   rw [List.getElem_range] at h2
   subst h2; subst e2
   rw [List.length_range] at h1
   refine ⟨h1, ?_⟩
   rintro x xQ ⟨q1, q2⟩
   subst q1; subst q2
   exact ⟨F', .refl s'.gs.sub, cP _⟩
 . rw [List.length_map, List.length_range] at h; exact h
theorem iI {x : Str} {p' : Pos} (hx : x = "range") (hg : Gl X x) (hm : X.mg x = none) (ha : SX X c a pa) (hs : starEach [a] X.env = [(false, eval a X.env)] := by rfl) : SI X c tg (.Call (.Name x p') [a] [] pos) (.v5 (.con (.int 0)) pa) := by
 subst hx
 obtain ⟨ta, h1, h2⟩ := ha.fV
 refine wH (yg hg hm (bV h1 eY hs) hs) ?_
 rintro σ H R ⟨F, ρ, ds, ρ1, g, e, k⟩
 obtain ⟨r, ρ2, e1, e2⟩ := aq e
 have zz := aM e2; clear e2; obtain ⟨e2, e3⟩ := zz
 subst e3
 rw [HH.ev] at e1
 obtain ⟨xy, ρ3, e4, e5⟩ := aq e1
 have zz := aM e5; clear e5; obtain ⟨e5, e6⟩ := zz
 subst e6
 obtain ⟨y0, ρ5, e9, e10⟩ := aq e4
 cases e10
 obtain ⟨i, f1, e5⟩ := dZ e5
 obtain ⟨j, f2, e5⟩ := dZ e5
 obtain ⟨⟨b1, b2, b3, b4⟩, e5⟩ := bH e5
 have f1 : i = 0 := by cases f1; rfl
 subst f1
 subst e5
 cases e2
 cases gk f2
 refine h2 g e9 fun v F' H' s pv => ⟨j, by rw [pv.int], by omega, by omega, ?_⟩
 have := tH s 0 j
 rw [Int.sub_zero] at this
 refine k _ F' H' ?_
 rw [Int.sub_zero]
 exact this
theorem CW {x : Str} {p' : Pos} (hx : x = "range") (hg : Gl X x) (hm : X.mg x = none) (ha : SX X c a pa) (hb : SX X c b pb) (hs : starEach [a, b] X.env = [(false, eval a X.env), (false, eval b X.env)] := by rfl) (hs2 : starEach [b] X.env = [(false, eval b X.env)] := by rfl) :
 SI X c tg (.Call (.Name x p') [a, b] [] pos) (.v5 pa pb) := by
 subst hx
 obtain ⟨ta, tb, h1, h2, h3⟩ := ha.lD hb
 refine wH (yx hg hm (bV h1 (bV h2 eY hs2) (by rw [hs, hs2])) hs hs2) ?_
 rintro σ H R ⟨F, ρ, ds, ρ1, g, e, k⟩
 obtain ⟨r, ρ2, e1, e2⟩ := aq e
 have zz := aM e2; clear e2; obtain ⟨e2, e3⟩ := zz
 subst e3
 rw [HH.ev] at e1
 obtain ⟨xy, ρ3, e4, e5⟩ := aq e1
 have zz := aM e5; clear e5; obtain ⟨e5, e6⟩ := zz
 subst e6
 obtain ⟨i, f1, e5⟩ := dZ e5
 obtain ⟨j, f2, e5⟩ := dZ e5
 obtain ⟨⟨b1, b2, b3, b4⟩, e5⟩ := bH e5
 subst e5
 cases e2
 refine h3 g e4 fun v u F' H' s pv pu => ⟨i, j, ?_, by omega, k _ F' H' (tH s i j)⟩
 have e1 := gk f1
 have e2 := gk f2
 rw [e1] at pv; rw [e2] at pu
 rw [pv.int, pu.int]
end
end HH
end
section
namespace HH
open PySem L2 PySem.Spec PyProof.Rows
section
variable {X : Cx} {c : Call} {n : Nat} {e a b d tg iter : Expr} {p pa pb pd : P} {pos : Pos} {body : List Stmt} {ss : List S}
noncomputable def FP (K : PySem.W.Frag) (bd : List Sl -> D -> Option (List Sl)) (g : TG) : Prop := ∀ (x : V) (d : D) (F : Hp) (ρ ρ' : List Sl) (σ : L2.St) (H : Hp) (Q : L2.St -> Hp -> Prop), GS K F ρ σ H -> Rep K F x d -> bd ρ d = some ρ' ->
 (∀ σ', bQ K F ρ σ H F ρ' σ' H -> Q σ' H) -> g x σ H Q
theorem Dw {K : PySem.W.Frag} (i : Nat) : FP K (fun ρ d => put ρ i (.val false d)) (m7 i) := fun x d F ρ ρ' σ H Q g r h k =>
 k _ (bQ.put (r := .val d) (.refl g) r h)
theorem bf {K : PySem.W.Frag} : ∀ (is : List Nat) (gs : yS), (∀ (xs : List V) (ds : List D) (F : Hp) (ρ ρ' : List Sl) (σ : L2.St) (H : Hp) (Q : L2.St -> Hp -> Prop), GS K F ρ σ H -> aJ K F xs ds -> putAll ρ is ds = some ρ' -> (∀ σ', bQ K F ρ σ H F ρ' σ' H -> Q σ' H) -> gs xs σ H Q) ->
 ∀ i, ∀ (xs : List V) (ds : List D) (F : Hp) (ρ ρ' : List Sl) (σ : L2.St) (H : Hp) (Q : L2.St -> Hp -> Prop), GS K F ρ σ H -> aJ K F xs ds -> putAll ρ (i :: is) ds = some ρ' -> (∀ σ', bQ K F ρ σ H F ρ' σ' H -> Q σ' H) -> Bf (m7 i) gs xs σ H Q := by
 intro is gs ih i xs ds F ρ ρ' σ H Q g r h k
 cases ds with
 | nil => simp [putAll] at h
 | cons d ds =>
   obtain ⟨v, vs, rfl, h1, h2⟩ := r.cD
   rw [putAll] at h
   obtain ⟨ρ1, e1, e2⟩ := dZ h
   have s1 := bQ.put (r := .val d) (.refl g) h1 e1
   refine ⟨v, vs, rfl, ih vs ds F ρ1 ρ' _ H _ s1.gs h2 e2 fun σ' s2 => k σ' (s1.trans s2)⟩
theorem gH {K : PySem.W.Frag} : ∀ (xs : List V) (ds : List D) (F : Hp) (ρ ρ' : List Sl) (σ : L2.St) (H : Hp) (Q : L2.St -> Hp -> Prop), GS K F ρ σ H -> aJ K F xs ds -> putAll ρ [] ds = some ρ' -> (∀ σ', bQ K F ρ σ H F ρ' σ' H -> Q σ' H) -> J4 xs σ H Q := by
 intro xs ds F ρ ρ' σ H Q g r h k
 cases ds with
 | nil => rw [putAll] at h; cases h; exact ⟨r.gh, k σ (.refl g)⟩
 | cons d ds => simp [putAll] at h
theorem jB : ∀ {is : List Nat} {ds : List D} {ρ ρ' : List Sl}, putAll ρ is ds = some ρ' -> ds.length = is.length
 | [], [], _, _, _ => rfl
 | [], _ :: _, _, _, h => by simp [putAll] at h
 | _ :: _, [], _, _, h => by simp [putAll] at h
 | i :: is, d :: ds, ρ, ρ', h => by
   rw [putAll] at h
   obtain ⟨ρ1, e1, e2⟩ := dZ h
   simp [jB e2]
theorem jm {K : PySem.W.Frag} {is : List Nat} {gs : yS} {m : Nat} (hm : m = is.length) (h : ∀ (xs : List V) (ds : List D) (F : Hp) (ρ ρ' : List Sl) (σ : L2.St) (H : Hp) (Q : L2.St -> Hp -> Prop), GS K F ρ σ H -> aJ K F xs ds -> putAll ρ is ds = some ρ' -> (∀ σ', bQ K F ρ σ H F ρ' σ' H -> Q σ' H) -> gs xs σ H Q) :
 FP K (fun ρ d => cz ρ is false d) (JW K m gs) := by
 intro x d F ρ ρ' σ H Q g r hb k
 replace hb : cz ρ is false d = some ρ' := hb
 cases d with
 | tup ds =>
   replace hb : putAll ρ is ds = some ρ' := hb
   rw [Rep] at r
   obtain ⟨a, xs, rfl, h1, h2⟩ := r
   exact ⟨a, xs, rfl, aP.jz g.sub h1, by rw [h2.length, jB hb, hm], h xs _ F ρ ρ' σ H Q g h2 hb k⟩
 | _ => cases hb
theorem qP {g : TG} {is : List Nat} {one : Bool} (hp : PassesOwn (model X.prog X.w) X.A X.env X.xe) (hc : X.calm = true) (hi : SI X c tg iter p) (hg : PG X tg g) (hgo : FP X.K (fun ρ d => cz ρ is one d) g) (hb : SB X c n body ss)
 (hs : ∀ x, foldedSetIterable iter X.env x = pure x := by intro _; rfl) : SS X c n (.For tg iter body [] pos) (.gV p is one ss) := by
 refine jb (HD hp hc hi hg hb hs) ?_
 rintro D σ H ⟨F, ρ, fl, ρ', g0, e, k⟩
 rw [ex] at e
 obtain ⟨ds, ρ1, e1, e⟩ := aq e
 obtain ⟨fl', ρ2, e2, e⟩ := aq e
 cases e
 refine ⟨F, ρ, ds, ρ1, g0, e1, fun J F1 H1 w => ?_⟩
 have src : ∀ (i : Nat) (F' : Hp) (ρ' : List Sl) (σ' : L2.St) (H' : Hp), bQ X.K F1 ρ1 σ H1 F' ρ' σ' H' ->
  (∀ d, ds[i]? = some d -> J.go i H' /\ ∀ x xQ, J.K6 i H' x xQ -> ∃ F'', Ext F' H' F'' xQ /\ Rep X.K F'' x d) /\ (ds.length <= i -> J.stop i H') := fun i F' ρ' σ' H' s => w.src 0 i F' ρ' σ' H' (by simpa using s)
 refine ⟨fun i m σi Hi => ∃ Fi ρi, bQ X.K F1 ρ1 σ H1 Fi ρi σi Hi /\ m = ds.length - i /\ i <= ds.length /\ lY is one (jo c n ss) (ds.drop i) ρi = .ok fl ρ2, ⟨_, F1, ρ1, .refl w.gs, rfl, Nat.zero_le _, e2⟩, ?_⟩
 rintro i m σi Hi ⟨Fi, ρi, si, rfl, hle, ei⟩
 obtain ⟨s1, s2⟩ := src i Fi ρi σi Hi si
 by_cases hlt : i < ds.length
 . right
   have hd : ds[i]? = some ds[i] := by simp [hlt]
   obtain ⟨go, step⟩ := s1 _ hd
   refine ⟨go, fun σ' H' => ∃ m', m' < ds.length - i /\ ∃ Fi ρi, bQ X.K F1 ρ1 σ H1 Fi ρi σ' H' /\ m' = ds.length - (i + 1) /\ i + 1 <= ds.length /\ lY is one (jo c n ss) (ds.drop (i + 1)) ρi = .ok fl ρ2, fun σ' H' z => z, fun x H' y => ?_⟩
   obtain ⟨F2, ext, rx⟩ := step x H' y
   have Zq := si.trans (ext.stp si.gs)
   rw [List.drop_eq_getElem_cons hlt, lY] at ei
   cases hbd : cz ρi is one ds[i] with
   | none => rw [hbd] at ei; cases ei
   | some ρb =>
     rw [hbd] at ei
     obtain ⟨flb, ρc, eb, ei⟩ := aq ei
     refine hgo x _ F2 ρi ρb σi H' _ Zq.gs rx hbd fun σ2 sb => ?_
     have XF := Zq.trans sb
     refine ⟨F2, ρb, flb, ρc, XF.gs, eb, fun F4 σ4 H4 s4 => ?_⟩
     have Ub := XF.trans s4
     cases flb with
     | next => exact ⟨_, by omega, F4, ρc, Ub, rfl, hlt, ei⟩
     | cont => exact ⟨_, by omega, F4, ρc, Ub, rfl, hlt, ei⟩
     | brk =>
       cases ei
       exact k F4 σ4 H4 (w.fin _ _ _ _ Ub).1
     | ret r =>
       cases ei
       intro v rr
       obtain ⟨z1, z2⟩ := w.fin _ _ _ _ Ub
       exact k F4 σ4 H4 z1 v (z2 v r (rr.later XF))
 . left
   have hdr : ds.drop i = [] := by rw [List.drop_eq_nil_iff]; omega
   rw [hdr, lY] at ei
   cases ei
   exact ⟨s2 (by omega), k Fi σi Hi (w.fin _ _ _ _ si).1⟩
theorem yd (i : Nat) : (fun (ρ : List Sl) (d : D) => cz ρ [i] true d) = fun ρ d => put ρ i (.val false d) := by funext ρ d; rfl
theorem cY {i : Nat} {x : Str} {pos' : Pos} (hp : PassesOwn (model X.prog X.w) X.A X.env X.xe) (hc : X.calm = true) (hN : X.N.Nodup) (hx0 : X.N[i]? = some x) (hx : Loc X.env.scope x) (hi : SI X c (.Name x pos') iter p) (hb : SB X c n body ss)
 (hs : ∀ x, foldedSetIterable iter X.env x = pure x := by intro _; rfl) (hf : X.fn x = true \/ X.env.scope.names.lookup x = some .local := by first | exact .inl rfl | exact .inr rfl | assumption) : SS X c n (.For (.Name x pos') iter body [] pos) (.gV p [i] true ss) :=
 qP hp hc hi (aF hN hx0 hx hf) (by rw [yd]; exact Dw i) hb hs
end
end HH
end
section
namespace HH
open PySem L2 PySem.Spec PyProof.Rows
section
variable {X : Cx} {c : Call} {n : Nat} {e elt tg iter : Expr} {p ps pe : P} {pos : Pos} {scope : Scope} {N' : List Str} {ifs : List Expr}
theorem Jx {t t' : TE} (h : PE X e t) (i : ∀ σ H Q, σ.length = X.N.length -> t' σ H Q -> t σ H Q) : PE X e t' := fun pins s σ H Q I q => h pins s σ H Q I (i σ H Q I.len q)
theorem Ie {st : Stmt} {t t' : TS} (h : PS X st t) (i : ∀ D σ H, σ.length = X.N.length -> t' D σ H -> t D σ H) : PS X st t' := fun pins s σ H D I q => h pins s σ H D I (i D σ H I.len q)
noncomputable def qd (K : PySem.W.Frag) (m : Nat) (is : List Nat) (one : Bool) (g : TG) : Prop := ∀ (x : V) (d : D) (F : Hp) (ρ ρ' : List Sl) (σ : L2.St) (H : Hp) (Q : L2.St -> Hp -> Prop), GS K F ρ σ H -> Rep K F x d -> cz ρ is one d = some ρ' ->
 (∀ σ', bQ K F ρ σ H F ρ' σ' H -> σ'.take m = σ.take m -> Q σ' H) -> g x σ H Q
theorem take_set {α : Type} {l : List α} {i m : Nat} {a : α} (h : m <= i) : (l.set i a).take m = l.take m := by
 rw [List.take_set_of_le h]
theorem cM {K : PySem.W.Frag} {i m : Nat} (h : m <= i) : qd K m [i] true (m7 i) := fun x d F ρ ρ' σ H Q g r hb k =>
 k _ (bQ.put (r := .val d) (.refl g) r hb) (take_set h)
noncomputable def DX (K : PySem.W.Frag) (m : Nat) (is : List Nat) (gs : yS) : Prop := ∀ (xs : List V) (ds : List D) (F : Hp) (ρ ρ' : List Sl) (σ : L2.St) (H : Hp) (Q : L2.St -> Hp -> Prop), GS K F ρ σ H -> aJ K F xs ds -> putAll ρ is ds = some ρ' ->
 (∀ σ', bQ K F ρ σ H F ρ' σ' H -> σ'.take m = σ.take m -> Q σ' H) -> gs xs σ H Q
theorem fu {K : PySem.W.Frag} {m i : Nat} {is : List Nat} {gs : yS} (hi : m <= i) (ih : DX K m is gs) : DX K m (i :: is) (Bf (m7 i) gs) := by
 intro xs ds F ρ ρ' σ H Q g r h k
 cases ds with
 | nil => simp [putAll] at h
 | cons d ds =>
   obtain ⟨v, vs, rfl, h1, h2⟩ := r.cD
   rw [putAll] at h
   obtain ⟨ρ1, e1, e2⟩ := dZ h
   have s1 := bQ.put (r := .val d) (.refl g) h1 e1
   exact ⟨v, vs, rfl, ih vs ds F ρ1 ρ' _ H _ s1.gs h2 e2 fun σ' s2 z => k σ' (s1.trans s2) (z.trans (take_set hi))⟩
theorem rz {K : PySem.W.Frag} {m : Nat} : DX K m [] J4 := by
 intro xs ds F ρ ρ' σ H Q g r h k
 cases ds with
 | nil => rw [putAll] at h; cases h; exact ⟨r.gh, k σ (.refl g) rfl⟩
 | cons d ds => simp [putAll] at h
theorem qD {K : PySem.W.Frag} {is : List Nat} {gs : yS} {m l : Nat} (hm : l = is.length) (h : DX K m is gs) : qd K m is false (JW K l gs) := by
 intro x d F ρ ρ' σ H Q g r hb k
 cases d with
 | tup ds =>
   replace hb : putAll ρ is ds = some ρ' := hb
   rw [Rep] at r
   obtain ⟨a, xs, rfl, h1, h2⟩ := r
   exact ⟨a, xs, rfl, aP.jz g.sub h1, by rw [h2.length, jB hb, hm], h xs _ F ρ ρ' σ H Q g h2 hb k⟩
 | _ => cases hb
noncomputable def SQ (X : Cx) (c : Call) (ifs : List Expr) (t : Option P) : Prop := Jf X ifs (Gy X.K (oX c t))
theorem iR : SQ X c [] none := fun pins s σ H Q I ⟨F, ρ, k, ρ', g, e, q⟩ => by
 rw [oX] at e; cases e
 exact Cu pins s σ H Q I (q F H (.refl g))
theorem gR (h : ST X c e p) : SQ X c [e] (some p) := fun pins s σ H Q I ⟨F, ρ, k, ρ', g, e, q⟩ => by
 rw [oX] at e
 exact DK h pins s σ H Q I ⟨F, ρ, k, ρ', g, e, q⟩
theorem bQ.Qt {K : PySem.W.Frag} {F H F1 H1 : Hp} {ρ ρ1 : List Sl} {σ σ1 : L2.St} {Da : Addr} {o : HO} (s : bQ K F ρ σ H F1 ρ1 σ1 H1) (h : H Da = none) (hf : F1 Da = none) (ho : ¬ Own ρ1 σ1 Da) : bQ K F ρ σ H F1 ρ1 σ1 (upd H1 Da o) := by
 refine ⟨⟨fun b u e => ?_, s.gs.len, s.gs.val, fun i t ds e e' => ?_, s.gs.dis⟩, s.dX, s.yU, fun b u e n => ?_, s.yP, s.len, s.lk⟩
 . have : b ≠ Da := by rintro rfl; rw [hf] at e; cases e
   rw [aN this]; exact s.gs.sub b u e
 . obtain ⟨a, xs, q1, q2, q3, q4⟩ := s.gs.own i t ds e e'
   have : a ≠ Da := by rintro rfl; exact ho ⟨i, ⟨t, ds, e, e'⟩, q1⟩
   exact ⟨a, xs, q1, by rw [aN this]; exact q2, q3, q4⟩
 . have : b ≠ Da := by rintro rfl; rw [h] at e; cases e
   rw [aN this]; exact s.keep b u e n
theorem Ay {K : PySem.W.Frag} {F H : Hp} {ρ ρ1 ρ2 : List Sl} {σ : L2.St} {ul : List Sl -> List Sl} {ti : TI} {is : List Nat} {one : Bool} {test : List Sl -> Res Bool} {el : Ev} {g : TG} {Q : VK} {ds xs : List D} {m : Nat}
 (hm : σ.length = m) (hgo : qd K m is one g) (hti : ∀ R : It -> Hp -> Prop, (∀ J F1 H1, Walk K F ρ σ H ul J ds F1 ρ1 H1 -> R J H1) -> ti σ H R) (hlim : ds.length <= lim)
 (e2 : turns is one test el ds [] (ρ1 ++ List.replicate n .bj) = .ok xs ρ2)
 (k : ∀ v F' H', bQ K F ρ σ H F' (ul (ρ2.take ρ1.length)) σ H' -> bZ K F' (ul (ρ2.take ρ1.length)) σ H' ρ σ H v (.own xs) -> Q v H') :
 wu n ti g (Gy K test) (Bh K el) σ H Q := by
 refine hti _ fun J F1 H1 w Da NK => ?_
 have hl1 : ρ1.length = σ.length := w.gs.len
 have gm := w.gs.more (n := n) (τ := List.replicate n none) (by simp)
 have fD : F1 Da = none := by
  cases q : F1 Da with
  | none => rfl
  | some o => rw [w.gs.sub Da o q] at NK; cases NK
 have nO : ¬ Own (ρ1 ++ List.replicate n .bj) (σ ++ List.replicate n none) Da := fun ⟨i, ⟨t, dt, q1, q2⟩, q3⟩ => by
  obtain ⟨a, ys, z1, z2, _⟩ := gm.own i t dt q1 q2
  rw [q3] at z1; cases z1
  rw [NK] at z2; cases z2
 refine ⟨fun i mm ys σi Hi => ∃ Fi ρi acc, bQ K F1 (ρ1 ++ List.replicate n .bj) (σ ++ List.replicate n none) H1 Fi ρi σi Hi /\ σi.take m = σ /\ Hi Da = some (.lst ys) /\ Fi Da = none /\ ¬ Own ρi σi Da /\ aJ K Fi ys acc /\ acc.length <= i /\ mm = ds.length - i /\ i <= ds.length /\
  turns is one test el (ds.drop i) acc ρi = .ok xs ρ2, ⟨_, F1, _, [], (bQ.refl gm).Qt NK fD nO, by rw [List.take_append_of_le_length (by omega), List.take_of_length_le (by omega)], bI, fD, nO, .nil, Nat.zero_le _, rfl, Nat.zero_le _, e2⟩, ?_⟩
 rintro i mm ys σi Hi ⟨Fi, ρi, acc, si, hσ, hD, hF, hO, rs, hacc, rfl, hle, ei⟩
 refine ⟨hD, ?_⟩
 -- what stays of the new list through a step
 have stay : ∀ {F2 H2 : Hp} {ρ3 : List Sl} {σ2 : L2.St}, bQ K Fi ρi σi Hi F2 ρ3 σ2 H2 -> H2 Da = some (.lst ys) /\ F2 Da = none /\ ¬ Own ρ3 σ2 Da := fun {F2 H2 ρ3 σ2} s => by
  refine ⟨s.keep Da _ hD hO, ?_, fun o => ?_⟩
  . cases q : F2 Da with
    | none => rfl
    | some o =>
      rcases s.yU Da hF (by rw [q]; simp) with z | z
      . exact absurd z hO
      . exact (Bv hD z).elim
  . rcases s.yP Da o with z | z
    . exact hO z
    . rw [hD] at z; cases z
 obtain ⟨s1, s2⟩ := w.src n i Fi ρi σi Hi si
 by_cases hlt : i < ds.length
 . right
   have hd : ds[i]? = some ds[i] := by simp [hlt]
   obtain ⟨go, step⟩ := s1 _ hd
   refine ⟨go, fun x H2 y => ?_⟩
   obtain ⟨F2, ext, rx⟩ := step x H2 y
   have t2 := ext.stp si.gs
   rw [List.drop_eq_getElem_cons hlt, turns] at ei
   cases hbd : cz ρi is one ds[i] with
   | none => rw [hbd] at ei; cases ei
   | some ρb =>
     rw [hbd] at ei
     obtain ⟨bb, ρc, eb, ei⟩ := aq ei
     refine hgo x _ F2 ρi ρb σi H2 _ t2.gs rx hbd fun σ2 sb htk => ?_
     have t3 := t2.trans sb
     refine ⟨F2, ρb, bb, ρc, t3.gs, eb, fun F4 H4 s4 => ?_⟩
     have t4 := t3.trans s4
     cases bb with
     | false =>
       rw [if_neg Bool.false_ne_true] at ei
       obtain ⟨y1, y2, y3⟩ := stay t4
       exact ⟨_, by omega, F4, ρc, acc, si.trans t4, htk.trans hσ, y1, y2, y3, rs.mono t4.dX, by omega, rfl, hlt, ei⟩
     | true =>
       rw [if_pos rfl] at ei
       obtain ⟨re, ρe, ee, ei⟩ := aq ei
       refine (show Bh K el σ2 H4 _ from ⟨F4, ρc, re, ρe, t4.gs, ee, fun v F5 H5 s5 rr => ?_⟩)
       obtain ⟨F6, s6, _, rp⟩ := s5.jc rr
       have t6 := t4.trans s6
       obtain ⟨y1, y2, y3⟩ := stay t6
       have hlen : ys.length < sizeLine := by
        have h1 := rs.length
        have h2 : lim = sizeLine := rfl
        omega
       exact ⟨y1, hlen, _, by omega, F6, ρe, acc ++ [re.d], (si.trans t6).Qt NK y2 y3, htk.trans hσ, bI, y2, y3, (rs.mono t6.dX).append (.cons rp .nil), by simp; omega, rfl, hlt, ei⟩
 . left
   have hdr : ds.drop i = [] := by rw [List.drop_eq_nil_iff]; omega
   rw [hdr, turns] at ei
   cases ei
   refine ⟨s2 (by omega), ?_⟩
   obtain ⟨l1, l2⟩ := bQ.less (m := ρ1.length) rfl w.gs (by simp) si
   have hst : σi.take ρ1.length = σ := by rw [hl1, hm]; exact hσ
   rw [hst] at l1
   have rr : bZ K Fi ρ2 σi Hi (ρ1 ++ List.replicate n .bj) (σ ++ List.replicate n none) H1 (.ref Da) (.own xs) := ⟨Da, ys, rfl, hD, hF, rs, hO, .inr NK⟩
   have Zr := l2 _ _ rr
   rw [hst] at Zr
   obtain ⟨z1, z2⟩ := w.fin _ _ _ _ l1
   exact k _ Fi Hi z1 (z2 _ _ Zr)
theorem xG {K : PySem.W.Frag} {F H : Hp} {ρ : List Sl} {σ : L2.St} {iv : Option Nat} {f : Ev} {is : List Nat} {one : Bool} {test : List Sl -> Res Bool} {el : Ev} {g : TG} {Q : VK} {r : R} {ρ' : List Sl} {m : Nat}
 (hm : σ.length = m) (hgo : qd K m is one g) (g0 : GS K F ρ σ H)
 (e : ((srcOf iv f ρ).bind fun ds ρ₁ => if ds.length <= lim then (turns is one test el ds [] (ρ₁ ++ List.replicate n .bj)).bind fun xs ρ₂ => Res.ok (R.own xs) (bh ρ iv (ρ₂.take ρ₁.length)) else .stuck) = .ok r ρ')
 (k : ∀ v F' H', bQ K F ρ σ H F' ρ' σ H' -> bZ K F' ρ' σ H' ρ σ H v r -> Q v H') :
 wu n (YM K iv f) g (Gy K test) (Bh K el) σ H Q := by
 obtain ⟨ds, ρ1, e1, e⟩ := aq e
 split at e
 . rename_i hlim
   obtain ⟨xs, ρ2, e2, e⟩ := aq e
   cases e
   exact Ay hm hgo (fun R h => ⟨F, ρ, ds, ρ1, g0, e1, h⟩) hlim e2 k
 . cases e
theorem eO {g : TG} {is : List Nat} {one : Bool} {t : Option P} (hc : X.calm = true) (ok : fc X scope N' n) (hi : SI X c tg iter ps) (hg : ∀ cl C s₀ H₀ ex, PG (tW X scope N' cl C s₀ H₀ ex) tg g) (hgo : qd X.K X.N.length is one g)
 (ht : ∀ cl C s₀ H₀ ex, SQ (tW X scope N' cl C s₀ H₀ ex) c ifs t) (he : ∀ cl C s₀ H₀ ex, SX (tW X scope N' cl C s₀ H₀ ex) c elt pe)
 (hs : ∀ x, foldedSetIterable iter X.env x = pure x := by intro _; rfl) : SX X c (.ListComp elt [⟨tg, iter, ifs, 0⟩] scope pos) (.comp ps n is one t pe) := by
 refine ⟨Jx (Cv (tt := Gy X.K (oX c t)) (te := Bh X.K (HH.ev c pe)) hc ok hi hg ht (fun cl C s₀ H₀ ex => (he cl C s₀ H₀ ex).ev) hs) ?_, fun i h => by cases h⟩
 rintro σ H Q hl ⟨F, ρ, r, ρ', g0, e, k⟩
 rw [HH.ev] at e
 exact xG hl hgo g0 e k
theorem mL {i : Nat} {x : Str} {pos' spos : Pos} {nn : Nat} {g : TG} {is : List Nat} {one : Bool} {t : Option P} (hc : X.calm = true) (hN : X.N.Nodup) (hx0 : X.N[i]? = some x) (hx : Loc X.env.scope x) (ok : fc X scope N' n) (hi : SI X c tg iter ps)
 (hg : ∀ cl C s₀ H₀ ex, PG (tW X scope N' cl C s₀ H₀ ex) tg g) (hgo : qd X.K X.N.length is one g)
 (ht : ∀ cl C s₀ H₀ ex, SQ (tW X scope N' cl C s₀ H₀ ex) c ifs t) (he : ∀ cl C s₀ H₀ ex, SX (tW X scope N' cl C s₀ H₀ ex) c elt pe)
 (hsw : swapsWith (.ListComp elt [⟨tg, iter, ifs, 0⟩] scope pos) (some (.Name x pos')) spos.line X.env = pure true := by rfl)
 (hs : ∀ x, foldedSetIterable iter X.env x = pure x := by intro _; rfl) (hf : X.fn x = true \/ X.env.scope.names.lookup x = some .local := by first | exact .inl rfl | exact .inr rfl | assumption) :
 SS X c nn (.Assign [.Name x pos'] (.ListComp elt [⟨tg, iter, ifs, 0⟩] scope pos) spos) (.asg i (.comp ps n is one t pe)) := by
 refine Ie (El (tt := Gy X.K (oX c t)) (te := Bh X.K (HH.ev c pe)) hc hN hx0 hx ok hi hg ht (fun cl C s₀ H₀ ex => (he cl C s₀ H₀ ex).ev) hsw hs hf) ?_
 rintro D σ H hl ⟨F, ρ, fl, ρ', g0, e, k⟩
 rw [ex] at e
 obtain ⟨r, ρ1, e1, e⟩ := aq e
 obtain ⟨ρ2, ρ3, e2, e⟩ := aq e
 cases e
 have zz := aM e2; clear e2; obtain ⟨e2, e3⟩ := zz
 rw [HH.ev] at e1
 exact xG hl hgo g0 e1 fun v F1 H1 s1 rr => k F1 _ H1 (s1.put rr e2)
end
end HH
end
section
namespace HH
open PySem L2 PySem.Spec PyProof.Rows
section
variable {X : Cx} {c : Call} {n : Nat} {e a b d : Expr} {p pa pb pd : P} {pos : Pos} {es : List Expr} {ps : List P}
noncomputable def YS : D -> String
 | .non => "NoneType" | .bl _ => "bool" | .int _ => "int" | .str _ => "str" | .tup _ => "tuple" | .lst _ => "list" | .dB _ => "dict"
noncomputable def Qo : Ty -> String
 | .none => "NoneType" | .bool => "bool" | .int => "int" | .str => "str" | .tuple => "tuple" | .list => "list"
theorem Og (K : PySem.W.Frag) (t : Ty) (d : D) : PySem.W.kitOne K (.type (YS d)) (.type (Qo t)) = some (bO t d) := by
 cases t <;> cases d <;> rfl
theorem PJ {pins : List (Addr × Obj)} {σ : L2.St} {H F : Hp} {s : Shared} {x : V} {u : Value} {dt : D} (I : L2.Inv X pins σ H s) (sm : aP F H) (px : dq X.K F H x dt) (rx : RelV x u) :
 (∃ Hq, PySem.W.KitX X.K u (.type (YS dt)) Hq /\ Hq s.heap) /\ u ≠ .builtin "__main__.__loader__#opaque" := by
 cases dt with
 | non => rw [px.non] at rx; cases rx; exact ⟨⟨_, PySem.W.kitx_none, trivial⟩, nofun⟩
 | bl y => rw [px.bl] at rx; cases rx; exact ⟨⟨_, PySem.W.kitx_bool, trivial⟩, nofun⟩
 | int i => rw [px.int] at rx; obtain ⟨t, rfl⟩ := rx; exact ⟨⟨_, PySem.W.kitx_int, trivial⟩, nofun⟩
 | str y => rw [px.str] at rx; obtain ⟨t, rfl⟩ := rx; exact ⟨⟨_, PySem.W.kitx_str, trivial⟩, nofun⟩
 | tup ds =>
   obtain ⟨q, xs, rfl, hq, _⟩ := px.tup sm
   cases rx
   obtain ⟨its, _, ⟨o, h1, h2, _⟩, _⟩ := I.tuple hq
   exact ⟨⟨_, PySem.W.kitx_tuple, ⟨o, h1, h2⟩⟩, nofun⟩
 | lst ds =>
   obtain ⟨q, xs, rfl, hq, _⟩ := px.lst sm
   cases rx
   obtain ⟨its, _, pl, _⟩ := I.list hq
   obtain ⟨o, h1, h2, _⟩ := pl.isList
   exact ⟨⟨_, PySem.W.kitx_list, ⟨o, h1, h2⟩⟩, nofun⟩
 | dB m =>
   obtain ⟨q, _, rfl, hq⟩ := px.dB sm
   cases rx
   obtain ⟨o, h1, h2⟩ := Ag I hq
   exact ⟨⟨_, PySem.W.kitx_dict, ⟨o, h1, h2⟩⟩, nofun⟩
theorem KC (t : Ty) : cR X (.builtin "isinstance") (fun xs H Q => ∃ x F dt, xs = [x, .ty (Qo t)] /\ aP F H /\ dq X.K F H x dt /\ Q (.bl (bO t dt)) H) := by
 rintro pins s σ H xs us Q I r ⟨x, F, dt, hx, sm, px, q⟩
 subst hx
 obtain ⟨u, w', rfl, rx, rt⟩ := r.two
 cases (show w' = Value.type (Qo t) from rt)
 obtain ⟨⟨Hq, Z, hz⟩, hne⟩ := PJ I sm px rx
 exact PySem.W.kia_one Z I.Ir hz (Og _ t dt) hne fun tk => ⟨.bl _, H, I.tok tk, rfl, q⟩
theorem Ad : bootBuiltins "isinstance" = some (.builtin "isinstance") := by decide +kernel
theorem mW {x y : Str} {p' p2 : Pos} (t : Ty) (hx : x = "isinstance") (hg : Gl X x) (hm : X.mg x = none) (ha : SX X c a pa) (hgy : Gl X y) (hmy : X.mg y = none) (hy : bootBuiltins y = some (.type (Qo t)))
 (hny : y ≠ "__name__" := by decide) (hdy : (y == ("__debug__" : Str)) = false := by decide)
 (hs : starEach [a, .Name y p2] X.env = (false, eval a X.env) :: starEach [.Name y p2] X.env := by rfl) : SX X c (.Call (.Name x p') [a, .Name y p2] [] pos) (.inst [t] pa) := by
 subst hx
 obtain ⟨ta, h1, h2⟩ := ha.fV
 refine ⟨fY (cW (KC t) hg hm Ad (bV h1 (bV (Du (v := .ty (Qo t)) hgy hmy hy rfl hny hdy) eY) hs) (he := hs)) ?_, fun i h => by cases h⟩
 rintro σ H Q ⟨F, ρ, r, ρ', g, e, k⟩
 rw [HH.ev] at e
 obtain ⟨dt, ρ1, e1, e⟩ := aq e
 cases e
 refine h2 g e1 fun v F' H' s pv => ⟨v, F', dt, rfl, s.gs.sub, pv, k _ F' H' s ?_⟩
 show Rep X.K F' _ _
 rw [List.any_cons, List.any_nil, Bool.or_false]
 exact lQ _
inductive V1 (K : PySem.W.Frag) (f : List D -> Option R) (xs : List V) (H : Hp) (Q : VK) : Prop where
 | mk (F : Hp) (ds : List D) (r : R) (sm : aP F H) (rs : aJ K F xs ds) (he : f ds = some r) (k : ∀ v F' H', Ext F H F' H' -> cA K F' H' H v r -> Q v H')
theorem G6 {E : Expr} {f : List D -> Option R} {q : P} (hp : ∀ {t}, PA X es t -> PE X E (Ti (V1 X.K f) t)) (ha : SA X c es ps)
 (hq : ∀ ρ, HH.ev c q ρ = (evs c ps ρ).bind fun ds ρ => lift (f ds) ρ) (hv : isVar q = none) : SX X c E q := by
 refine ⟨fY (hp ha.1) ?_, fun i h => by rw [hv] at h; cases h⟩
 rintro σ H Q ⟨F, ρ, r, ρ', g, e, k⟩
 rw [hq] at e
 obtain ⟨ds, ρ1, e1, e2⟩ := aq e
 have zz := aM e2; clear e2; obtain ⟨e2, e3⟩ := zz
 subst e3
 exact ⟨F, ρ, ds, ρ1, g, e1, fun vs F' H' s rs => ⟨F', ds, r, s.gs.sub, rs, e2, fun w F2 H2 x rn => k w F2 H2 (s.trans (x.stp s.gs)) (.later s (rn.qL s.gs))⟩⟩
theorem Gg {K : PySem.W.Frag} {F : Hp} {xs : List V} {i j : Int} (h : aJ K F xs [.int i, .int j]) : xs = [.int i, .int j] := by
 obtain ⟨v, r, rfl, h1, h2⟩ := h.cD
 obtain ⟨u, r2, rfl, h3, h4⟩ := h2.cD
 rw [Rep] at h1 h3
 rw [h1, h3, h4.gh]
theorem inv2 {f : Sw} {g : Int -> Int -> Int} {ds : List D} {r : R} (h0 : blt f [] = none) (h1 : ∀ a, blt f [a] = none) (h3 : ∀ a b c l, blt f (a :: b :: c :: l) = none) (hn : ∀ a b, dC a = false -> blt f [a, b] = none) (hm : ∀ i b, dC b = false -> blt f [.int i, b] = none) (hi : ∀ i j, blt f [.int i, .int j] = some (.val (.int (g i j)))) (he : blt f ds = some r) : ∃ i j, ds = [.int i, .int j] /\ r = .val (.int (g i j)) := by
 rcases ds with _ | ⟨a, _ | ⟨b, _ | ⟨c, l⟩⟩⟩
 . rw [h0] at he; cases he
 . rw [h1] at he; cases he
 . by_cases ha : dC a = true
   . obtain ⟨i, rfl⟩ : ∃ i, a = .int i := by cases a <;> first | exact ⟨_, rfl⟩ | cases ha
     by_cases hb : dC b = true
     . obtain ⟨j, rfl⟩ : ∃ j, b = .int j := by cases b <;> first | exact ⟨_, rfl⟩ | cases hb
       rw [hi] at he; cases he; exact ⟨i, j, rfl, rfl⟩
     . rw [hm i b (by simpa using hb)] at he; cases he
   . rw [hn a b (by simpa using ha)] at he; cases he
 . rw [h3] at he; cases he
theorem Kp (hc : X.calm = true) : cR X (.builtin "min") (V1 X.K (blt .min2)) := by
 rintro pins s σ H xs us Q I r ⟨F, ds, r', sm, rs, he, k⟩
 obtain ⟨i, j, rfl, rfl⟩ := inv2 (g := fun i j => if j < i then j else i) rfl (fun a => by cases a <;> rfl) (fun a b c l => by cases a <;> first | rfl | (cases b <;> rfl)) (fun a b h => by cases a <;> first | rfl | cases h) (fun i b h => by cases b <;> first | rfl | cases h) (fun _ _ => rfl) he
 rw [Gg rs] at r; exact ye hc pins s σ H _ us Q I r ⟨_, _, rfl, cA.dO sm (cP _) k⟩
theorem JT (hc : X.calm = true) : cR X (.builtin "max") (V1 X.K (blt .max2)) := by
 rintro pins s σ H xs us Q I r ⟨F, ds, r', sm, rs, he, k⟩
 obtain ⟨i, j, rfl, rfl⟩ := inv2 (g := fun i j => if i < j then j else i) rfl (fun a => by cases a <;> rfl) (fun a b c l => by cases a <;> first | rfl | (cases b <;> rfl)) (fun a b h => by cases a <;> first | rfl | cases h) (fun i b h => by cases b <;> first | rfl | cases h) (fun _ _ => rfl) he
 rw [Gg rs] at r; exact yC hc pins s σ H _ us Q I r ⟨_, _, rfl, cA.dO sm (cP _) k⟩
theorem boot_min : bootBuiltins "min" = some (.builtin "min") := by decide +kernel
theorem boot_max : bootBuiltins "max" = some (.builtin "max") := by decide +kernel
theorem Cy {x : Str} {p' : Pos} (hx : x = "min") (hc : X.calm = true) (hg : Gl X x) (hm : X.mg x = none) (ha : SA X c [a, b] [pa, pb]) (hs : starEach [a, b] X.env = (false, eval a X.env) :: starEach [b] X.env := by rfl) (hpl : (backTo pos (starEach [b] X.env)).any (·.1) = false := by rfl) :
 SX X c (.Call (.Name x p') [a, b] [] pos) (.blt .min2 [pa, pb]) := by
 subst hx; exact G6 (fun h => cW (Kp hc) hg hm boot_min h (he := hs) (hpl := hpl)) ha (fun ρ => by rw [HH.ev]; intro a h; cases h) rfl
theorem Dk {x : Str} {p' : Pos} (hx : x = "max") (hc : X.calm = true) (hg : Gl X x) (hm : X.mg x = none) (ha : SA X c [a, b] [pa, pb]) (hs : starEach [a, b] X.env = (false, eval a X.env) :: starEach [b] X.env := by rfl) (hpl : (backTo pos (starEach [b] X.env)).any (·.1) = false := by rfl) :
 SX X c (.Call (.Name x p') [a, b] [] pos) (.blt .max2 [pa, pb]) := by
 subst hx; exact G6 (fun h => cW (JT hc) hg hm boot_max h (he := hs) (hpl := hpl)) ha (fun ρ => by rw [HH.ev]; intro a h; cases h) rfl
end
end HH
end
section
namespace HH
open PySem L2 PySem.Spec PyProof.Rows
section
variable {X : Cx} {c : Call} {n : Nat} {e a b d : Expr} {p pa pb pd : P} {pos : Pos} {es : List Expr} {ps : List P}
theorem wV {K : PySem.W.Frag} {F H : Hp} {ρ : List Sl} {σ : L2.St} {i : Nat} {ds : List D} (g : GS K F ρ σ H) (h : GC ρ i = some ds) : ∃ a xs, σ[i]? = some (some (V.ref a)) /\ fU K H a xs := by
 unfold GC at h
 split at h
 . rename_i q
   cases h
   obtain ⟨v, h1, h2⟩ := g.pk q
   obtain ⟨a, xs, rfl, h3, _⟩ := h2.lst g.sub
   exact ⟨a, xs, h1, h3⟩
 . cases h
theorem mq {x : Str} {k : Nat} {px tpos : Pos} (hN : X.N[k]? = some x) (hv : G7 X.env.scope x) (hi : SX X c b pb) (he : SX X c e p)
 (ha : ∀ v, assign (.Subscript (.Name x px) b tpos) X.env v = (do
  let ov <- holding [v] (eval (.Name x px) X.env)
  let iv <- holding [v, ov] (eval b X.env)
  standAt tpos
  holding [v, ov, iv] (setItem ov iv v)
  release [v, ov, iv] []) := by intro _; rfl)
 (hs : swapsWithSole [.Subscript (.Name x px) b tpos] e pos.line X.env = pure false := by rfl) (hw : swappedStores [.Subscript (.Name x px) b tpos] e X.env = pure none := by rfl)
 (h1 : (assignEach [.Subscript (.Name x px) b tpos] X.env).map (·.2) = [assign (.Subscript (.Name x px) b tpos) X.env] := by rfl) (hd : (x == ("__debug__" : Str)) = false := by decide) (hcd : (x == ("__classdict__" : Str)) = false := by decide) :
 SS X c n (.Assign [.Subscript (.Name x px) b tpos] e pos) (.yO k pb p) := by
 obtain ⟨ti, hi1, hi2⟩ := hi.fV
 refine jb (zy he.ev (Ka (qJ hN hv hd hcd) hi1 set_list ha) hs hw h1) ?_
 rintro D σ H ⟨F, ρ, fl, ρ', g, e, kk⟩
 rw [ex] at e
 obtain ⟨r, ρ1, e1, e⟩ := aq e
 obtain ⟨x0, ρ1', e0, e⟩ := aq e
 have zz := aM e0; clear e0; obtain ⟨e0, BV⟩ := zz
 subst BV
 obtain ⟨dk, ρ2, e2, e⟩ := aq e
 refine ⟨F, ρ, r, ρ1, g, e1, fun v F1 H1 s1 rr => ?_⟩
 obtain ⟨F2, s2, _, rp⟩ := s1.jc rr
 obtain ⟨o, ho, _⟩ := s2.gs.pk e0
 refine ⟨o, ho, hi2 s2.gs e2 fun vi F3 H3 s3 pi => ?_⟩
 split at e
 . rename_i bb ds kk' q
   split at e
   . rename_i j hj
     cases e
     obtain ⟨ad, xs, q1, q2, q3, q4⟩ := s3.gs.o9 k _ ds q rfl
     rw [ho] at q1; cases q1
     refine ⟨ad, xs, kk', j, rfl, pi.int, q2, by rw [q4.length]; exact hj, ?_⟩
     exact kk F3 σ _ ((s2.trans s3).trans (s3.gs.mut q ho (q4.set (rp.mono s3.dX) j)))
   . cases e
 . cases e
theorem bM {x : Str} {k : Nat} {px apos cpos : Pos} (hN : X.N[k]? = some x) (hv : G7 X.env.scope x) (he : SX X c e p) (hline : (apos.endLine == cpos.line) = true := by rfl) (hs : starEach [e] X.env = (false, eval e X.env) :: starEach [] X.env := by rfl)
 (hbase : attributeBase (.Name x px) "append" X.env (eval (.Name x px) X.env) = eval (.Name x px) X.env := by rfl)
 (hfew : ((backTo cpos (starEach [e] X.env)).all (fun x => !x.1) && (backToKw cpos (keywordEach [] X.env)).all (fun x => x.1.isSome)
  && decide ([e].length + ([] : List Keyword).length + (if ([] : List Keyword).isEmpty then 0 else 1) < 30)) = true := by rfl)
 (hsw : swapsWith (.Call (.Attribute (.Name x px) "append" apos) [e] [] cpos) none pos.line X.env = pure false := by rfl)
 (hd : (x == ("__debug__" : Str)) = false := by decide) (hcd : (x == ("__classdict__" : Str)) = false := by decide) : SS X c n (.Expr (.Call (.Attribute (.Name x px) "append" apos) [e] [] cpos) pos) (.app k p) := by
 refine jb (wj (Ha PySem.F.plainAttrs_list PySem.F.slot_list_append PySem.F.type_list_append pD (qJ hN hv hd hcd) (bV he.ev eY hs) hbase hfew hline hs) hsw) ?_
 rintro D σ H ⟨F, ρ, fl, ρ', g, e, kk⟩
 rw [ex] at e
 obtain ⟨d0, ρ0, e0, e⟩ := aq e
 have zz := aM e0; clear e0; obtain ⟨e0, BV⟩ := zz
 subst BV
 obtain ⟨r, ρ1, e1, e⟩ := aq e
 obtain ⟨a, xs, h1, h2⟩ := wV g e0
 refine ⟨.ref a, h1, .inl ⟨rfl, xs, h2⟩, F, ρ, r, ρ1, g, e1, fun v F1 H1 s1 rr => ?_⟩
 obtain ⟨F2, s2, _, rp⟩ := s1.jc rr
 split at e
 . rename_i bb ds q
   split at e
   . rename_i hlt
     cases e
     obtain ⟨ad, ys, q1, q2, q3, q4⟩ := s2.gs.o9 k _ ds q rfl
     rw [h1] at q1; cases q1
     exact ⟨_, ys, v, rfl, rfl, q2, by rw [q4.length]; exact hlt, kk F2 σ _ (s2.trans (s2.gs.mut q h1 (q4.append (.cons rp .nil))))⟩
   . cases e
 . cases e
theorem zr {i j : Nat} {x y : Str} {px py pt : Pos} {kt k2 K5} (hc : X.calm = true) (hN : X.N.Nodup) (hi : X.N[i]? = some x) (hj : X.N[j]? = some y) (hij : i ≠ j)
 (hx : X.env.scope.names.lookup x = some .local) (hy : X.env.scope.names.lookup y = some .local) (ha : SX X c a pa) (hb : SX X c b pb)
 (hw : swappedStores [.Tuple [.Name x px, .Name y py] kt pt] (.Tuple [a, b] k2 K5) X.env = pure (some [x, y]) := by rfl)
 (hs : swapsWithSole [.Tuple [.Name x px, .Name y py] kt pt] (.Tuple [a, b] k2 K5) pos.line X.env = pure false := by rfl)
 (h1 : starEach [a, b] X.env = (false, eval a X.env) :: starEach [b] X.env := by rfl) (h2 : starEach [b] X.env = (false, eval b X.env) :: starEach [] X.env := by rfl) :
 SS X c n (.Assign [.Tuple [.Name x px, .Name y py] kt pt] (.Tuple [a, b] k2 K5) pos) (.par i j pa pb) := by
 refine jb (L2.Ja hc hN hi hj hij hx hy (bV ha.ev (bV hb.ev eY h2) h1) hw hs) ?_
 rintro D σ H ⟨F, ρ, fl, ρ', g, e, k⟩
 rw [ex] at e
 obtain ⟨r, ρ1, e1, e⟩ := aq e
 obtain ⟨r2, ρ2, e2, e⟩ := aq e
 obtain ⟨ρ3, ρ4, e3, e⟩ := aq e
 cases e
 have zz := aM e3; clear e3; obtain ⟨e3, e4⟩ := zz
 obtain ⟨ρ5, e5, e6⟩ := dZ e3
 refine ⟨F, ρ, r, ρ1, g, e1, fun v F1 H1 s1 rr => ?_⟩
 obtain ⟨F2, s2, _, rp⟩ := s1.jc rr
 refine ⟨F2, ρ1, r2, ρ2, s2.gs, e2, fun u F3 H3 s3 rr3 => ?_⟩
 obtain ⟨F4, s4, _, rp4⟩ := s3.jc rr3
 refine ⟨v, u, rfl, ?_⟩
 have t4 := s2.trans s4
 have t5 := t4.put (r := .val r.d) (v := v) (rp.mono s4.dX) e5
 exact k F4 _ H3 (t5.put (r := .val r2.d) (v := u) rp4 e6)
theorem Br {ds : List D} {bs : List Bool} (h : ds.mapM sO = some bs) : ds = bs.map D.bl := by
 induction ds generalizing bs with
 | nil => simp at h; subst h; rfl
 | cons d ds ih =>
   rw [List.mapM_cons] at h
   cases hd : sO d with
   | none => rw [hd] at h; cases h
   | some k =>
     rw [hd] at h
     cases hr : ds.mapM sO with
     | none => rw [hr] at h; cases h
     | some r => rw [hr] at h; cases h; rw [List.map_cons, <- ih hr, oh hd]
theorem wA {K : PySem.W.Frag} {F : Hp} : ∀ {bs : List Bool} {xs : List V}, aJ K F xs (bs.map D.bl) -> xs = bs.map V.bl
 | [], _, h => h.gh
 | k :: bs, _, h => by
   obtain ⟨v, r, rfl, h1, h2⟩ := h.cD
   rw [Rep] at h1
   rw [h1, wA h2]; rfl
theorem wW : ∀ {bs : List Bool} {us : List Value}, Vals (bs.map V.bl) us -> us = bs.map Value.bool
 | [], _, h => h.zero
 | k :: bs, _, .cons r t => by rw [List.map_cons, <- wW t, show _ = _ from r]
theorem Fj {id : String} {f : List Bool -> Bool} (hc : X.calm = true)
 (rule : ∀ {x : Value} {Q : Value -> Shared -> Prop} {s : Shared}, wpAny (model X.prog X.w) X.A.in1 (pyIter x) (fun it s₂ => ∃ I fp wr n P St tr, it = .ref I /\ Walks X.prog X.w X.A.in1 I fp wr n P St /\ St 0 s₂.heap /\ TruthOf X.prog X.w X.A.in1 P tr /\
  ∀ h' tk, (∀ b o, b ∉ wr -> s₂.heap.get? b = some o -> h'.get? b = some o) -> Q (.bool (f ((List.range n).map tr))) { s₂ with heap := h', toks := tk }) X.xe s -> wpAny (model X.prog X.w) X.A (call (.builtin id) [x]) Q X.xe s) :
 cR X (.builtin id) (fun xs H Q => ∃ p ys bs, xs = [.ref p] /\ fU X.K H p ys /\ ys = bs.map V.bl /\ Q (.bl (f bs)) H) := by
 rintro pins s σ H xs us Q I r ⟨p, ys, bs, hx, hq, hy, k⟩
 subst hx; subst hy
 obtain ⟨u, rfl, rx⟩ := r.one
 cases rx
 obtain ⟨its, rv, pl, hz⟩ := I.list hq
 have hits := wW rv
 subst hits
 refine rule (wpAny_pyIter_list pl.isList ?_)
 have hne : p ≠ s.heap.objs.size := by
  obtain ⟨o, h1, _⟩ := pl.isList
  exact Nat.ne_of_lt (Heap.lt_size h1)
 refine ⟨s.heap.objs.size, _, _, _, _, _, fun i => bs.getD i false, rfl, Walks.list (prog := X.prog) (w := X.w) (A := X.A.in1) (show X.A.in1.handled = none from I.ok.hd hc) s.heap.objs.size p hne (bs.map Value.bool).toArray, ⟨⟨_, Heap.get?_push_size _ rfl, rfl, rfl⟩, ?_⟩, ?_, fun h' tk kp => ?_⟩
 . obtain ⟨o, h1, h2⟩ := pl.isList
   exact ⟨o, Heap.get?_push_of_some _ h1, h2⟩
 . intro i v s' Q' E' hP hQ
   have hv : v = .bool (bs.getD i false) := by
    have hP : (bs.map Value.bool)[i]? = some v := by simpa using hP
    rw [List.getElem?_map] at hP
    obtain ⟨k', e1, e2⟩ := map_some hP
    rw [<- e2, List.getD_eq_getElem?_getD, e1]; rfl
   subst hv
   exact wpAny_truthy_bool hQ
 . have e : f ((List.range (bs.map Value.bool).toArray.size).map fun i => bs.getD i false) = f bs := by
    congr 1
    apply List.ext_getElem
    . simp
    . intro i h1 h2
      simp at h1
      simp [h1]
   rw [e]
   exact ⟨.bl _, H, I.kept (fun b o z => kp b o (by simp; exact Nat.ne_of_lt (Heap.lt_size z)) (Heap.get?_push_of_some _ z)), rfl, k⟩
theorem N6 (hc : X.calm = true) : cR X (.builtin "any") (Gu X.K fun x => blt .any [x]) := by
 rintro pins s σ H xs us Q I r ⟨x, hx, F, d, r', sm, px, he, k⟩
 obtain ⟨bs, e1, he⟩ := map_some (show ((lu d).bind fun ds => ds.mapM sO).map _ = some r' from he)
 subst he
 obtain ⟨ds, e2, e3⟩ := dZ e1
 have e4 := Br e3
 cases d with
 | lst es =>
   cases e2
   obtain ⟨p, ys, rfl, hq, rs⟩ := px.lst sm
   rw [e4] at rs
   refine Fj (f := fun bs => bs.any id) hc (fun h => call_any_walk (wpAny_mono h (fun it s₂ ⟨I, fp, wr, n, P, Sx, tr, h1, h2, h3, h4, h5⟩ => ⟨I, fp, wr, n, P, Sx, tr, h1, h2, h3, h4, fun h' tk kp => ?_⟩) fun _ _ z => z)) pins s σ H xs us Q I r ⟨p, ys, bs, hx, hq, wA rs, cA.dO sm (lQ _) k⟩
   have z := h5 h' tk kp
   rw [List.any_map] at z
   exact z
 | _ => cases e2
theorem boot_any : bootBuiltins "any" = some (.builtin "any") := by decide +kernel
theorem Hr {x : Str} {p' : Pos} (hx : x = "any") (hc : X.calm = true) (hg : Gl X x) (hm : X.mg x = none) (ha : SX X c a pa) (hs : starEach [a] X.env = (false, eval a X.env) :: starEach [] X.env := by rfl) : SX X c (.Call (.Name x p') [a] [] pos) (.blt .any [pa]) := by
 subst hx; exact oJ (fun h => cW (N6 hc) hg hm boot_any h (he := hs)) ha (fun ρ => by rw [HH.ev]) rfl hs
end
end HH
end
section
namespace HH
open PySem L2 PySem.Spec PyProof.Rows
section
variable {K : PySem.W.Frag}
theorem iw : ∀ {xs ys : List D}, xs.length ≠ ys.length -> eH xs ys = false
 | [], [], h => absurd rfl h
 | [], _ :: _, _ => by simp [eH]
 | _ :: _, [], _ => by simp [eH]
 | x :: xs, y :: ys, h => by
   rw [eH, iw (xs := xs) (ys := ys) (by simpa using h), Bool.and_false]
theorem fH : ∀ {xs ys : List D}, xs.length = ys.length -> eH xs ys = (List.range xs.length).all fun j => bz (xs.getD j .non) (ys.getD j .non)
 | [], [], _ => by rw [eH]; rfl
 | [], _ :: _, h => by simp at h
 | _ :: _, [], h => by simp at h
 | x :: xs, y :: ys, h => by
   rw [eH, fH (xs := xs) (ys := ys) (by simpa using h), List.length_cons, List.range_succ_eq_map, List.all_cons, List.all_map]
   rfl
mutual
theorem gZ : ∀ d : D, bz d d = true
 | .non => by rw [bz]
 | .bl _ => by rw [bz]; simp
 | .int _ => by rw [bz]; simp
 | .str _ => by rw [bz]; simp
 | .tup ds => by rw [bz]; exact lz ds
 | .lst ds => by rw [bz]; exact lz ds
 | .dB _ => by rw [bz]; simp
theorem lz : ∀ ds : List D, eH ds ds = true
 | [] => by rw [eH]
 | d :: ds => by rw [eH, gZ d, lz ds]; rfl
end
theorem dI {F : Hp} {d e : D} {v : V} (hf : flat d = true) (h1 : Rep K F v d) (h2 : Rep K F v e) : d = e := by
 cases d with
 | tup _ => cases hf
 | lst _ => cases hf
 | dB _ => cases hf
 | non =>
   rw [Rep] at h1; subst h1
   cases e with
   | non => rfl
   | tup _ => rw [Rep] at h2; obtain ⟨_, _, q, _⟩ := h2; cases q
   | lst _ => rw [Rep] at h2; obtain ⟨_, _, q, _⟩ := h2; cases q
   | dB _ => rw [Rep] at h2; obtain ⟨_, _, q, _⟩ := h2; cases q
   | _ => rw [Rep] at h2; cases h2
 | bl k =>
   rw [Rep] at h1; subst h1
   cases e with
   | bl _ => rw [Rep] at h2; cases h2; rfl
   | tup _ => rw [Rep] at h2; obtain ⟨_, _, q, _⟩ := h2; cases q
   | lst _ => rw [Rep] at h2; obtain ⟨_, _, q, _⟩ := h2; cases q
   | dB _ => rw [Rep] at h2; obtain ⟨_, _, q, _⟩ := h2; cases q
   | _ => rw [Rep] at h2; cases h2
 | int k =>
   rw [Rep] at h1; subst h1
   cases e with
   | int _ => rw [Rep] at h2; cases h2; rfl
   | tup _ => rw [Rep] at h2; obtain ⟨_, _, q, _⟩ := h2; cases q
   | lst _ => rw [Rep] at h2; obtain ⟨_, _, q, _⟩ := h2; cases q
   | dB _ => rw [Rep] at h2; obtain ⟨_, _, q, _⟩ := h2; cases q
   | _ => rw [Rep] at h2; cases h2
 | str k =>
   rw [Rep] at h1; subst h1
   cases e with
   | str _ => rw [Rep] at h2; cases h2; rfl
   | tup _ => rw [Rep] at h2; obtain ⟨_, _, q, _⟩ := h2; cases q
   | lst _ => rw [Rep] at h2; obtain ⟨_, _, q, _⟩ := h2; cases q
   | dB _ => rw [Rep] at h2; obtain ⟨_, _, q, _⟩ := h2; cases q
   | _ => rw [Rep] at h2; cases h2
theorem Es {X : Cx} {pins : List (Addr × Obj)} {σ : L2.St} {H F : Hp} {s : Shared} (I : L2.Inv X pins σ H s) (sm : aP F H) :
 ∀ n : Nat, (∀ d : D, cN n d = true -> ∀ (v : V) (e : D), Rep X.K F v d -> Rep X.K F v e -> d = e) := by
 have tl : ∀ {a : Addr} {xs ys : List V}, jr X.K F a xs -> fU X.K F a ys -> False := fun {a xs ys} h1 h2 => by
  obtain ⟨_, _, ⟨o, q1, q2, _⟩, _⟩ := I.tuple (aP.jz sm h1)
  obtain ⟨_, _, pl, _⟩ := I.list (sm.seq h2)
  obtain ⟨o', q3, q4, _⟩ := pl.isList
  rw [q1] at q3; cases q3
  rw [q2] at q4
  exact absurd q4 (by decide)
 have dd : ∀ {a : Addr} {kvs : Dc}, Rep X.K F (.ref a) (.dB kvs) -> ∃ o, s.heap.get? a = some o /\ o.cls = .type "dict" := fun {a kvs} h => by
  rw [Rep] at h
  obtain ⟨a', _, q, hq⟩ := h
  cases q
  exact Ag I (sm _ _ hq)
 have td : ∀ {a : Addr} {xs : List V} {kvs : Dc}, jr X.K F a xs -> Rep X.K F (.ref a) (.dB kvs) -> False := fun {a xs kvs} h1 h2 => by
  obtain ⟨_, _, ⟨o, q1, q2, _⟩, _⟩ := I.tuple (aP.jz sm h1)
  obtain ⟨o', q3, q4⟩ := dd h2
  rw [q1] at q3; cases q3
  rw [q2] at q4
  exact absurd q4 (by decide)
 have ld : ∀ {a : Addr} {xs : List V} {kvs : Dc}, fU X.K F a xs -> Rep X.K F (.ref a) (.dB kvs) -> False := fun {a xs kvs} h1 h2 => by
  obtain ⟨_, _, pl, _⟩ := I.list (sm.seq h1)
  obtain ⟨o, q1, q2, _⟩ := pl.isList
  obtain ⟨o', q3, q4⟩ := dd h2
  rw [q1] at q3; cases q3
  rw [q2] at q4
  exact absurd q4 (by decide)
 intro n
 induction n with
 | zero =>
   intro d hd v e h1 h2
   cases d with
   | tup _ => simp [cN] at hd
   | lst _ => simp [cN] at hd
   | dB _ => simp [cN] at hd
   | non => exact dI rfl h1 h2
   | bl k => exact dI rfl h1 h2
   | int k => exact dI rfl h1 h2
   | str k => exact dI rfl h1 h2
 | succ n ih =>
   have all : ∀ {xs : List V} {ds es : List D}, ds.all (cN n) = true -> aJ X.K F xs ds -> aJ X.K F xs es -> ds = es := fun {xs ds} => by
    induction ds generalizing xs with
    | nil =>
      intro es _ h1 h2
      rw [h1.gh] at h2
      have := h2.length
      exact (List.eq_nil_of_length_eq_zero this.symm).symm
    | cons d ds ih2 =>
      intro es ha h1 h2
      rw [List.all_cons, Bool.and_eq_true] at ha
      obtain ⟨v, r, rfl, q1, q2⟩ := h1.cD
      cases es with
      | nil => cases h2.gh
      | cons e es =>
        obtain ⟨v', r', q0, q3, q4⟩ := h2.cD
        cases q0
        rw [ih d ha.1 v e q1 q3, ih2 ha.2 q2 q4]
   intro d hd v e h1 h2
   cases d with
   | dB _ => simp [cN] at hd
   | tup ds =>
     have ha : ds.all (cN n) = true := by simpa [cN] using hd
     rw [Rep] at h1
     obtain ⟨a, xs, rfl, z1, z2⟩ := h1
     cases e with
     | tup es =>
       rw [Rep] at h2
       obtain ⟨a', ys, q, w1, w2⟩ := h2
       cases q
       have := I.pG (aP.jz sm z1) (aP.jz sm w1)
       subst this
       rw [all ha z2 w2]
     | lst es => rw [Rep] at h2; obtain ⟨a', ys, q, w1, w2⟩ := h2; cases q; exact (tl z1 w1).elim
     | dB _ => exact (td z1 h2).elim
     | _ => rw [Rep] at h2; cases h2
   | lst ds =>
     have ha : ds.all (cN n) = true := by simpa [cN] using hd
     rw [Rep] at h1
     obtain ⟨a, xs, rfl, z1, z2⟩ := h1
     cases e with
     | lst es =>
       rw [Rep] at h2
       obtain ⟨a', ys, q, w1, w2⟩ := h2
       cases q
       have := I.rZ (sm.seq z1) (sm.seq w1)
       subst this
       rw [all ha z2 w2]
     | tup es => rw [Rep] at h2; obtain ⟨a', ys, q, w1, w2⟩ := h2; cases q; exact (tl w1 z1).elim
     | dB _ => exact (ld z1 h2).elim
     | _ => rw [Rep] at h2; cases h2
   | non => exact dI rfl h1 h2
   | bl k => exact dI rfl h1 h2
   | int k => exact dI rfl h1 h2
   | str k => exact dI rfl h1 h2
theorem wM {A : Around} {s : Shared} {F : Hp} {d e : D} {v u : V} {v' u' : Value} (hd : flat d = true) (he : flat e = true) (h1 : Rep K F v d) (h2 : Rep K F u e) (r1 : RelV v v') (r2 : RelV u u') : SeqAt.EqAt A s v' u' (bz d e) := by
 cases d with
 | tup _ => cases hd
 | lst _ => cases hd
 | dB _ => cases hd
 | non =>
   rw [Rep] at h1; subst h1; cases (show v' = .none from r1)
   cases e with
   | tup _ => cases he
   | lst _ => cases he
   | dB _ => cases he
   | non => rw [Rep] at h2; subst h2; cases (show u' = .none from r2); rw [bz]; exact SeqAt.EqAt.same _
   | bl _ => rw [Rep] at h2; subst h2; cases (show u' = .bool _ from r2); simp only [bz]; exact SeqAt.EqAt.none_bool _
   | int _ => rw [Rep] at h2; subst h2; obtain ⟨t, rfl⟩ := r2; simp only [bz]; exact SeqAt.EqAt.none_int _ _
   | str _ => rw [Rep] at h2; subst h2; obtain ⟨t, rfl⟩ := r2; simp only [bz]; exact SeqAt.EqAt.none_str _ _
 | bl _ =>
   rw [Rep] at h1; subst h1; cases (show v' = .bool _ from r1)
   cases e with
   | tup _ => cases he
   | lst _ => cases he
   | dB _ => cases he
   | non => rw [Rep] at h2; subst h2; cases (show u' = .none from r2); simp only [bz]; exact SeqAt.EqAt.bool_none _
   | bl _ => rw [Rep] at h2; subst h2; cases (show u' = .bool _ from r2); simp only [bz]; exact SeqAt.EqAt.bool_bool _ _
   | int _ => rw [Rep] at h2; subst h2; obtain ⟨t, rfl⟩ := r2; simp only [bz]; exact SeqAt.EqAt.bool_int _ _ _
   | str _ => rw [Rep] at h2; subst h2; obtain ⟨t, rfl⟩ := r2; simp only [bz]; exact SeqAt.EqAt.bool_str _ _ _
 | int _ =>
   rw [Rep] at h1; subst h1; obtain ⟨t0, rfl⟩ := r1
   cases e with
   | tup _ => cases he
   | lst _ => cases he
   | dB _ => cases he
   | non => rw [Rep] at h2; subst h2; cases (show u' = .none from r2); simp only [bz]; exact SeqAt.EqAt.int_none _ _
   | bl _ => rw [Rep] at h2; subst h2; cases (show u' = .bool _ from r2); simp only [bz]; exact SeqAt.EqAt.int_bool _ _ _
   | int _ => rw [Rep] at h2; subst h2; obtain ⟨t, rfl⟩ := r2; simp only [bz]; exact SeqAt.EqAt.int_int _ _ _ _
   | str _ => rw [Rep] at h2; subst h2; obtain ⟨t, rfl⟩ := r2; simp only [bz]; exact SeqAt.EqAt.int_str _ _ _ _
 | str _ =>
   rw [Rep] at h1; subst h1; obtain ⟨t0, rfl⟩ := r1
   cases e with
   | tup _ => cases he
   | lst _ => cases he
   | dB _ => cases he
   | non => rw [Rep] at h2; subst h2; cases (show u' = .none from r2); simp only [bz]; exact SeqAt.EqAt.str_none _ _
   | bl _ => rw [Rep] at h2; subst h2; cases (show u' = .bool _ from r2); simp only [bz]; exact SeqAt.EqAt.str_bool _ _ _
   | int _ => rw [Rep] at h2; subst h2; obtain ⟨t, rfl⟩ := r2; simp only [bz]; exact SeqAt.EqAt.str_int _ _ _ _
   | str _ => rw [Rep] at h2; subst h2; obtain ⟨t, rfl⟩ := r2; simp only [bz]; exact SeqAt.EqAt.str_str _ _ _ _
theorem jP {A : Around} {s : Shared} {F : Hp} {ds : List D} {e : D} {u : V} {u' : Value} {a : Addr} {its : Array Value} (ht : s.heap.IsTuple a its) (hu : A.units < cLine) (he : flat e = true) (h2 : Rep K F u e) (r2 : RelV u u') :
 SeqAt.EqAt A s (.ref a) u' (bz (.tup ds) e) /\ SeqAt.EqAt A s u' (.ref a) (bz e (.tup ds)) := by
 cases e with
 | tup _ => cases he
 | lst _ => cases he
 | dB _ => cases he
 | non => rw [Rep] at h2; subst h2; cases (show u' = .none from r2); simp only [bz]; exact ⟨SeqAt.EqAt.tuple_none ht hu, SeqAt.EqAt.none_tuple ht hu⟩
 | bl _ => rw [Rep] at h2; subst h2; cases (show u' = .bool _ from r2); simp only [bz]; exact ⟨SeqAt.EqAt.tuple_bool _ ht hu, SeqAt.EqAt.bool_tuple _ ht hu⟩
 | int _ => rw [Rep] at h2; subst h2; obtain ⟨t, rfl⟩ := r2; simp only [bz]; exact ⟨SeqAt.EqAt.tuple_int _ _ ht hu, SeqAt.EqAt.int_tuple _ _ ht hu⟩
 | str _ => rw [Rep] at h2; subst h2; obtain ⟨t, rfl⟩ := r2; simp only [bz]; exact ⟨SeqAt.EqAt.tuple_str _ _ ht hu, SeqAt.EqAt.str_tuple _ _ ht hu⟩
theorem jJ {A : Around} {s : Shared} {F : Hp} {ds : List D} {e : D} {u : V} {u' : Value} {a : Addr} {its : Array Value} (ht : s.heap.IsList a its) (hu : A.units < cLine) (he : flat e = true) (h2 : Rep K F u e) (r2 : RelV u u') :
 SeqAt.EqAt A s (.ref a) u' (bz (.lst ds) e) /\ SeqAt.EqAt A s u' (.ref a) (bz e (.lst ds)) := by
 cases e with
 | tup _ => cases he
 | lst _ => cases he
 | dB _ => cases he
 | non => rw [Rep] at h2; subst h2; cases (show u' = .none from r2); simp only [bz]; exact ⟨SeqAt.EqAt.list_none ht hu, SeqAt.EqAt.none_list ht hu⟩
 | bl _ => rw [Rep] at h2; subst h2; cases (show u' = .bool _ from r2); simp only [bz]; exact ⟨SeqAt.EqAt.list_bool _ ht hu, SeqAt.EqAt.bool_list _ ht hu⟩
 | int _ => rw [Rep] at h2; subst h2; obtain ⟨t, rfl⟩ := r2; simp only [bz]; exact ⟨SeqAt.EqAt.list_int _ _ ht hu, SeqAt.EqAt.int_list _ _ ht hu⟩
 | str _ => rw [Rep] at h2; subst h2; obtain ⟨t, rfl⟩ := r2; simp only [bz]; exact ⟨SeqAt.EqAt.list_str _ _ ht hu, SeqAt.EqAt.str_list _ _ ht hu⟩
theorem tO {n : Nat} {d : D} (h : cN n d = true) (h0 : n = 0) : flat d = true := by
 subst h0; cases d <;> first | rfl | simp [cN] at h
theorem Vn {X : Cx} {pins : List (Addr × Obj)} {σ : L2.St} {H F : Hp} {s : Shared} (I : L2.Inv X pins σ H s) (sm : aP F H) : ∀ (n : Nat) (A : Around), A.units + n < cLine -> ∀ (d e : D), cN n d = true -> cN n e = true -> ∀ (v u : V) (v' u' : Value),
 Rep X.K F v d -> Rep X.K F u e -> RelV v v' -> RelV u u' -> SeqAt.EqAt A s v' u' (bz d e) := by
 intro n
 induction n with
 | zero =>
   intro A hu d e hd he v u v' u' h1 h2 r1 r2
   exact wM (tO hd rfl) (tO he rfl) h1 h2 r1 r2
 | succ n ih =>
   intro A hu d e hd he v u v' u' h1 h2 r1 r2
   have hu0 : A.units < cLine := by omega
   have hu1 : A.in1.units + n < cLine := by show A.units + 1 + n < cLine; omega
   -- items by place
   have at_ : ∀ {xs ys : List V} {us ws : List Value} {ds es : List D} {j : Nat} (k1 : j < us.toArray.size) (k2 : j < ws.toArray.size), ds.all (cN n) = true -> es.all (cN n) = true -> Vals xs us -> Vals ys ws -> aJ X.K F xs ds -> aJ X.K F ys es ->
    SeqAt.EqAt A.in1 s us.toArray[j] ws.toArray[j] (bz (ds.getD j .non) (es.getD j .non)) := fun {xs ys us ws ds es j} k1 k2 a1 a2 v1 v2 p1 p2 => by
    have k1 : j < us.length := by simpa using k1
    have k2 : j < ws.length := by simpa using k2
    have l1 : j < ds.length := by rw [<- p1.length, v1.length]; exact k1
    have l2 : j < es.length := by rw [<- p2.length, v2.length]; exact k2
    obtain ⟨x, g1, g2⟩ := p1.get (show ds[j]? = some ds[j] by simp [l1])
    obtain ⟨y, g3, g4⟩ := p2.get (show es[j]? = some es[j] by simp [l2])
    obtain ⟨x', g5, g6⟩ := v1.get g1
    obtain ⟨y', g7, g8⟩ := v2.get g3
    have e1 : us.toArray[j] = x' := by have := (List.getElem?_eq_some_iff.mp g5).2; simpa using this
    have e2 : ws.toArray[j] = y' := by have := (List.getElem?_eq_some_iff.mp g7).2; simpa using this
    have e3 : ds.getD j .non = ds[j] := by simp [List.getD, l1]
    have e4 : es.getD j .non = es[j] := by simp [List.getD, l2]
    rw [e1, e2, e3, e4]
    exact ih A.in1 hu1 _ _ (List.all_eq_true.mp a1 _ (List.getElem_mem l1)) (List.all_eq_true.mp a2 _ (List.getElem_mem l2)) x y x' y' g2 g4 g6 g8
   -- the same object
   have same : ∀ {a : Addr}, v = .ref a -> u = .ref a -> SeqAt.EqAt A s v' u' (bz d e) := fun {a} q1 q2 => by
    subst q1; subst q2
    have := Es I sm (n + 1) d hd _ e h1 h2
    subst this
    rw [gZ]
    cases r1; cases r2
    exact SeqAt.EqAt.same _
   cases d with
   | dB _ => simp [cN] at hd
   | tup ds =>
     have ha : ds.all (cN n) = true := by simpa [cN] using hd
     have h1' := h1
     rw [Rep] at h1'
     obtain ⟨a, xs, rfl, z1, z2⟩ := h1'
     cases r1
     obtain ⟨us, v1, p1, _⟩ := I.tuple (aP.jz sm z1)
     cases e with
     | dB _ => simp [cN] at he
     | tup es =>
       have hb : es.all (cN n) = true := by simpa [cN] using he
       have h2' := h2
       rw [Rep] at h2'
       obtain ⟨b, ys, rfl, w1, w2⟩ := h2'
       by_cases hab : a = b
       . subst hab; exact same rfl rfl
       . cases r2
         obtain ⟨ws, v2, p2, _⟩ := I.tuple (aP.jz sm w1)
         refine .of_refs hab ?_
         have z := SeqAt.RcAt.tuples (A := A) (e := fun j => bz (ds.getD j .non) (es.getD j .non)) p1 p2 hu0 fun j k1 k2 => at_ k1 k2 ha hb v1 v2 z2 w2
         have l1 : us.toArray.size = ds.length := by rw [List.size_toArray, <- v1.length, z2.length]
         have l2 : ws.toArray.size = es.length := by rw [List.size_toArray, <- v2.length, w2.length]
         rw [l1, l2] at z
         have e0 : bz (.tup ds) (.tup es) = ((List.range (min ds.length es.length)).all (fun j => bz (ds.getD j .non) (es.getD j .non)) && ds.length == es.length) := by
          rw [bz]
          by_cases hl : ds.length = es.length
          . rw [fH hl, hl]; simp
          . rw [iw hl]
            have : (ds.length == es.length) = false := by simpa using hl
            rw [this, Bool.and_false]
         rw [e0]
         exact z
     | lst es =>
       rw [Rep] at h2
       obtain ⟨b, ys, rfl, w1, w2⟩ := h2
       cases r2
       obtain ⟨ws, v2, p2, _⟩ := I.list (sm.seq w1)
       simp only [bz]
       exact SeqAt.EqAt.tuple_list p1 p2.isList hu0
     | non => exact (jP p1 hu0 rfl h2 r2).1
     | bl _ => exact (jP p1 hu0 rfl h2 r2).1
     | int _ => exact (jP p1 hu0 rfl h2 r2).1
     | str _ => exact (jP p1 hu0 rfl h2 r2).1
   | lst ds =>
     have ha : ds.all (cN n) = true := by simpa [cN] using hd
     have h1' := h1
     rw [Rep] at h1'
     obtain ⟨a, xs, rfl, z1, z2⟩ := h1'
     cases r1
     obtain ⟨us, v1, p1, _⟩ := I.list (sm.seq z1)
     cases e with
     | dB _ => simp [cN] at he
     | lst es =>
       have hb : es.all (cN n) = true := by simpa [cN] using he
       have h2' := h2
       rw [Rep] at h2'
       obtain ⟨b, ys, rfl, w1, w2⟩ := h2'
       by_cases hab : a = b
       . subst hab; exact same rfl rfl
       . cases r2
         obtain ⟨ws, v2, p2, _⟩ := I.list (sm.seq w1)
         refine .of_refs hab ?_
         have l1 : us.toArray.size = ds.length := by rw [List.size_toArray, <- v1.length, z2.length]
         have l2 : ws.toArray.size = es.length := by rw [List.size_toArray, <- v2.length, w2.length]
         rw [bz]
         by_cases hl : ds.length = es.length
         . have z := SeqAt.RcAt.lists (A := A) (e := fun j => bz (ds.getD j .non) (es.getD j .non)) p1.isList p2.isList (by rw [l1, l2, hl]) hu0 fun j k1 k2 => at_ k1 k2 ha hb v1 v2 z2 w2
           rw [l1] at z
           rw [fH hl]
           exact z
         . rw [iw hl]
           exact SeqAt.RcAt.lists_lengths p1.isList p2.isList (by rw [l1, l2]; simpa using hl) hu0
     | tup es =>
       rw [Rep] at h2
       obtain ⟨b, ys, rfl, w1, w2⟩ := h2
       cases r2
       obtain ⟨ws, v2, p2, _⟩ := I.tuple (aP.jz sm w1)
       simp only [bz]
       exact SeqAt.EqAt.list_tuple p1.isList p2 hu0
     | non => exact (jJ p1.isList hu0 rfl h2 r2).1
     | bl _ => exact (jJ p1.isList hu0 rfl h2 r2).1
     | int _ => exact (jJ p1.isList hu0 rfl h2 r2).1
     | str _ => exact (jJ p1.isList hu0 rfl h2 r2).1
   | non | bl _ | int _ | str _ =>
     cases e with
     | dB _ => simp [cN] at he
     | tup es =>
       rw [Rep] at h2
       obtain ⟨b, ys, rfl, w1, w2⟩ := h2
       cases r2
       obtain ⟨ws, v2, p2, _⟩ := I.tuple (aP.jz sm w1)
       exact (jP p2 hu0 rfl h1 r1).2
     | lst es =>
       rw [Rep] at h2
       obtain ⟨b, ys, rfl, w1, w2⟩ := h2
       cases r2
       obtain ⟨ws, v2, p2, _⟩ := I.list (sm.seq w1)
       exact (jJ p2.isList hu0 rfl h1 r1).2
     | _ => exact wM rfl rfl h1 h2 r1 r2
end
end HH
end
section
namespace HH
open PySem L2 PySem.Spec PyProof.Rows
section
variable {X : Cx} {pins : List (Addr × Obj)} {σ : L2.St} {H F : Hp} {s : Shared} {A : Around}
noncomputable abbrev RC (A : Around) (s : Shared) (v u : Value) (k : Bool) : Prop := SeqAt.RcAt A s v u k /\ SeqAt.RcNeAt A s v u (!k)
inductive Top (X : Cx) (F H : Hp) (s : Shared) : Value -> D -> Prop where
 | non : Top X F H s .none .non
 | bl (b : Bool) : Top X F H s (.bool b) (.bl b)
 | int (i : Int) (t : Tok) : Top X F H s (.int i t) (.int i)
 | str (x : Str) (t : Tok) : Top X F H s (.str x t) (.str x)
 | tup {a : Addr} {us : List Value} {xs : List V} {ds : List D} (ht : s.heap.IsTuple a us.toArray) (hv : Vals xs us) (hr : aJ X.K F xs ds) : Top X F H s (.ref a) (.tup ds)
 | lst {a : Addr} {us : List Value} {xs : List V} {ds : List D} (ht : s.heap.IsList a us.toArray) (hv : Vals xs us) (hr : aJ X.K F xs ds) : Top X F H s (.ref a) (.lst ds)
theorem rB (I : L2.Inv X pins σ H s) (sm : aP F H) {v : V} {v' : Value} {d : D} (hd : cN 8 d = true) (h : dq X.K F H v d) (r : RelV v v') : Top X F H s v' d := by
 cases d with
 | dB _ => simp [cN] at hd
 | non => rw [h.non] at r; cases r; exact .non
 | bl b => rw [h.bl] at r; cases r; exact .bl b
 | int i => rw [h.int] at r; obtain ⟨t, rfl⟩ := r; exact .int i t
 | str x => rw [h.str] at r; obtain ⟨t, rfl⟩ := r; exact .str x t
 | tup ds =>
   obtain ⟨a, xs, rfl, h1, h2, _⟩ := h.tup sm
   cases r
   obtain ⟨us, v1, p1, _⟩ := I.tuple h1
   exact .tup p1 v1 h2
 | lst ds =>
   obtain ⟨a, xs, rfl, h1, h2⟩ := h.lst sm
   cases r
   obtain ⟨us, v1, p1, _⟩ := I.list h1
   exact .lst p1.isList v1 h2
theorem P0 (I : L2.Inv X pins σ H s) (sm : aP F H) {n : Nat} (hu : A.units + (n + 1) < cLine) {d e : D} (hd : cN (n + 1) d = true) (he : cN (n + 1) e = true) {v' u' : Value} (h1 : Top X F H s v' d) (h2 : Top X F H s u' e) : RC A s v' u' (bz d e) := by
 have hu0 : A.units < cLine := by omega
 have hu1 : A.in1.units + n < cLine := by show A.units + 1 + n < cLine; omega
 have at_ : ∀ {xs ys : List V} {us ws : List Value} {ds es : List D} {j : Nat} (k1 : j < us.toArray.size) (k2 : j < ws.toArray.size), ds.all (cN n) = true -> es.all (cN n) = true -> Vals xs us -> Vals ys ws -> aJ X.K F xs ds -> aJ X.K F ys es ->
  SeqAt.EqAt A.in1 s us.toArray[j] ws.toArray[j] (bz (ds.getD j .non) (es.getD j .non)) := fun {xs ys us ws ds es j} k1 k2 a1 a2 v1 v2 p1 p2 => by
  have k1 : j < us.length := by simpa using k1
  have k2 : j < ws.length := by simpa using k2
  have l1 : j < ds.length := by rw [<- p1.length, v1.length]; exact k1
  have l2 : j < es.length := by rw [<- p2.length, v2.length]; exact k2
  obtain ⟨x, g1, g2⟩ := p1.get (show ds[j]? = some ds[j] by simp [l1])
  obtain ⟨y, g3, g4⟩ := p2.get (show es[j]? = some es[j] by simp [l2])
  obtain ⟨x', g5, g6⟩ := v1.get g1
  obtain ⟨y', g7, g8⟩ := v2.get g3
  have e1 : us.toArray[j] = x' := by have := (List.getElem?_eq_some_iff.mp g5).2; simpa using this
  have e2 : ws.toArray[j] = y' := by have := (List.getElem?_eq_some_iff.mp g7).2; simpa using this
  have e3 : ds.getD j .non = ds[j] := by simp [List.getD, l1]
  have e4 : es.getD j .non = es[j] := by simp [List.getD, l2]
  rw [e1, e2, e3, e4]
  exact Vn I sm n A.in1 hu1 _ _ (List.all_eq_true.mp a1 _ (List.getElem_mem l1)) (List.all_eq_true.mp a2 _ (List.getElem_mem l2)) x y x' y' g2 g4 g6 g8
 cases h1 with
 | non =>
   cases h2 with
   | non => simp only [bz]; exact ⟨SeqAt.RcAt.none_none, SeqAt.RcNeAt.none_none⟩
   | bl b => simp only [bz]; exact ⟨SeqAt.RcAt.none_bool _, SeqAt.RcNeAt.none_bool _⟩
   | int i t => simp only [bz]; exact ⟨SeqAt.RcAt.none_int _ _, SeqAt.RcNeAt.none_int _ _⟩
   | str i t => simp only [bz]; exact ⟨SeqAt.RcAt.none_str _ _, SeqAt.RcNeAt.none_str _ _⟩
   | tup ht _ _ => simp only [bz]; exact ⟨SeqAt.RcAt.none_tuple ht hu0, SeqAt.RcNeAt.none_tuple ht hu0⟩
   | lst ht _ _ => simp only [bz]; exact ⟨SeqAt.RcAt.none_list ht hu0, SeqAt.RcNeAt.none_list ht hu0⟩
 | bl b0 =>
   cases h2 with
   | non => simp only [bz]; exact ⟨SeqAt.RcAt.bool_none _, SeqAt.RcNeAt.bool_none _⟩
   | bl b => simp only [bz]; exact ⟨SeqAt.RcAt.bool_bool _ _, SeqAt.RcNeAt.bool_bool _ _⟩
   | int i t => simp only [bz]; exact ⟨SeqAt.RcAt.bool_int _ _ _, SeqAt.RcNeAt.bool_int _ _ _⟩
   | str i t => simp only [bz]; exact ⟨SeqAt.RcAt.bool_str _ _ _, SeqAt.RcNeAt.bool_str _ _ _⟩
   | tup ht _ _ => simp only [bz]; exact ⟨SeqAt.RcAt.bool_tuple _ ht hu0, SeqAt.RcNeAt.bool_tuple _ ht hu0⟩
   | lst ht _ _ => simp only [bz]; exact ⟨SeqAt.RcAt.bool_list _ ht hu0, SeqAt.RcNeAt.bool_list _ ht hu0⟩
 | int i0 t0 =>
   cases h2 with
   | non => simp only [bz]; exact ⟨SeqAt.RcAt.int_none _ _, SeqAt.RcNeAt.int_none _ _⟩
   | bl b => simp only [bz]; exact ⟨SeqAt.RcAt.int_bool _ _ _, SeqAt.RcNeAt.int_bool _ _ _⟩
   | int i t => simp only [bz]; exact ⟨SeqAt.RcAt.int_int _ _ _ _, SeqAt.RcNeAt.int_int _ _ _ _⟩
   | str i t => simp only [bz]; exact ⟨SeqAt.RcAt.int_str _ _ _ _, SeqAt.RcNeAt.int_str _ _ _ _⟩
   | tup ht _ _ => simp only [bz]; exact ⟨SeqAt.RcAt.int_tuple _ _ ht hu0, SeqAt.RcNeAt.int_tuple _ _ ht hu0⟩
   | lst ht _ _ => simp only [bz]; exact ⟨SeqAt.RcAt.int_list _ _ ht hu0, SeqAt.RcNeAt.int_list _ _ ht hu0⟩
 | str i0 t0 =>
   cases h2 with
   | non => simp only [bz]; exact ⟨SeqAt.RcAt.str_none _ _, SeqAt.RcNeAt.str_none _ _⟩
   | bl b => simp only [bz]; exact ⟨SeqAt.RcAt.str_bool _ _ _, SeqAt.RcNeAt.str_bool _ _ _⟩
   | int i t => simp only [bz]; exact ⟨SeqAt.RcAt.str_int _ _ _ _, SeqAt.RcNeAt.str_int _ _ _ _⟩
   | str i t => simp only [bz]; exact ⟨SeqAt.RcAt.str_str _ _ _ _, SeqAt.RcNeAt.str_str _ _ _ _⟩
   | tup ht _ _ => simp only [bz]; exact ⟨SeqAt.RcAt.str_tuple _ _ ht hu0, SeqAt.RcNeAt.str_tuple _ _ ht hu0⟩
   | lst ht _ _ => simp only [bz]; exact ⟨SeqAt.RcAt.str_list _ _ ht hu0, SeqAt.RcNeAt.str_list _ _ ht hu0⟩
 | @tup a us xs ds ht hv hr =>
   have ha : ds.all (cN n) = true := by simpa [cN] using hd
   cases h2 with
   | non => simp only [bz]; exact ⟨SeqAt.RcAt.tuple_none ht hu0, SeqAt.RcNeAt.tuple_none ht hu0⟩
   | bl b => simp only [bz]; exact ⟨SeqAt.RcAt.tuple_bool _ ht hu0, SeqAt.RcNeAt.tuple_bool _ ht hu0⟩
   | int i t => simp only [bz]; exact ⟨SeqAt.RcAt.tuple_int _ _ ht hu0, SeqAt.RcNeAt.tuple_int _ _ ht hu0⟩
   | str i t => simp only [bz]; exact ⟨SeqAt.RcAt.tuple_str _ _ ht hu0, SeqAt.RcNeAt.tuple_str _ _ ht hu0⟩
   | lst yR _ _ => simp only [bz]; exact ⟨SeqAt.RcAt.tuple_list ht yR hu0, SeqAt.RcNeAt.tuple_list ht yR hu0⟩
   | @tup b ws ys es yR hv2 hr2 =>
     have hb : es.all (cN n) = true := by simpa [cN] using he
     have l1 : us.toArray.size = ds.length := by rw [List.size_toArray, <- hv.length, hr.length]
     have l2 : ws.toArray.size = es.length := by rw [List.size_toArray, <- hv2.length, hr2.length]
     have z1 := SeqAt.RcAt.tuples (A := A) (e := fun j => bz (ds.getD j .non) (es.getD j .non)) ht yR hu0 fun j k1 k2 => at_ k1 k2 ha hb hv hv2 hr hr2
     have z2 := SeqAt.RcNeAt.tuples (A := A) (e := fun j => bz (ds.getD j .non) (es.getD j .non)) ht yR hu0 fun j k1 k2 => at_ k1 k2 ha hb hv hv2 hr hr2
     rw [l1, l2] at z1 z2
     have e0 : bz (.tup ds) (.tup es) = ((List.range (min ds.length es.length)).all (fun j => bz (ds.getD j .non) (es.getD j .non)) && ds.length == es.length) := by
      rw [bz]
      by_cases hl : ds.length = es.length
      . rw [fH hl, hl]; simp
      . rw [iw hl]
        have : (ds.length == es.length) = false := by simpa using hl
        rw [this, Bool.and_false]
     rw [e0]
     exact ⟨z1, z2⟩
 | @lst a us xs ds ht hv hr =>
   have ha : ds.all (cN n) = true := by simpa [cN] using hd
   cases h2 with
   | non => simp only [bz]; exact ⟨SeqAt.RcAt.list_none ht hu0, SeqAt.RcNeAt.list_none ht hu0⟩
   | bl b => simp only [bz]; exact ⟨SeqAt.RcAt.list_bool _ ht hu0, SeqAt.RcNeAt.list_bool _ ht hu0⟩
   | int i t => simp only [bz]; exact ⟨SeqAt.RcAt.list_int _ _ ht hu0, SeqAt.RcNeAt.list_int _ _ ht hu0⟩
   | str i t => simp only [bz]; exact ⟨SeqAt.RcAt.list_str _ _ ht hu0, SeqAt.RcNeAt.list_str _ _ ht hu0⟩
   | tup yR _ _ => simp only [bz]; exact ⟨SeqAt.RcAt.list_tuple ht yR hu0, SeqAt.RcNeAt.list_tuple ht yR hu0⟩
   | @lst b ws ys es yR hv2 hr2 =>
     have hb : es.all (cN n) = true := by simpa [cN] using he
     have l1 : us.toArray.size = ds.length := by rw [List.size_toArray, <- hv.length, hr.length]
     have l2 : ws.toArray.size = es.length := by rw [List.size_toArray, <- hv2.length, hr2.length]
     rw [show bz (.lst ds) (.lst es) = eH ds es by rw [bz]]
     by_cases hl : ds.length = es.length
     . have z1 := SeqAt.RcAt.lists (A := A) (e := fun j => bz (ds.getD j .non) (es.getD j .non)) ht yR (by rw [l1, l2, hl]) hu0 fun j k1 k2 => at_ k1 k2 ha hb hv hv2 hr hr2
       have z2 := SeqAt.RcNeAt.lists (A := A) (e := fun j => bz (ds.getD j .non) (es.getD j .non)) ht yR (by rw [l1, l2, hl]) hu0 fun j k1 k2 => at_ k1 k2 ha hb hv hv2 hr hr2
       rw [l1] at z1 z2
       rw [fH hl]
       exact ⟨z1, z2⟩
     . rw [iw hl]
       exact ⟨SeqAt.RcAt.lists_lengths ht yR (by rw [l1, l2]; simpa using hl) hu0, SeqAt.RcNeAt.lists_lengths ht yR (by rw [l1, l2]; simpa using hl) hu0⟩
theorem jl (hu : X.A.units + 8 < cLine) : gF X (compareOp .Eq) (rD X.K (vL .eq)) := by
 rintro pins s σ H x y v u Q I rx ry ⟨F, d, e, r, sm, px, py, he, k⟩
 obtain ⟨t, e1, e2⟩ := map_some (show (sY d e).map _ = some r from he)
 subst e2
 unfold sY at e1
 obtain ⟨hd, e1⟩ := bH e1
 rw [Bool.and_eq_true] at hd
 subst e1
 exact (P0 I sm (n := 7) hu hd.1 hd.2 (rB I sm hd.1 px rx) (rB I sm hd.2 py ry)).1 _ _ _ _ ⟨.bl _, H, I, rfl, cA.dO sm (lQ _) k⟩
theorem kW (hu : X.A.units + 8 < cLine) : gF X (compareOp .NotEq) (rD X.K (vL .ne)) := by
 rintro pins s σ H x y v u Q I rx ry ⟨F, d, e, r, sm, px, py, he, k⟩
 obtain ⟨t, e1, e2⟩ := map_some (show (qp d e).map _ = some r from he)
 subst e2
 unfold qp at e1
 obtain ⟨hd, e1⟩ := bH e1
 rw [Bool.and_eq_true] at hd
 subst e1
 exact (P0 I sm (n := 7) hu hd.1 hd.2 (rB I sm hd.1 px rx) (rB I sm hd.2 py ry)).2 _ _ _ _ ⟨.bl _, H, I, rfl, cA.dO sm (lQ _) k⟩
end
end HH
end
section
namespace HH
open PySem L2 PySem.Spec PyProof.Rows
section
variable {Pg : Program} {w : World} {K : PySem.W.Frag} {mg : Str -> Option Value} {base : Heap}
theorem cG {x qual : Str} {st : Stmt} {f : Addr} {fd : FuncData} {N ps : List Str} {k n : Nat} {c : Call} {d : Fd} (Fu : jE K x qual st f fd) (S : aR N ps (aD st)) (h1 : d.np = ps.length) (h2 : d.nn = N.length)
 (hb : ∀ (cdv : Value) (A : Around) (outer : List Env) (s : Shared) (H : Hp) (E : XK), ie k (A.deeper (envOfC qual (aD st) s.heap.objs.size f cdv)) -> SB (vV iZ Pg w K mg base N qual (aD st) f cdv A outer s H E).Qd c n (eN st) d.body) :
 cF Pg w K mg base iZ (k + 1) f fd ps (jF K ps.length (fun args => enter c n d args)) := by
 refine Fu.ok S (fun vs H Q E h => h.1) fun cdv A outer s H vs Q E hr h => ?_
 obtain ⟨hl, F, args, r, args', g, e, q⟩ := h
 refine ⟨_, hb cdv A outer s H E hr, ?_⟩
 replace e : enter c n d args = .ok r args' := e
 unfold enter at e
 split at e
 . rename_i hc
   obtain ⟨c1, c2⟩ := hc
   have hg := g.more (n := d.nn - d.np) (τ := List.replicate (N.length - vs.length) none) (by simp [h1, h2, hl])
   have hla : args.length = d.np := c1
   have go : ∀ {fl : Fl} {ρ' : List Sl}, jo c n d.body (args ++ List.replicate (d.nn - d.np) .bj) = .ok fl ρ' -> (∀ F' σ' H', bQ K F (args ++ List.replicate (d.nn - d.np) .bj) (start N vs) H F' ρ' σ' H' -> (match fl with
    | .next => Q .non H'
    | .brk => False
    | .cont => False
    | .ret r => ∀ v, bZ K F' ρ' σ' H' (args ++ List.replicate (d.nn - d.np) .bj) (start N vs) H v r -> Q v H')) ->
    Tt K (jo c n d.body) { nx := fun _ H' => Q .non H', rt := Q } (start N vs) H := fun {fl ρ'} z k => ⟨F, _, fl, ρ', hg, z, fun F' σ' H' s => by
    have := k F' σ' H' s
    cases fl <;> exact this⟩
   split at e
   . rename_i ρ' z
     cases e
     refine go z fun F' σ' H' s => ?_
     obtain ⟨z1, z2⟩ := bQ.less (m := d.np) hla.symm g (by simp [h1, h2, hl]) s
     exact q .non F' _ H' z1 (show Rep K F' _ _ from JR)
   . rename_i r' ρ' z
     cases e
     refine go z fun F' σ' H' s v rr => ?_
     obtain ⟨z1, z2⟩ := bQ.less (m := d.np) hla.symm g (by simp [h1, h2, hl]) s
     exact q v F' _ H' z1 (z2 v r rr)
   . split at e <;> cases e
 . cases e
structure aC (Pg : Program) (w : World) (K : PySem.W.Frag) (mg : Str -> Option Value) (base : Heap) (k : Nat) (c : Call) (i : Nat) (x : Str) (np : Nat) : Prop where
 ex : ∃ fa fd qs, cF Pg w K mg base iZ k fa fd qs (jF K qs.length (c i)) /\ mg x = some (.ref fa) /\ PySem.W.keepIn K (.ref fa) = true /\ Binds K fd qs [] /\ qs.length = np
end
section
variable {X : Cx} {c : Call} {n k : Nat} {e a b : Expr} {es : List Expr} {p pa pb : P} {ps : List P} {pos : Pos}
theorem sv (i : Nat) {x : Str} (hN : X.N[i]? = some x := by rfl) (hv : G7 X.env.scope x := by first | exact Or.inl rfl | exact Or.inr (Or.inl rfl) | exact Or.inr (Or.inr rfl)) (hd : (x == ("__debug__" : Str)) = false := by rfl) (hcd : (x == ("__classdict__" : Str)) = false := by rfl) : SX X c (.Name x pos) (.var i) := Jd hN hv hd hcd
theorem dU {i np : Nat} {x : Str} {p' : Pos} (C : aC X.prog X.w X.K X.mg X.base k c i x np) (hr : ie k X.A) (ha : SG X c (e :: es) ps) (hg : Gl X x := by rfl) (hl : (e :: es).length = np := by rfl) (hdb : (x == ("__debug__" : Str)) = false := by rfl)
 (he : starEach (e :: es) X.env = (false, eval e X.env) :: starEach es X.env := by rfl) (hpl : (backTo pos (starEach es X.env)).any (·.1) = false := by rfl) (hl2 : ps.length = (e :: es).length := by rfl) : SX X c (.Call (.Name x p') (e :: es) [] pos) (.call i ps) := by
 obtain ⟨fa, fd, qs, h1, h2, h3, h4, h5⟩ := C.ex
 exact Eb h1 hr hg h2 h3 h4 ha (hl.trans h5.symm) hdb he hpl hl2
noncomputable def Gn (names outer : List (Str × NameKind)) (N N' : List Str) (n : Nat) : Bool :=
 (names.all fun y => names.lookup y.1 == some y.2) && (names.all fun y => y.2 != .local || names.lookup y.1 == some .local) && (names.all fun y => y.2 != .free || outer.lookup y.1 == some .cell || outer.lookup y.1 == some .free) && N'.length == N.length + n &&
 ((N.zip N').all fun p => (p.1 == p.2 && names.lookup p.2 == some .free) || (names.lookup p.2 != some .local && names.lookup p.2 != some .cell && names.lookup p.2 != some .free))
theorem xX {scope : Scope} {N' : List Str} (hk : scope.kind = .function) (h : Gn scope.names X.env.scope.names X.N N' n = true) : fc X scope N' n := by
 unfold Gn at h
 simp only [Bool.and_eq_true] at h
 obtain ⟨⟨⟨⟨h1, h2⟩, h3⟩, h4⟩, h5⟩ := h
 refine ⟨hk, fun y hy => eq_of_beq (List.all_eq_true.mp h1 y hy), fun y hy e => ?_, fun y hy e => ?_, by simpa using h4, h5⟩
 . have := List.all_eq_true.mp h2 y hy
   rw [e] at this
   simpa using this
 . have := List.all_eq_true.mp h3 y hy
   rw [e] at this
   simp only [Bool.or_eq_true] at this
   rcases this with (z | z) | z
   . cases z
   . exact .inl (eq_of_beq z)
   . exact .inr (eq_of_beq z)
theorem cL {A : Around} (h : ie k A) : A.units + 8 < cLine := by have := h.un; omega
end
end HH
end
section
namespace HH
open PySem L2 PySem.Spec PyProof.Rows
structure bY (K : PySem.W.Frag) (x : Str) (st : Stmt) : Prop where
 ex : ∃ f fd, PySem.W.nsIn K mainGlobals x = some (some (.ref f)) /\ jE K x x st f fd
section
variable {Pg : Program} {w : World} {K : PySem.W.Frag} {mg : Str -> Option Value} {base h : Heap}
theorem bJ {x : Str} {st : Stmt} {f : Addr} {oc : Value} {od an : Option Addr} {osl : Array (Option Value)} {kV doc pm cdv ct : Value} (a : PySem.W.nsIn K mainGlobals x = some (some (.ref f)))
 (l : K.lookup f = some ⟨oc, od, .func (PySem.W.fnOf x x (gM st) (eN st) (aD st) .none kV doc pm an cdv ct), osl⟩)
 (c : PySem.W.codeIn K cdv x = true) (k : PySem.W.keepIn K (.ref f) = true) : bY K x st := ⟨_, _, a, JZ l c k⟩
theorem cJ {Γ : Tab} {wl i np : Nat} {x : Str} {st : Stmt} {ps : List Str} (X : K.In h) (G : h.Ns mainGlobals mg) (D : bY K x st) (hp : ps.length = np)
 (hb : ∀ (kV doc pm : Value) (an : Option Addr) (cdv ct : Value) (us : List Value), us.length = ps.length -> bindArgs (PySem.W.fnOf x x (gM st) (eN st) (aD st) .none kV doc pm an cdv ct) ⟨us, []⟩ = pure (ps.zip us)) :
 aC Pg w K mg base 0 (run Γ wl 0) i x np := by
 obtain ⟨f, fd, a, F⟩ := D.ex
 exact ⟨f, fd, ps, ⟨fun vs H Q E s => s.1, fun A outer s H args us vs Q E hr e b v sp => by obtain ⟨_, F, as, r, as', _, z, _⟩ := sp; cases z⟩, PySem.W.mg_of X G a, F.kp, F.binds hb, hp⟩
theorem cI {Γ : Tab} {wl n i np : Nat} {x : Str} {st : Stmt} {ps : List Str} {d : Fd} (X : K.In h) (G : h.Ns mainGlobals mg) (D : bY K x st) (hp : ps.length = np) (hΓ : Γ i = some d)
 (hb : ∀ (kV doc pm : Value) (an : Option Addr) (cdv ct : Value) (us : List Value), us.length = ps.length -> bindArgs (PySem.W.fnOf x x (gM st) (eN st) (aD st) .none kV doc pm an cdv ct) ⟨us, []⟩ = pure (ps.zip us))
 (ok : ∀ f fd, jE K x x st f fd -> cF Pg w K mg base iZ (n + 1) f fd ps (jF K np (fun args => enter (run Γ wl n) wl d args))) :
 aC Pg w K mg base (n + 1) (run Γ wl (n + 1)) i x np := by
 obtain ⟨f, fd, a, F⟩ := D.ex
 refine ⟨f, fd, ps, ?_, PySem.W.mg_of X G a, F.kp, F.binds hb, hp⟩
 have e : run Γ wl (n + 1) i = fun args => enter (run Γ wl n) wl d args := by
  funext args
  show (match Γ i with | some d => enter (run Γ wl n) wl d args | none => .stuck) = _
  rw [hΓ]
 rw [e, hp]
 exact ok f fd F
theorem p6 {F : Hp} : ∀ ns : List Int, aJ K F (ns.map V.int) (ns.map D.int)
 | [] => .nil
 | n :: ns => .cons (cP n) (p6 ns)
theorem yh {H : Hp} {a : Addr} {ns : List Int} {g : List Sl -> Res R} {as : List Sl} (hS : fU K H a (ns.map V.int)) (hr : g [.val false (.lst (ns.map D.int))] = .ok (.val (.bl true)) as) :
 jF K 1 g [.ref a] H (fun v _ => v = .bl true) fun _ _ _ => False := by
 refine ⟨rfl, H, _, _, as, ⟨.refl _, rfl, fun i b d e => ?_, fun i s ds e e' => ?_, fun i j c h => ?_⟩, hr, fun v F' σ' H' s rr => ?_⟩
 . match i, e with
   | 0, e =>
     cases e
     refine ⟨.ref a, rfl, ?_⟩
     rw [Rep]
     exact ⟨a, _, rfl, hS, p6 ns⟩
   | i + 1, e => simp at e
 . match i, e with
   | 0, e => cases e; cases e'
   | i + 1, e => simp at e
 . obtain ⟨⟨s, ds, e, e'⟩, _⟩ := h
   match i, e with
   | 0, e => cases e; cases e'
   | i + 1, e => simp at e
 . have rr : Rep K F' v (.bl true) := rr
   rw [Rep] at rr
   exact rr
end
end HH
end
section
namespace HH
open PySem
noncomputable def Res.sat {α : Type} (Q : α -> List Sl -> Prop) (x : Res α) : Prop := match x with
 | .ok a ρ => Q a ρ
 | .exc _ _ => False
 | .stuck => False
section
variable {α β : Type} {Q Q' : α -> List Sl -> Prop}
@[simp] theorem u0 {a : α} {ρ : List Sl} : (Res.ok a ρ).sat Q = Q a ρ := rfl
@[simp] theorem SN {k : Nat} {ρ : List Sl} : (Res.exc k ρ : Res α).sat Q = False := rfl
@[simp] theorem Lp : (Res.stuck : Res α).sat Q = False := rfl
theorem bB {x : Res β} {f : β -> List Sl -> Res α} : (x.bind f).sat Q = x.sat fun a ρ => (f a ρ).sat Q := by cases x <;> rfl
@[simp] theorem TX {p : Prop} [Decidable p] {x y : Res α} : (if p then x else y).sat Q = ((p -> x.sat Q) /\ (¬ p -> y.sat Q)) := by
  by_cases h : p <;> simp [h]
@[simp] theorem fP {a : α} {ρ : List Sl} : (lift (some a) ρ).sat Q = Q a ρ := rfl
@[simp] theorem Cg {ρ : List Sl} : (lift (none : Option α) ρ).sat Q = False := rfl
@[simp] theorem Fp {p : Prop} [Decidable p] {a : α} {ρ : List Sl} : (lift (if p then some a else none) ρ).sat Q = (p /\ Q a ρ) := by
  by_cases h : p <;> simp [h]
theorem Res.sat.imp {x : Res α} (h : x.sat Q) (k : ∀ a ρ, Q a ρ -> Q' a ρ) : x.sat Q' := by
 cases x with
 | ok a ρ => exact k a ρ h
 | exc _ _ => exact h
 | stuck => exact h
theorem sat_iff {x : Res α} : x.sat Q ↔ ∃ a ρ, x = .ok a ρ /\ Q a ρ := by
 cases x with
 | ok a ρ => exact ⟨fun h => ⟨a, ρ, rfl, h⟩, fun ⟨_, _, e, h⟩ => by cases e; exact h⟩
 | exc _ _ => exact ⟨fun h => h.elim, fun ⟨_, _, e, _⟩ => by cases e⟩
 | stuck => exact ⟨fun h => h.elim, fun ⟨_, _, e, _⟩ => by cases e⟩
end
theorem Mz {α : Type} {x y : Res α} {Q : α -> List Sl -> Prop} (h : x = y) : x.sat Q = y.sat Q := by rw [h]
theorem bind_congr {α β : Type} {x y : Res α} {f : α -> List Sl -> Res β} (h : x = y) : x.bind f = y.bind f := by rw [h]
noncomputable def fr : Sl -> Bool
 | .bj => true
 | .val b _ => !b
 | .own b _ => !b
 | .lent _ => false
 | .km _ => false
@[simp] theorem W5 : fr .bj = true := rfl
@[simp] theorem WY {b : Bool} {d : D} : fr (.val b d) = !b := rfl
@[simp] theorem VL {b : Bool} {d : List D} : fr (.own b d) = !b := rfl
@[simp] theorem Tj {d : List D} : fr (.lent d) = false := rfl
theorem Jy (ρ : List Sl) (i : Nat) (s : Sl) : put ρ i s = match ρ[i]? with | some t => if fr t = true then some (ρ.set i s) else none | none => none := by
 unfold put
 cases h : ρ[i]? with
 | none => rfl
 | some t => cases t with
   | bj => rfl
   | val b d => cases b <;> rfl
   | own b d => cases b <;> rfl
   | lent d => rfl
   | km m => rfl
theorem yX {Γ : Tab} {w n i : Nat} {d : Fd} {args : List Sl} (h : Γ i = some d) : run Γ w (n + 1) i args = enter (run Γ w n) w d args := by
 rw [run, h]
noncomputable def fin (np : Nat) : Fl -> List Sl -> Option (R × List Sl)
 | .next, ρ => some (.val .non, ρ.take np)
 | .ret r, ρ => some (r, ρ.take np)
 | _, _ => none
noncomputable def eQ (np : Nat) (Q : R -> List Sl -> Prop) (fl : Fl) (ρ : List Sl) : Prop := match fl with | .next => Q (.val .non) (ρ.take np) | .ret r => Q r (ρ.take np) | _ => False
noncomputable def sQ (c : Call) (n : Nat) (r : List S) (Q : Fl -> List Sl -> Prop) (fl : Fl) (ρ : List Sl) : Prop := match fl with | .next => (jo c n r ρ).sat Q | fl => Q fl ρ
noncomputable def fQ (J : List Sl -> Prop) (Q : Fl -> List Sl -> Prop) (fl : Fl) (ρ : List Sl) : Prop := match fl with | .next => J ρ | .cont => J ρ | .brk => Q .next ρ | .ret v => Q (.ret v) ρ
section
variable {np : Nat} {Q : R -> List Sl -> Prop} {ρ : List Sl} {v : R} {c : Call} {n : Nat} {r : List S} {Q' : Fl -> List Sl -> Prop} {J : List Sl -> Prop}
@[simp] theorem T3 : eQ np Q .next ρ = Q (.val .non) (ρ.take np) := rfl
@[simp] theorem Vw : eQ np Q (.ret v) ρ = Q v (ρ.take np) := rfl
@[simp] theorem U9 : eQ np Q .brk ρ = False := rfl
@[simp] theorem Te : eQ np Q .cont ρ = False := rfl
@[simp] theorem Sh : sQ c n r Q' .next ρ = (jo c n r ρ).sat Q' := rfl
@[simp] theorem Ux : sQ c n r Q' (.ret v) ρ = Q' (.ret v) ρ := rfl
@[simp] theorem Vu : sQ c n r Q' .brk ρ = Q' .brk ρ := rfl
@[simp] theorem Tz : sQ c n r Q' .cont ρ = Q' .cont ρ := rfl
@[simp] theorem SJ : fQ J Q' .next ρ = J ρ := rfl
@[simp] theorem R1 : fQ J Q' .cont ρ = J ρ := rfl
@[simp] theorem Wh : fQ J Q' .brk ρ = Q' .next ρ := rfl
@[simp] theorem Wm : fQ J Q' (.ret v) ρ = Q' (.ret v) ρ := rfl
end
theorem yD {c : Call} {n : Nat} {d : Fd} {args : List Sl} {Q : R -> List Sl -> Prop} (hl : args.length = d.np) (hd : d.np <= d.nn)
 (h : (jo c n d.body (args ++ List.replicate (d.nn - d.np) .bj)).sat (eQ d.np Q)) : (enter c n d args).sat Q := by
 unfold enter
 rw [if_pos ⟨hl, hd⟩]
 revert h
 cases jo c n d.body (args ++ List.replicate (d.nn - d.np) .bj) with
 | stuck => exact fun h => False.elim h
 | exc _ _ => exact fun h => False.elim h
 | ok fl ρ => cases fl <;> first | exact id | exact fun h => False.elim h
theorem bA {Γ : Tab} {w n i : Nat} {d : Fd} {args : List Sl} {Q : R -> List Sl -> Prop} (hΓ : Γ i = some d) (hl : args.length = d.np) (hd : d.np <= d.nn)
 (h : (jo (run Γ w n) w d.body (args ++ List.replicate (d.nn - d.np) .bj)).sat (eQ d.np Q)) : (run Γ w (n + 1) i args).sat Q := by
 rw [yX hΓ]; exact yD hl hd h
theorem aa {c : Call} {n : Nat} {s : S} {r : List S} {ρ : List Sl} {Q : Fl -> List Sl -> Prop} (h : (ex c n s ρ).sat (sQ c n r Q)) : (jo c n (s :: r) ρ).sat Q := by
 rw [jo, bB]
 refine h.imp fun fl ρ' q => ?_
 cases fl <;> exact q
theorem ao {c : Call} {n : Nat} {s : S} {r : List S} {ρ : List Sl} {Q : Fl -> List Sl -> Prop} (h : (ex c n s ρ).sat (sQ c n r Q)) : sQ c n (s :: r) Q .next ρ := aa h
@[simp] theorem Tc {c : Call} {n : Nat} {ρ : List Sl} {Q : Fl -> List Sl -> Prop} : (jo c n [] ρ).sat Q = Q .next ρ := by rw [jo]; rfl
theorem qt {c : Call} {n : Nat} {s : S} {r : List S} {ρ : List Sl} {Q : Fl -> List Sl -> Prop} (M : List Sl -> Prop) (h : (ex c n s ρ).sat fun fl ρ' => fl = .next /\ M ρ') (k : ∀ ρ', M ρ' -> (jo c n r ρ').sat Q) : (jo c n (s :: r) ρ).sat Q :=
 aa (h.imp fun fl ρ' ⟨e, q⟩ => by subst e; exact k ρ' q)
theorem cC {is : List Nat} {one : Bool} {body : List Sl -> Res Fl} (J : List D -> List Sl -> Prop) {Q : Fl -> List Sl -> Prop} (hb : ∀ d r ρ, J (d :: r) ρ -> ∃ ρ1, cz ρ is one d = some ρ1 /\ (body ρ1).sat (fQ (J r) Q)) (hq : ∀ ρ, J [] ρ -> Q .next ρ) : ∀ {ds : List D} {ρ : List Sl}, J ds ρ -> (lY is one body ds ρ).sat Q
 | [], ρ, j => hq ρ j
 | d :: r, ρ, j => by
   obtain ⟨ρ1, e, h⟩ := hb d r ρ j
   rw [lY, e]
   show ((body ρ1).bind _).sat Q
   rw [bB]
   refine h.imp fun fl ρ2 q => ?_
   cases fl with
   | next => exact cC J hb hq q
   | cont => exact cC J hb hq q
   | brk => exact q
   | ret v => exact q
theorem iJ {is : List Nat} {one : Bool} {test : List Sl -> Res Bool} {elt : Ev} (J : List Sl -> Prop) (g : D -> Option D) {Q : List D -> List Sl -> Prop} :
 ∀ {ds acc : List D} {ρ : List Sl}, J ρ -> (∀ d, d ∈ ds -> ∀ ρ, J ρ -> ∃ ρ1, cz ρ is one d = some ρ1 /\ (test ρ1).sat fun b ρ2 => if b = true then (elt ρ2).sat fun r ρ3 => g d = some r.d /\ J ρ3 else g d = none /\ J ρ2) -> (∀ ρ, J ρ -> Q (acc ++ ds.filterMap g) ρ) ->
   (turns is one test elt ds acc ρ).sat Q
 | [], acc, ρ, j, h, k => by rw [turns]; simpa using k ρ j
 | d :: r, acc, ρ, j, h, k => by
   obtain ⟨ρ1, e, h1⟩ := h d (by simp) ρ j
   rw [turns, e]
   show ((test ρ1).bind _).sat Q
   rw [bB]
   refine h1.imp fun b ρ2 q => ?_
   cases b with
   | true =>
     rw [if_pos rfl] at q
     rw [if_pos rfl, bB]
     refine q.imp fun x ρ3 ⟨e1, j3⟩ => ?_
     refine iJ J g j3 (fun d' hd' => h d' (by simp [hd'])) fun ρ' j' => ?_
     have := k ρ' j'
     rw [List.filterMap_cons, e1] at this
     rw [List.append_assoc]; exact this
   | false =>
     rw [if_neg (by simp)] at q
     rw [if_neg (by simp)]
     refine iJ J g q.2 (fun d' hd' => h d' (by simp [hd'])) fun ρ' j' => ?_
     have := k ρ' j'
     rw [List.filterMap_cons, q.1] at this
     exact this
theorem vU {is : List Nat} {one : Bool} {elt : Ev} {c : Call} (J : List Sl -> Prop) (g : D -> D) {Q : List D -> List Sl -> Prop} {ds : List D} {ρ : List Sl} (j : J ρ) (h : ∀ d, d ∈ ds -> ∀ ρ, J ρ -> ∃ ρ1, cz ρ is one d = some ρ1 /\ (elt ρ1).sat fun r ρ3 => g d = r.d /\ J ρ3)
 (k : ∀ ρ, J ρ -> Q (ds.map g) ρ) : (turns is one (oX c none) elt ds [] ρ).sat Q :=
 iJ J (fun d => some (g d)) j (fun d hd ρ j => by
  obtain ⟨ρ1, e, h1⟩ := h d hd ρ j
  refine ⟨ρ1, e, ?_⟩
  rw [oX, u0, if_pos rfl]
  exact h1.imp fun r ρ3 q => ⟨by rw [q.1], q.2⟩) fun ρ j => by simpa using k ρ j
section
variable {ρ l : List Sl} {a : Sl} {i j : Int} {k m : Nat} {b b' : Bool} {s : Str} {d : D} {ds es : List D} {e f : Ev} {x : Option Sl} {c : Call}
@[simp] theorem Ik : bO .int .non = false := rfl
@[simp] theorem Mu : bO .int (.bl b) = true := rfl
@[simp] theorem Io : bO .int (.int i) = true := rfl
@[simp] theorem HW : bO .int (.str s) = false := rfl
@[simp] theorem HS : bO .int (.tup ds) = false := rfl
@[simp] theorem KH : bO .int (.lst ds) = false := rfl
@[simp] theorem Gz : bO .bool .non = false := rfl
@[simp] theorem Jk : bO .bool (.bl b) = true := rfl
@[simp] theorem Gq : bO .bool (.int i) = false := rfl
@[simp] theorem Gh : bO .bool (.str s) = false := rfl
@[simp] theorem Gm : bO .bool (.tup ds) = false := rfl
@[simp] theorem GJ : bO .bool (.lst ds) = false := rfl
@[simp] theorem HN : bO .str .non = false := rfl
@[simp] theorem Ni : bO .str (.bl b) = false := rfl
@[simp] theorem Ke : bO .str (.int i) = false := rfl
@[simp] theorem Iz : bO .str (.str s) = true := rfl
@[simp] theorem Jb : bO .str (.tup ds) = false := rfl
@[simp] theorem Im : bO .str (.lst ds) = false := rfl
@[simp] theorem Dm : bO .tuple .non = false := rfl
@[simp] theorem G9 : bO .tuple (.bl b) = false := rfl
@[simp] theorem Ey : bO .tuple (.int i) = false := rfl
@[simp] theorem Eg : bO .tuple (.str s) = false := rfl
@[simp] theorem DG : bO .tuple (.tup ds) = true := rfl
@[simp] theorem Fw : bO .tuple (.lst ds) = false := rfl
@[simp] theorem G3 : bO .list .non = false := rfl
@[simp] theorem Ii : bO .list (.bl b) = false := rfl
@[simp] theorem GF : bO .list (.int i) = false := rfl
@[simp] theorem GD : bO .list (.str s) = false := rfl
@[simp] theorem GR : bO .list (.tup ds) = false := rfl
@[simp] theorem Gf : bO .list (.lst ds) = true := rfl
@[simp] theorem G8 : bO .none .non = true := rfl
@[simp] theorem Hx : bO .none (.bl b) = false := rfl
@[simp] theorem Gv : bO .none (.int i) = false := rfl
@[simp] theorem Hb : bO .none (.str s) = false := rfl
@[simp] theorem Gi : bO .none (.tup ds) = false := rfl
@[simp] theorem Gp : bO .none (.lst ds) = false := rfl
@[simp] theorem Lw : je .non = true := rfl
@[simp] theorem Qf : je (.bl b) = false := rfl
@[simp] theorem M8 : je (.int i) = false := rfl
@[simp] theorem M3 : je (.str s) = false := rfl
@[simp] theorem Lj : je (.tup ds) = false := rfl
@[simp] theorem Ls : je (.lst ds) = false := rfl
@[simp] theorem QW : flat .non = true := rfl
@[simp] theorem RW : flat (.bl b) = true := rfl
@[simp] theorem j7 : flat (.int i) = true := rfl
@[simp] theorem PX : flat (.str s) = true := rfl
@[simp] theorem O6 : flat (.tup ds) = false := rfl
@[simp] theorem QK : flat (.lst ds) = false := rfl
@[simp] theorem WW : (R.val d).d = d := rfl
@[simp] theorem Bj : (R.own ds).d = .lst ds := rfl
@[simp] theorem QZ : yf (.val d) = .val false d := rfl
@[simp] theorem Pr : yf (.own ds) = .own false ds := rfl
@[simp] theorem Mw : ug (.val d) = .dat d := rfl
@[simp] theorem Lh : ug (.own ds) = .tmp ds := rfl
@[simp] theorem Td : oU (.int i) = some i := rfl
@[simp] theorem WL : sO (.bl b) = some b := rfl
@[simp] theorem lE : items (.lst ds) = some ds := rfl
@[simp] theorem p8 : items (.tup ds) = some ds := rfl
@[simp] theorem Il : zV (.tup ds) = some ds := rfl
@[simp] theorem HX : lu (.lst ds) = some ds := rfl
@[simp] theorem Sd : tQ .add = nP := rfl
@[simp] theorem TJ : tQ .sub = uz := rfl
@[simp] theorem R7 : tQ .mul = nq := rfl
@[simp] theorem Oj : tQ .fdiv = oG := rfl
@[simp] theorem Sv : tQ .mod = rW := rfl
@[simp] theorem Tp : tQ .pow = tG := rfl
@[simp] theorem Mi : nP (.int i) (.int j) = some (.val (.int (i + j))) := rfl
@[simp] theorem Mv : nP (.lst ds) (.lst es) = if ds.length + es.length <= lim then some (.own (ds ++ es)) else none := rfl
@[simp] theorem Nm : nP (.tup ds) (.tup es) = if ds.length + es.length <= lim then some (.val (.tup (ds ++ es))) else none := rfl
@[simp] theorem Mh : uz (.int i) (.int j) = some (.val (.int (i - j))) := rfl
@[simp] theorem M9 : nq (.int i) (.int j) = if ((-18446744073709551616 < i /\ i < 18446744073709551616) \/ (-18446744073709551616 < j /\ j < 18446744073709551616)) then some (.val (.int (i * j))) else none := rfl
@[simp] theorem KJ : oG (.int i) (.int j) = if 0 < j /\ j < 1606938044258990275541962092341162602522202993782792835301376 then some (.val (.int (i / j))) else none := rfl
@[simp] theorem Lr : rW (.int i) (.int j) = if 0 < j then some (.val (.int (i % j))) else none := rfl
@[simp] theorem Mt : tG (.int i) (.int j) = if 0 <= j /\ j <= 1000 /\ i.natAbs < 18446744073709551616 then some (.val (.int (i ^ j.toNat))) else none := rfl
@[simp] theorem RX : uM (.lst ds) (.int i) = (at' ds i).map .val := rfl
@[simp] theorem TY : uM (.tup ds) (.int i) = (at' ds i).map .val := rfl
@[simp] theorem Rf : Dq (.int i) = some (.val (.int (-i))) := rfl
@[simp] theorem Li : cm .eq (.int i) (.int j) = some (i == j) := rfl
@[simp] theorem LQ : cm .ne (.int i) (.int j) = some (!(i == j)) := rfl
@[simp] theorem Ot : cm .eq (.bl b) (.bl b') = some (b == b') := rfl
@[simp] theorem Q3 : cm .ne (.bl b) (.bl b') = some (!(b == b')) := rfl
@[simp] theorem Nt : cm .lt (.int i) (.int j) = some (decide (i < j)) := rfl
@[simp] theorem Mp : cm .le (.int i) (.int j) = some (decide (i <= j)) := rfl
@[simp] theorem Ng : cm .gt (.int i) (.int j) = some (decide (j < i)) := rfl
@[simp] theorem LR : cm .ge (.int i) (.int j) = some (decide (j <= i)) := rfl
@[simp] theorem Uo : cm .Zf d .non = some (je d) := rfl
@[simp] theorem S6 : cm .Rp d .non = some (!je d) := rfl
@[simp] theorem Gx : blt .len [.lst ds] = some (.val (.int ds.length)) := rfl
@[simp] theorem GZ : blt .len [.tup ds] = some (.val (.int ds.length)) := rfl
@[simp] theorem Lg : blt .Hg [.lst ds] = if ds.length <= 16777216 then some (.own ds) else none := rfl
@[simp] theorem Fz : blt .list [.lst ds] = some (.own ds) := rfl
@[simp] theorem Ep : blt .list [.tup ds] = some (.own ds) := rfl
@[simp] theorem Ca : blt .tuple [.lst ds] = some (.val (.tup ds)) := rfl
@[simp] theorem Cd : blt .tuple [.tup ds] = some (.val (.tup ds)) := rfl
@[simp] theorem QQ : blt .min2 [.int i, .int j] = some (.val (.int (if j < i then j else i))) := rfl
@[simp] theorem PL : blt .max2 [.int i, .int j] = some (.val (.int (if i < j then j else i))) := rfl
@[simp] theorem Tu : blt .all [.lst ds] = (ds.mapM sO).map fun bs => .val (.bl (bs.all id)) := rfl
@[simp] theorem R9 : blt .any [.lst ds] = (ds.mapM sO).map fun bs => .val (.bl (bs.any id)) := rfl
@[simp] theorem Nq : isVar (.var k) = some k := rfl
@[simp] theorem RM : pk (a :: l) k = match (a :: l)[k]? with | some (.val _ d) => some d | some (.own _ ds) => some (.lst ds) | some (.lent ds) => some (.lst ds) | _ => none := rfl
@[simp] theorem QC : GC (a :: l) k = match pk (a :: l) k with | some (.lst ds) => some ds | _ => none := rfl
@[simp] theorem QG : fV (some k) e ρ = lift (pk ρ k) ρ := rfl
@[simp] theorem Ph : fV none e ρ = (e ρ).bind fun r ρ => .ok r.d ρ := rfl
@[simp] theorem M4 {y : Option Nat} : lD (some k) e y f ρ = (lift (pk ρ k) ρ).bind fun _ ρ => (fV y f ρ).bind fun y ρ => (lift (pk ρ k) ρ).bind fun x ρ => .ok (x, y) ρ := rfl
@[simp] theorem M5 {y : Option Nat} : lD none e y f ρ = (fV none e ρ).bind fun x ρ => (fV y f ρ).bind fun y ρ => .ok (x, y) ρ := rfl
@[simp] theorem Nf {es : List D} : dz (.own b ds) (some (.own b' es)) = .own b es := rfl
@[simp] theorem Nv : dz (.own b ds) (some (.val b' d)) = .val b d := rfl
@[simp] theorem zK : dz a none = a := by cases a <;> rfl
@[simp] theorem yq : dz (.val b d) x = .val b d := by cases x <;> rfl
@[simp] theorem Np : dz .bj x = .bj := by cases x <;> rfl
@[simp] theorem uT : dz (.lent ds) x = .lent ds := by cases x <;> rfl
@[simp] theorem QS : cz ρ [k] true d = put ρ k (.val false d) := rfl
@[simp] theorem Lz {is : List Nat} : cz ρ is false (.tup ds) = putAll ρ is ds := by cases is <;> rfl
@[simp] theorem JV : srcOf none e ρ = (e ρ).bind fun r ρ => lift (items r.d) ρ := rfl
@[simp] theorem gB : srcOf (some k) e (a :: l) = match (a :: l)[k]? with | some (.val _ d) => lift (items d) (a :: l) | some (.own _ ds) => .ok ds ((a :: l).set k (.lent ds)) | some (.lent ds) => .ok ds (a :: l) | _ => .stuck := rfl
@[simp] theorem GP {ρ' : List Sl} : bh ρ' none ρ = ρ := rfl
@[simp] theorem cT : bh (a :: l) (some k) ρ = match (a :: l)[k]? with | some (.own b ds) => ρ.set k (.own b ds) | _ => ρ := rfl
@[simp] theorem Oe {s : Sl} : put (a :: l) k s = match (a :: l)[k]? with | some t => if fr t = true then some ((a :: l).set k s) else none | none => none := Jy ..
@[simp] theorem JK : putAll ρ [] [] = some ρ := rfl
@[simp] theorem Gs {is : List Nat} : putAll ρ (k :: is) (d :: ds) = (put ρ k (.val false d)).bind fun ρ => putAll ρ is ds := rfl
theorem IW {as : List Arg} {Q : R -> List Sl -> Prop} : (lq c k as ρ).sat Q = match bD ρ as [] with | none => False | some args => (c k args).sat fun r args' => Q r (cu as args' 0 ρ) := by
 unfold lq
 cases bD ρ as [] with
 | none => rfl
 | some args => simp only; cases c k args <;> rfl
end
@[simp] theorem at_0 {α : Type} {a0 : α} {l : List α} : at' (a0 :: l) 0 = some a0 := by
  unfold at' ju; rw [if_pos (by decide), if_pos (by simp only [List.length_cons]; omega)]; rfl
@[simp] theorem at_1 {α : Type} {a0 a1 : α} {l : List α} : at' (a0 :: a1 :: l) 1 = some a1 := by
  unfold at' ju; rw [if_pos (by decide), if_pos (by simp only [List.length_cons]; omega)]; rfl
@[simp] theorem at_2 {α : Type} {a0 a1 a2 : α} {l : List α} : at' (a0 :: a1 :: a2 :: l) 2 = some a2 := by
  unfold at' ju; rw [if_pos (by decide), if_pos (by simp only [List.length_cons]; omega)]; rfl
@[simp] theorem at_3 {α : Type} {a0 a1 a2 a3 : α} {l : List α} : at' (a0 :: a1 :: a2 :: a3 :: l) 3 = some a3 := by
  unfold at' ju; rw [if_pos (by decide), if_pos (by simp only [List.length_cons]; omega)]; rfl
@[simp] theorem at_4 {α : Type} {a0 a1 a2 a3 a4 : α} {l : List α} : at' (a0 :: a1 :: a2 :: a3 :: a4 :: l) 4 = some a4 := by
  unfold at' ju; rw [if_pos (by decide), if_pos (by simp only [List.length_cons]; omega)]; rfl
@[simp] theorem at_5 {α : Type} {a0 a1 a2 a3 a4 a5 : α} {l : List α} : at' (a0 :: a1 :: a2 :: a3 :: a4 :: a5 :: l) 5 = some a5 := by
  unfold at' ju; rw [if_pos (by decide), if_pos (by simp only [List.length_cons]; omega)]; rfl
@[simp] theorem at_6 {α : Type} {a0 a1 a2 a3 a4 a5 a6 : α} {l : List α} : at' (a0 :: a1 :: a2 :: a3 :: a4 :: a5 :: a6 :: l) 6 = some a6 := by
  unfold at' ju; rw [if_pos (by decide), if_pos (by simp only [List.length_cons]; omega)]; rfl
@[simp] theorem at_7 {α : Type} {a0 a1 a2 a3 a4 a5 a6 a7 : α} {l : List α} : at' (a0 :: a1 :: a2 :: a3 :: a4 :: a5 :: a6 :: a7 :: l) 7 = some a7 := by
  unfold at' ju; rw [if_pos (by decide), if_pos (by simp only [List.length_cons]; omega)]; rfl
theorem mU {α : Type} {l : List α} {i : Int} (h : 0 <= i) (h' : i < l.length) : at' l i = l[i.toNat]? := by
 unfold at' ju; rw [if_pos h, if_pos h']; rfl
theorem zG {α : Type} {l : List α} {k : Nat} (h' : k < l.length) : at' l (k : Int) = l[k]? := by
 rw [mU (by omega) (by omega)]; simp
theorem S7 {α : Type} {l : List α} {i : Int} (h : (l.length : Int) <= i) : at' l i = none := by
 unfold at' ju; rw [if_pos (by omega), if_neg (by omega)]; rfl
theorem Rc {p : P} (h : ∀ i, p ≠ .var i) : isVar p = none := by cases p <;> first | rfl | exact absurd rfl (h _)
@[simp] theorem Mf {d : D} : isVar (.con d) = none := rfl
@[simp] theorem Ig {x : Str} {d : D} : isVar (.glob x d) = none := rfl
@[simp] theorem Nk {o : Op} {p q : P} : isVar (.bin o p q) = none := rfl
@[simp] theorem Nx {p : P} : isVar (.neg p) = none := rfl
@[simp] theorem Lq {p : P} : isVar (.not p) = none := rfl
@[simp] theorem LC {p q : P} : isVar (.and p q) = none := rfl
@[simp] theorem O4 {p q : P} : isVar (.or p q) = none := rfl
@[simp] theorem Lf {o : Cm} {p q : P} : isVar (.cmp o p q) = none := rfl
@[simp] theorem GX {o o' : Cm} {p q r : P} : isVar (.chain o o' p q r) = none := rfl
@[simp] theorem Ln {p q r : P} : isVar (.Zh p q r) = none := rfl
@[simp] theorem Ma {as : List P} : isVar (.tup as) = none := rfl
@[simp] theorem Mj {as : List P} : isVar (.lst as) = none := rfl
@[simp] theorem Nj {p q : P} : isVar (.idx p q) = none := rfl
@[simp] theorem Gk {p q r : P} : isVar (.slice p q r) = none := rfl
@[simp] theorem Ku {f : Nat} {as : List P} : isVar (.call f as) = none := rfl
@[simp] theorem Ny {b : Sw} {as : List P} : isVar (.blt b as) = none := rfl
@[simp] theorem KD {ts : List Ty} {p : P} : isVar (.inst ts p) = none := rfl
@[simp] theorem MT {x : Nat} : isVar (.pop x) = none := rfl
@[simp] theorem J7 {p e : P} {n : Nat} {is : List Nat} {one : Bool} {t : Option P} : isVar (.comp p n is one t e) = none := rfl
@[simp] theorem Mm {p q : P} : isVar (.v5 p q) = none := rfl
@[simp] theorem Nu {p : P} : isVar (.Zi p) = none := rfl
@[simp] theorem Nr {p q : P} : isVar (.zip p q) = none := rfl
@[simp] theorem Mq {p : P} : isVar (.rev p) = none := rfl
noncomputable def jR (c : Call) (is : List Nat) (one : Bool) (test : Option P) (elt : P) (ds : List D) (ρ : List Sl) : Res (List D) := turns is one (oX c test) (ev c elt) ds [] ρ
@[simp] theorem R4 {c : Call} {src elt : P} {n : Nat} {is : List Nat} {one : Bool} {test : Option P} {ρ : List Sl} : ev c (.comp src n is one test elt) ρ = (srcOf (isVar src) (ev c src) ρ).bind fun ds ρ₁ =>
 if ds.length <= lim then (jR c is one test elt ds (ρ₁ ++ List.replicate n .bj)).bind fun xs ρ₂ => .ok (.own xs) (bh ρ (isVar src) (ρ₂.take ρ₁.length)) else .stuck := by rw [ev]; rfl
noncomputable def Am (c : Call) (n : Nat) (t : P) (body : List S) (k : Nat) (ρ : List Sl) : Res Fl := Bb (kh (ev c t)) (jo c n body) k ρ
@[simp] theorem UL {c : Call} {n : Nat} {t : P} {body : List S} {ρ : List Sl} : ex c n (.whl t body) ρ = Am c n t body n ρ := by rw [ex]; rfl
theorem qC {α β γ : Type} {x : Res β} {f : β -> List Sl -> Res α} {g : α -> List Sl -> Res γ} : (x.bind f).bind g = x.bind fun a ρ => (f a ρ).bind g := by cases x <;> rfl
@[simp] theorem Uu {Γ : Tab} {w n i : Nat} {args : List Sl} {α : Type} {f : R -> List Sl -> Res α} {Q : α -> List Sl -> Prop} : ((run Γ w n i args).bind f).sat Q = (run Γ w n i args).sat fun a ρ => (f a ρ).sat Q := bB
@[simp] theorem Wo {Γ : Tab} {w n i : Nat} {args : List Sl} {α β : Type} {f : R -> List Sl -> Res α} {g : α -> List Sl -> Res β} : ((run Γ w n i args).bind f).bind g = (run Γ w n i args).bind fun a ρ => (f a ρ).bind g := qC
@[simp] theorem RZ {c : Call} {is : List Nat} {one : Bool} {test : Option P} {elt : P} {ds : List D} {ρ : List Sl} {α : Type} {f : List D -> List Sl -> Res α} {Q : α -> List Sl -> Prop} : ((jR c is one test elt ds ρ).bind f).sat Q = (jR c is one test elt ds ρ).sat fun a ρ => (f a ρ).sat Q := bB
@[simp] theorem Tn {c : Call} {is : List Nat} {one : Bool} {test : Option P} {elt : P} {ds : List D} {ρ : List Sl} {α β : Type} {f : List D -> List Sl -> Res α} {g : α -> List Sl -> Res β} : ((jR c is one test elt ds ρ).bind f).bind g = (jR c is one test elt ds ρ).bind fun a ρ => (f a ρ).bind g := qC
@[simp] theorem W2 {is : List Nat} {one : Bool} {b : List Sl -> Res Fl} {ds : List D} {ρ : List Sl} {α : Type} {f : Fl -> List Sl -> Res α} {Q : α -> List Sl -> Prop} : ((lY is one b ds ρ).bind f).sat Q = (lY is one b ds ρ).sat fun a ρ => (f a ρ).sat Q := bB
@[simp] theorem S9 {α β : Type} {p : Prop} [Decidable p] {a : β} {ρ : List Sl} {f : β -> List Sl -> Res α} {Q : α -> List Sl -> Prop} : ((lift (if p then some a else none) ρ).bind f).sat Q = (p /\ (f a ρ).sat Q) := by by_cases h : p <;> simp [h, lift, Res.bind]
@[simp] theorem Tv {α β γ : Type} {p : Prop} [Decidable p] {a : β} {ρ : List Sl} {f : β -> List Sl -> Res α} {g : α -> List Sl -> Res γ} : ((lift (if p then some a else none) ρ).bind f).bind g = (lift (if p then some a else none) ρ).bind fun a ρ => (f a ρ).bind g := qC
@[simp] theorem bb_ite {α β : Type} {p : Prop} [Decidable p] {x y : Res β} {f : β -> List Sl -> Res α} : (if p then x else y).bind f = if p then x.bind f else y.bind f := by by_cases h : p <;> simp [h]
@[simp] theorem Wk {c : Call} {n k : Nat} {t : P} {b : List S} {ρ : List Sl} {α : Type} {f : Fl -> List Sl -> Res α} {Q : α -> List Sl -> Prop} : ((Am c n t b k ρ).bind f).sat Q = (Am c n t b k ρ).sat fun a ρ => (f a ρ).sat Q := bB
@[simp] theorem Vz {α β : Type} {a : α} {ρ : List Sl} {f : α -> List Sl -> Res β} : (Res.ok a ρ).bind f = f a ρ := rfl
@[simp] theorem Mr {α β : Type} {f : α -> List Sl -> Res β} : (Res.stuck : Res α).bind f = .stuck := rfl
@[simp] theorem Ob {α : Type} {a : α} {ρ : List Sl} : lift (some a) ρ = .ok a ρ := rfl
@[simp] theorem PK {α : Type} {ρ : List Sl} : lift (none : Option α) ρ = .stuck := rfl
noncomputable def yo : List Sl -> Nat -> Sl -> List Sl
 | [], _, _ => []
 | t :: ρ, 0, s => dz t (some s) :: ρ
 | t :: ρ, k + 1, s => t :: yo ρ k s
noncomputable def bk : List Arg -> List Sl -> List Sl -> List Sl
 | .dW k :: as, s :: ss, ρ => bk as ss (yo ρ k s)
 | .dat _ :: as, _ :: ss, ρ => bk as ss ρ
 | .tmp _ :: as, _ :: ss, ρ => bk as ss ρ
 | _, _, ρ => ρ
section
variable {t s : Sl} {ρ ss : List Sl} {k : Nat} {as : List Arg} {d : D} {ds : List D}
@[simp] theorem Yz : yo (t :: ρ) 0 s = dz t (some s) :: ρ := rfl
@[simp] theorem YW : yo (t :: ρ) (k + 1) s = t :: yo ρ k s := rfl
@[simp] theorem VN : bk (.dW k :: as) (s :: ss) ρ = bk as ss (yo ρ k s) := rfl
@[simp] theorem WR : bk (.dat d :: as) (s :: ss) ρ = bk as ss ρ := rfl
@[simp] theorem Vo : bk (.tmp ds :: as) (s :: ss) ρ = bk as ss ρ := rfl
@[simp] theorem Vd : bk [] ss ρ = ρ := rfl
end
theorem vN {s : Sl} : ∀ {ρ : List Sl} {k j : Nat}, (yo ρ k s)[j]? = (ρ[j]?).map fun t => if j = k then dz t (some s) else t
 | [], _, _ => by simp [yo]
 | t :: ρ, 0, 0 => by simp [yo]
 | t :: ρ, 0, j + 1 => by simp [yo]
 | t :: ρ, k + 1, 0 => by simp [yo]
 | t :: ρ, k + 1, j + 1 => by
   have := vN (s := s) (ρ := ρ) (k := k) (j := j)
   simp only [yo, List.getElem?_cons_succ, this]
   congr 1; funext t; simp
theorem tX {as : List Arg} {ss : List Sl} : ∀ {ρ : List Sl} {i j : Nat}, (cu as ss i ρ)[j]? = (ρ[j]?).map fun t => dz t (aO (i + j) as ss)
 | [], _, _ => by simp [cu]
 | t :: ρ, i, 0 => by simp [cu]
 | t :: ρ, i, j + 1 => by
   have := tX (as := as) (ss := ss) (ρ := ρ) (i := i + 1) (j := j)
   simp only [cu, List.getElem?_cons_succ, this]
   rw [show i + 1 + j = i + (j + 1) by omega]
noncomputable def YF (t : Sl) : Prop := ∀ x, dz t x = t
noncomputable def HQ (ρ : List Sl) : List Arg -> Prop
 | [] => True
 | .dW k :: as => (Arg.dW k ∈ as -> ∀ t, ρ[k]? = some t -> YF t) /\ HQ ρ as
 | _ :: as => HQ ρ as
theorem mO {ρ : List Sl} : ∀ {as : List Arg} {ρ' : List Sl}, HQ ρ as -> (∀ k, Arg.dW k ∈ as -> ∀ t, ρ'[k]? = some t -> ρ[k]? = some t \/ YF t) -> HQ ρ' as
 | [], _, _, _ => trivial
 | .dW k :: as, ρ', h, g => ⟨fun hm t ht => by
  rcases g k (by simp) t ht with e | e
  . exact h.1 hm t e
  . exact e, mO h.2 fun j hj => g j (by simp [hj])⟩
 | .dat _ :: as, ρ', h, g => mO (as := as) h fun j hj => g j (by simp [hj])
 | .tmp _ :: as, ρ', h, g => mO (as := as) h fun j hj => g j (by simp [hj])
theorem jU {k : Nat} : ∀ {as : List Arg} {ss : List Sl}, Arg.dW k ∉ as -> aO k as ss = none
 | [], _, _ => by unfold aO; rfl
 | .dW j :: as, [], _ => rfl
 | .dat _ :: as, [], _ => rfl
 | .tmp _ :: as, [], _ => rfl
 | .dW j :: as, s :: ss, h => by
   simp only [List.mem_cons, Arg.dW.injEq, not_or] at h
   rw [aO, if_neg (fun e => h.1 e.symm), jU h.2]
 | .dat _ :: as, s :: ss, h => by
   simp only [List.mem_cons, not_or] at h
   rw [aO, jU h.2]
 | .tmp _ :: as, s :: ss, h => by
   simp only [List.mem_cons, not_or] at h
   rw [aO, jU h.2]
theorem wZ : ∀ {as : List Arg} {ss ρ : List Sl}, HQ ρ as -> ∀ j, (bk as ss ρ)[j]? = (ρ[j]?).map fun t => dz t (aO j as ss)
 | [], ss, ρ, _, j => by cases ss <;> simp [bk, aO]
 | .dW k :: as, [], ρ, _, j => by simp [bk, aO]
 | .dat _ :: as, [], ρ, _, j => by simp [bk, aO]
 | .tmp _ :: as, [], ρ, _, j => by simp [bk, aO]
 | .dat _ :: as, s :: ss, ρ, h, j => by rw [bk, aO]; exact wZ (as := as) h j
 | .tmp _ :: as, s :: ss, ρ, h, j => by rw [bk, aO]; exact wZ (as := as) h j
 | .dW k :: as, s :: ss, ρ, h, j => by
   have h2 : HQ (yo ρ k s) as := mO h.2 fun i hi t ht => by
    rw [vN] at ht
    cases e : ρ[i]? with
    | none => rw [e] at ht; cases ht
    | some t0 =>
      rw [e] at ht
      by_cases c : i = k
      . subst c
        have hs := h.1 hi t0 e
        simp [hs (some s)] at ht
        exact .inl (by rw [ht])
      . simp [c] at ht
        exact .inl (by rw [ht])
   rw [bk, wZ h2 j, vN, aO]
   cases e : ρ[j]? with
   | none => rfl
   | some t0 =>
     simp only [Option.map_some]
     by_cases c : j = k
     . subst c
       rw [if_pos rfl, if_pos rfl]
       by_cases hm : Arg.dW j ∈ as
       . have hs := h.1 hm t0 e
         rw [hs (some s), hs]
       . rw [jU hm, zK]
     . rw [if_neg c, if_neg (fun z => c z.symm)]
theorem eV {ρ : List Sl} {k : Nat} {b : Bool} {ds : List D} (e : ρ[k]? = some (.own b ds)) : ∀ {as : List Arg} {u : List Nat} {r : List Sl}, k ∈ u -> bD ρ as u = some r -> Arg.dW k ∉ as
 | [], _, _, _, _ => by simp
 | .dat _ :: as, u, r, hu, h => by
   simp only [bD, Option.map_eq_some_iff] at h
   obtain ⟨r', h, _⟩ := h
   simp [eV e hu h]
 | .tmp _ :: as, u, r, hu, h => by
   simp only [bD, Option.map_eq_some_iff] at h
   obtain ⟨r', h, _⟩ := h
   simp [eV e hu h]
 | .dW i :: as, u, r, hu, h => by
   rw [bD] at h
   have hi : i ≠ k := by
    rintro rfl
    rw [e] at h
    simp [hu] at h
   have : Arg.dW k ∉ as := by
    split at h
    . obtain ⟨r', h, _⟩ := Option.map_eq_some_iff.mp h; exact eV e hu h
    . split at h
      . cases h
      . obtain ⟨r', h, _⟩ := Option.map_eq_some_iff.mp h; exact eV e (by simp [hu]) h
    . split at h
      . cases h
      . obtain ⟨r', h, _⟩ := Option.map_eq_some_iff.mp h; exact eV e (by simp [hu]) h
    . cases h
   simp [this]; exact fun z => hi z.symm
theorem eX {ρ : List Sl} : ∀ {as : List Arg} {u : List Nat} {r : List Sl}, bD ρ as u = some r -> HQ ρ as
 | [], _, _, _ => trivial
 | .dat _ :: as, u, r, h => by
   obtain ⟨r', h, _⟩ := Option.map_eq_some_iff.mp h; exact eX (as := as) h
 | .tmp _ :: as, u, r, h => by
   obtain ⟨r', h, _⟩ := Option.map_eq_some_iff.mp h; exact eX (as := as) h
 | .dW i :: as, u, r, h => by
   rw [bD] at h
   split at h
   . rename_i b d q
     obtain ⟨r', h, _⟩ := Option.map_eq_some_iff.mp h
     exact ⟨fun _ t ht => by rw [q] at ht; cases ht; exact fun x => yq, eX h⟩
   . rename_i b ds q
     split at h
     . cases h
     . obtain ⟨r', h, _⟩ := Option.map_eq_some_iff.mp h
       exact ⟨fun hm => absurd hm (eV q (by simp) h), eX h⟩
   . rename_i ds q
     split at h
     . cases h
     . obtain ⟨r', h, _⟩ := Option.map_eq_some_iff.mp h
       exact ⟨fun _ t ht => by rw [q] at ht; cases ht; exact fun x => uT, eX h⟩
   . cases h
theorem Pn {as : List Arg} {ss ρ r : List Sl} {u : List Nat} (h : bD ρ as u = some r) : cu as ss 0 ρ = bk as ss ρ := by
 apply List.ext_getElem?
 intro j
 rw [tX, wZ (eX h), Nat.zero_add]
@[simp] theorem Nh {c : Call} {k : Nat} {as : List Arg} {ρ : List Sl} : lq c k as ρ = match bD ρ as [] with | none => .stuck | some args => (c k args).bind fun r args' => .ok r (bk as args' ρ) := by
  unfold lq
  cases e : bD ρ as [] with
  | none => rfl
  | some args => simp only [<- Pn (r := args) e]; cases c k args <;> rfl
theorem iG {c : Call} {is : List Nat} {one : Bool} {elt : P} (J : List Sl -> Prop) (g : D -> D) {Q : List D -> List Sl -> Prop} {ds : List D} {ρ : List Sl} (j : J ρ) (h : ∀ d, d ∈ ds -> ∀ ρ, J ρ -> ∃ ρ1, cz ρ is one d = some ρ1 /\ (ev c elt ρ1).sat fun r ρ3 => g d = r.d /\ J ρ3)
 (k : ∀ ρ, J ρ -> Q (ds.map g) ρ) : (jR c is one none elt ds ρ).sat Q := vU J g j h k
theorem dD {c : Call} {is : List Nat} {one : Bool} {elt t : P} (J : List Sl -> Prop) (g : D -> Option D) {Q : List D -> List Sl -> Prop} {ds : List D} {ρ : List Sl} (j : J ρ)
 (h : ∀ d, d ∈ ds -> ∀ ρ, J ρ -> ∃ ρ1, cz ρ is one d = some ρ1 /\ (ev c t ρ1).sat fun r ρ2 => ∃ b, r.d = .bl b /\ if b = true then (ev c elt ρ2).sat fun r ρ3 => g d = some r.d /\ J ρ3 else g d = none /\ J ρ2) (k : ∀ ρ, J ρ -> Q (ds.filterMap g) ρ) : (jR c is one (some t) elt ds ρ).sat Q :=
 iJ J g j (fun d hd ρ j => by
  obtain ⟨ρ1, e, h1⟩ := h d hd ρ j
  refine ⟨ρ1, e, ?_⟩
  rw [oX, kh, bB]
  refine h1.imp fun r ρ2 ⟨b, e, q⟩ => ?_
  rw [e]
  exact q) fun ρ j => by simpa using k ρ j
theorem ue {c : Call} {n : Nat} {t : P} {body : List S} (J : Nat -> List Sl -> Prop) {Q : Fl -> List Sl -> Prop} (h : ∀ m ρ, J m ρ -> (ev c t ρ).sat fun r ρ1 => ∃ b, r.d = .bl b /\ if b = true then (jo c n body ρ1).sat (fQ (fun ρ2 => ∃ m', m' < m /\ J m' ρ2) Q) else Q .next ρ1) : ∀ {k m : Nat} {ρ : List Sl}, m < k -> J m ρ -> (Am c n t body k ρ).sat Q
 | 0, m, ρ, hk, _ => absurd hk (Nat.not_lt_zero _)
 | k + 1, m, ρ, hk, j => by
   unfold Am
   rw [Bb, bB, kh, bB]
   refine (h m ρ j).imp fun r ρ1 ⟨b, e, q⟩ => ?_
   rw [e]
   show (if b = true then _ else _ : Res Fl).sat Q
   cases b with
   | false =>
     rw [if_neg (by simp)] at q
     rw [if_neg (by simp)]; exact q
   | true =>
     rw [if_pos rfl] at q
     rw [if_pos rfl, bB]
     refine q.imp fun fl ρ2 q => ?_
     cases fl with
     | next => obtain ⟨m', hm, j'⟩ := q; exact ue J h (Nat.lt_of_lt_of_le hm (Nat.lt_succ_iff.mp hk)) j'
     | cont => obtain ⟨m', hm, j'⟩ := q; exact ue J h (Nat.lt_of_lt_of_le hm (Nat.lt_succ_iff.mp hk)) j'
     | brk => exact q
     | ret v => exact q
@[simp] theorem Yi : type_of% @HH.ev.eq_1 := @HH.ev.eq_1
@[simp] theorem Y4 : type_of% @HH.ev.eq_2 := @HH.ev.eq_2
@[simp] theorem Yo : type_of% @HH.ev.eq_3 := @HH.ev.eq_3
@[simp] theorem Yl : type_of% @HH.ev.eq_4 := @HH.ev.eq_4
@[simp] theorem Yp : type_of% @HH.ev.eq_5 := @HH.ev.eq_5
@[simp] theorem Yw : type_of% @HH.ev.eq_6 := @HH.ev.eq_6
@[simp] theorem Ym : type_of% @HH.ev.eq_7 := @HH.ev.eq_7
@[simp] theorem YX : type_of% @HH.ev.eq_8 := @HH.ev.eq_8
@[simp] theorem Yv : type_of% @HH.ev.eq_9 := @HH.ev.eq_9
@[simp] theorem Vs : type_of% @HH.ev.eq_10 := @HH.ev.eq_10
@[simp] theorem WM : type_of% @HH.ev.eq_11 := @HH.ev.eq_11
@[simp] theorem V8 : type_of% @HH.ev.eq_12 := @HH.ev.eq_12
@[simp] theorem Uq : type_of% @HH.ev.eq_13 := @HH.ev.eq_13
@[simp] theorem Ut : type_of% @HH.ev.eq_14 := @HH.ev.eq_14
@[simp] theorem WD : type_of% @HH.ev.eq_15 := @HH.ev.eq_15
@[simp] theorem WQ : type_of% @HH.ev.eq_16 := @HH.ev.eq_16
@[simp] theorem Vk : type_of% @HH.ev.eq_17 := @HH.ev.eq_17
@[simp] theorem Up : type_of% @HH.ev.eq_18 := @HH.ev.eq_18
@[simp] theorem Wu : type_of% @HH.ev.eq_19 := @HH.ev.eq_19
@[simp] theorem Vp : type_of% @HH.ev.eq_20 := @HH.ev.eq_20
@[simp] theorem Wz : type_of% @HH.ev.eq_22 := @HH.ev.eq_22
@[simp] theorem Um : type_of% @HH.ev.eq_23 := @HH.ev.eq_23
@[simp] theorem UG : type_of% @HH.ev.eq_24 := @HH.ev.eq_24
@[simp] theorem Ve : type_of% @HH.ev.eq_25 := @HH.ev.eq_25
@[simp] theorem Yy : type_of% @HH.ex.eq_1 := @HH.ex.eq_1
@[simp] theorem Yc : type_of% @HH.ex.eq_2 := @HH.ex.eq_2
@[simp] theorem YC : type_of% @HH.ex.eq_3 := @HH.ex.eq_3
@[simp] theorem YL : type_of% @HH.ex.eq_4 := @HH.ex.eq_4
@[simp] theorem Yt : type_of% @HH.ex.eq_5 := @HH.ex.eq_5
@[simp] theorem Ys : type_of% @HH.ex.eq_6 := @HH.ex.eq_6
@[simp] theorem YD : type_of% @HH.ex.eq_7 := @HH.ex.eq_7
@[simp] theorem Yn : type_of% @HH.ex.eq_8 := @HH.ex.eq_8
@[simp] theorem Y5 : type_of% @HH.ex.eq_9 := @HH.ex.eq_9
@[simp] theorem Wv : type_of% @HH.ex.eq_10 := @HH.ex.eq_10
@[simp] theorem Vy : type_of% @HH.ex.eq_11 := @HH.ex.eq_11
@[simp] theorem Wi : type_of% @HH.ex.eq_12 := @HH.ex.eq_12
@[simp] theorem W6 : type_of% @HH.ex.eq_13 := @HH.ex.eq_13
@[simp] theorem VG : type_of% @HH.ex.eq_14 := @HH.ex.eq_14
@[simp] theorem W7 : type_of% @HH.ex.eq_15 := @HH.ex.eq_15
@[simp] theorem WX : type_of% @HH.kh.eq_1 := @HH.kh.eq_1
@[simp] theorem WN : type_of% @HH.evs.eq_1 := @HH.evs.eq_1
@[simp] theorem Vl : type_of% @HH.evs.eq_2 := @HH.evs.eq_2
@[simp] theorem U8 : type_of% @HH.vY.eq_1 := @HH.vY.eq_1
@[simp] theorem Wj : type_of% @HH.vY.eq_2 := @HH.vY.eq_2
@[simp] theorem Ww : type_of% @HH.oX.eq_1 := @HH.oX.eq_1
@[simp] theorem V5 : type_of% @HH.oX.eq_2 := @HH.oX.eq_2
@[simp] theorem Vv : type_of% @HH.vL.eq_1 := @HH.vL.eq_1
@[simp] theorem Pj : type_of% @HH.bD.eq_1 := @HH.bD.eq_1
@[simp] theorem Qc : type_of% @HH.bD.eq_2 := @HH.bD.eq_2
@[simp] theorem Ql : type_of% @HH.bD.eq_3 := @HH.bD.eq_3
@[simp] theorem QX : type_of% @HH.bD.eq_4 := @HH.bD.eq_4
@[simp] theorem Qv : type_of% @HH.cu.eq_1 := @HH.cu.eq_1
@[simp] theorem Qu : type_of% @HH.cu.eq_2 := @HH.cu.eq_2
@[simp] theorem Pa : type_of% @HH.aO.eq_1 := @HH.aO.eq_1
@[simp] theorem Oa : type_of% @HH.aO.eq_2 := @HH.aO.eq_2
@[simp] theorem Q0 : type_of% @HH.aO.eq_3 := @HH.aO.eq_3
@[simp] theorem Qe : type_of% @HH.aO.eq_4 := @HH.aO.eq_4
end HH
end
section
namespace HH
open PySem L2 PySem.Spec PyProof.Rows
section
variable {X : Cx} {c : Call} {a b : Expr} {pa pb : P} {pos : Pos}
theorem mQ : ∀ {ds : List D} {ns : List Int}, ds.mapM oU = some ns -> ds = ns.map D.int
 | [], ns, h => by simp at h; subst h; rfl
 | d :: ds, ns, h => by
   simp [List.mapM_cons, Option.bind_eq_some_iff] at h
   obtain ⟨i, e1, ms, e2, rfl⟩ := h
   rw [gk e1, mQ e2]; rfl
theorem dJ {K : PySem.W.Frag} {F : Hp} : ∀ {ns : List Int} {ys : List V}, aJ K F ys (ns.map D.int) -> ys = ns.map V.int
 | [], ys, h => by rw [h.gh]; rfl
 | n :: ns, ys, h => by
   obtain ⟨v, r, rfl, h1, t⟩ := h.cD
   rw [Rep] at h1
   rw [h1, dJ t]; rfl
theorem qz {ns : List Int} {us : List Value} (h : Vals (ns.map V.int) us) {i : Nat} {v : Value} (e : us.toArray[i]? = some v) : ∃ t, v = .int (ns.getD i 0) t := by
 have e : us[i]? = some v := by simpa using e
 have hi : i < us.length := (List.getElem?_eq_some_iff.mp e).1
 have hl := h.length
 rw [List.length_map] at hl
 have g : (ns.map V.int)[i]? = some (.int (ns.getD i 0)) := by
  rw [List.getElem?_map, List.getElem?_eq_getElem (by omega)]
  simp [List.getD, show i < ns.length by omega]
 obtain ⟨w, g1, g2⟩ := h.get g
 rw [e] at g1
 cases g1
 exact g2
theorem walked {pins : List (Addr × Obj)} {σ : L2.St} {H : Hp} {s : Shared} {p : Addr} {ys : List V} (I : L2.Inv X pins σ H s) (hc : X.calm = true) (hq : fU X.K H p ys \/ jr X.K H p ys) {Q : Value -> Shared -> Prop} {E : Value -> Shared -> Prop}
 (k : ∀ (it : Addr) (us : List Value) (s₂ : Shared) (St : Nat -> Heap -> Prop), Vals ys us -> Walks X.prog X.w X.A.in1 it [it, p] [it] us.toArray.size (fun i v => us.toArray[i]? = some v) St -> St 0 s₂.heap -> (∀ b ∈ [it, p], b < s₂.heap.objs.size) ->
  (∀ h' tk, (∀ b o, b ∉ [it] -> s₂.heap.get? b = some o -> h'.get? b = some o) -> L2.Inv X pins σ H { s₂ with heap := h', toks := tk }) -> Q (.ref it) s₂) : wpAny (model X.prog X.w) X.A.in1 (pyIter (.ref p)) Q E s := by
 have hh : X.A.in1.handled = none := I.ok.hd hc
 rcases hq with hq | hq
 . obtain ⟨us, rv, pl, hz⟩ := I.list hq
   have pl := pl.isList
   have hlt : p < s.heap.objs.size := by obtain ⟨o, h1, _⟩ := pl; exact Heap.lt_size h1
   refine wpAny_pyIter_list pl (k s.heap.objs.size us _ _ rv (Walks.list hh s.heap.objs.size p (Nat.ne_of_lt hlt) us.toArray) ⟨⟨_, Heap.get?_push_size _ rfl, rfl, rfl⟩, ?_⟩ ?_ fun h' tk kp => ?_)
   . obtain ⟨o, h1, h2⟩ := pl
     exact ⟨o, Heap.get?_push_of_some _ h1, h2⟩
   . intro b hb
     obtain ⟨o, h1, _⟩ := pl
     simp at hb
     rcases hb with rfl | rfl
     . exact Heap.lt_size (Heap.get?_push_size _ rfl)
     . exact Heap.lt_size (Heap.get?_push_of_some _ h1)
   . exact I.kept (fun b o z => kp b o (by simp; exact Nat.ne_of_lt (Heap.lt_size z)) (Heap.get?_push_of_some _ z))
 . obtain ⟨us, rv, pl, hz⟩ := I.tuple hq
   have hlt : p < s.heap.objs.size := by obtain ⟨o, h1, _⟩ := pl; exact Heap.lt_size h1
   refine wpAny_pyIter_tuple pl (k s.heap.objs.size us _ _ rv (Walks.tuple hh s.heap.objs.size p (Nat.ne_of_lt hlt) us.toArray) ⟨⟨_, Heap.get?_push_size _ rfl, rfl, rfl⟩, ?_⟩ ?_ fun h' tk kp => ?_)
   . obtain ⟨o, h1, h2⟩ := pl
     exact ⟨o, Heap.get?_push_of_some _ h1, h2⟩
   . intro b hb
     obtain ⟨o, h1, _⟩ := pl
     simp at hb
     rcases hb with rfl | rfl
     . exact Heap.lt_size (Heap.get?_push_size _ rfl)
     . exact Heap.lt_size (Heap.get?_push_of_some _ h1)
   . exact I.kept (fun b o z => kp b o (by simp; exact Nat.ne_of_lt (Heap.lt_size z)) (Heap.get?_push_of_some _ z))
theorem lN (ns : List Int) : ∀ k, k <= ns.length -> preSum (fun i => ns.getD i 0) k = (ns.take k).sum
 | 0, _ => by simp [preSum]
 | k + 1, h => by
   rw [preSum, lN ns k (by omega), List.take_succ, List.sum_append]
   simp [List.getD, show k < ns.length by omega]
theorem Qk (hc : X.calm = true) : cR X (.builtin "sum") (Gu X.K fun x => blt .sum [x]) := by
 rintro pins s σ H xs us Q I r ⟨x, hx, F, d, r', sm, px, he, k⟩
 obtain ⟨ns, e1, he⟩ := map_some (show ((items d).bind fun ds => ds.mapM oU).map _ = some r' from he)
 subst he
 obtain ⟨ds, e2, e3⟩ := dZ e1
 obtain ⟨p, ys, rfl, hq, rs⟩ := px.items sm e2
 rw [mQ e3] at rs
 have ey := dJ rs
 subst hx
 obtain ⟨u, rfl, rx⟩ := r.one
 cases rx
 refine call_sum_walkG (walked I hc hq fun it us s₂ St rv W h0 hl kp => ?_)
 subst ey
 have hlen : us.toArray.size = ns.length := by rw [List.size_toArray, <- rv.length, List.length_map]
 refine ⟨it, _, _, _, _, St, fun i => ns.getD i 0, rfl, W, h0, hl, fun i v e => qz rv e, fun h' tk t' kk => ?_⟩
 rw [hlen, lN ns _ (Nat.le_refl _), List.take_length]
 exact ⟨.int _, H, kp h' tk kk, ⟨t', rfl⟩, cA.dO sm (cP _) k⟩
theorem Av {ns : List Int} {m : Int} (hm : ns.min? = some m) : ns.getD (argBest (fun i j => decide (ns.getD i 0 < ns.getD j 0)) (ns.length - 1)) 0 = m := by
 have hne : ns ≠ [] := by rintro rfl; simp at hm
 have hl : 0 < ns.length := List.length_pos_iff.mpr hne
 obtain ⟨h1, h2⟩ := argBest_lt (fun i => ns.getD i 0) (ns.length - 1)
 have hb := List.min?_eq_some_iff.mp hm
 generalize argBest (fun i j => decide (ns.getD i 0 < ns.getD j 0)) (ns.length - 1) = j at *
 have hj : j < ns.length := by omega
 have hmem : ns.getD j 0 ∈ ns := by simp [List.getD, hj]
 obtain ⟨q, hq, e⟩ := List.getElem_of_mem hb.1
 have h3 := h2 q (by omega)
 simp only [List.getD, List.getElem?_eq_getElem hq, Option.getD_some] at h3
 rw [e] at h3
 have h4 := hb.2 _ hmem
 have h3 : ns.getD j 0 <= m := h3
 omega
theorem Jp (hc : X.calm = true) : cR X (.builtin "min") (Gu X.K fun x => blt .BR [x]) := by
 rintro pins s σ H xs us Q I r ⟨x, hx, F, d, r', sm, px, he, k⟩
 obtain ⟨ns, e1, he⟩ := dZ (show ((items d).bind fun ds => ds.mapM oU).bind _ = some r' from he)
 obtain ⟨m, hm, he⟩ := map_some he
 subst he
 obtain ⟨ds, e2, e3⟩ := dZ e1
 obtain ⟨p, ys, rfl, hq, rs⟩ := px.items sm e2
 rw [mQ e3] at rs
 have ey := dJ rs
 subst hx
 obtain ⟨u, rfl, rx⟩ := r.one
 cases rx
 refine call_min_walk (walked I hc hq fun it us s₂ St rv W h0 hl kp => ?_)
 subst ey
 have hlen : us.toArray.size = ns.length := by rw [List.size_toArray, <- rv.length, List.length_map]
 have hpos : 0 < ns.length := by cases ns with | nil => simp at hm | cons _ _ => simp
 refine ⟨it, _, _, _, _, St, _, rfl, W, h0, hl, by rw [hlen]; exact hpos, CmpOf.ints_lt (fun i => ns.getD i 0) (fun i v e => qz rv e), fun v h' tk hv kk => ?_⟩
 rw [hlen] at hv
 obtain ⟨t, rfl⟩ := qz rv hv
 rw [Av hm]
 exact ⟨.int _, H, kp h' tk kk, ⟨t, rfl⟩, cA.dO sm (cP _) k⟩
theorem boot_sum : bootBuiltins "sum" = some (.builtin "sum") := by decide +kernel
theorem uZ {x : Str} {p' : Pos} (hx : x = "sum") (hc : X.calm = true) (hg : Gl X x) (hm : X.mg x = none) (ha : SX X c a pa) (hs : starEach [a] X.env = (false, eval a X.env) :: starEach [] X.env := by rfl) : SX X c (.Call (.Name x p') [a] [] pos) (.blt .sum [pa]) := by
 subst hx; exact oJ (fun h => cW (Qk hc) hg hm boot_sum h (he := hs)) ha (fun ρ => by rw [HH.ev]) rfl hs
theorem Et {x : Str} {p' : Pos} (hx : x = "min") (hc : X.calm = true) (hg : Gl X x) (hm : X.mg x = none) (ha : SX X c a pa) (hs : starEach [a] X.env = (false, eval a X.env) :: starEach [] X.env := by rfl) : SX X c (.Call (.Name x p') [a] [] pos) (.blt .BR [pa]) := by
 subst hx; exact oJ (fun h => cW (Jp hc) hg hm boot_min h (he := hs)) ha (fun ρ => by rw [HH.ev]) rfl hs
end
end HH
end
section
namespace HH
open PySem
section
variable {i j : Int} {ds es : List D} {d : D} {b b' : Bool}
@[simp] theorem Su : tQ .shl = Bu := rfl
@[simp] theorem Ss : tQ .shr = zq := rfl
@[simp] theorem Om : tQ .band = uW := rfl
@[simp] theorem Ml : Bu (.int i) (.int j) = if 0 <= j /\ j <= 1000 /\ i.natAbs < 18446744073709551616 then some (.val (.int (i * 2 ^ j.toNat))) else none := rfl
@[simp] theorem Lk : zq (.int i) (.int j) = if 0 <= j then some (.val (.int (i / 2 ^ j.toNat))) else none := rfl
@[simp] theorem HF : uW (.int i) (.int j) = some (.val (.int (Builtin.bitAnd i j))) := rfl
@[simp] theorem MN : nq (.lst ds) (.int i) = if 0 <= i /\ 0 < ds.length /\ ds.length * i.toNat <= lim then some (.own (List.replicate i.toNat ds).flatten) else none := rfl
@[simp] theorem MF : nq (.tup ds) (.int i) = if 0 <= i /\ 0 < ds.length /\ ds.length * i.toNat <= lim then some (.val (.tup (List.replicate i.toNat ds).flatten)) else none := rfl
@[simp] theorem Vi : cm .Zg (.bl b) (.bl true) = some b := rfl
@[simp] theorem R6 : cm .Rq (.bl b) (.bl true) = some (!b) := rfl
@[simp] theorem TQ : blt .sum [.lst ds] = (ds.mapM oU).map fun ns => .val (.int ns.sum) := rfl
@[simp] theorem QR : blt .BR [.lst ds] = (ds.mapM oU).bind fun ns => ns.min?.map fun i => .val (.int i) := rfl
@[simp] theorem Qn : blt .Rr [.lst ds] = (ds.mapM oU).bind fun ns => ns.max?.map fun i => .val (.int i) := rfl
end
@[simp] theorem VB : type_of% @HH.ex.eq_17 := @HH.ex.eq_17
@[simp] theorem Wg : type_of% @HH.ex.eq_18 := @HH.ex.eq_18
@[simp] theorem Ul : type_of% @HH.ex.eq_19 := @HH.ex.eq_19
@[simp] theorem U5 : type_of% @HH.ex.eq_20 := @HH.ex.eq_20
@[simp] theorem U4 : type_of% @HH.ex.eq_21 := @HH.ex.eq_21
theorem sW {ns : List Int} : (ns.map D.int).mapM oU = some ns := by
 induction ns with
 | nil => rfl
 | cons n ns ih => simp [ih]
@[simp] theorem M6 {ns : List Int} : ns.mapM (oU ∘ D.int) = some ns := by
  rw [<- sW (ns := ns), List.mapM_map]
@[simp] theorem Qz {bs : List Bool} : bs.mapM (sO ∘ D.bl) = some bs := by
  induction bs with
  | nil => rfl
  | cons b bs ih => simp [ih]
theorem mG {S : List Int} {i : Int} : ((S.map D.int).any fun y => bz y (.int i)) = S.contains i := by
 induction S with
 | nil => rfl
 | cons s S ih =>
   rw [List.map_cons, List.any_cons, List.contains_cons, ih, bz]
   rw [show (s == i) = (i == s) from Bool.eq_iff_iff.mpr ⟨fun h => by simp at h ⊢; exact h.symm, fun h => by simp at h ⊢; exact h.symm⟩]
theorem jK {S : List Int} : (S.map D.int).all flat = true := by
 rw [List.all_eq_true]; intro d hd; obtain ⟨i, _, rfl⟩ := List.mem_map.mp hd; rfl
theorem VH {S : List Int} {i : Int} : cm .inn (.int i) (.lst (S.map D.int)) = some (S.contains i) := by
 show o5 false _ _ = _
 unfold o5
 simp only [lE, Option.bind_some, j7, jK, Bool.and_true, mG]
 rfl
theorem Wf {S : List Int} {i : Int} : cm .inn (.int i) (.tup (S.map D.int)) = some (S.contains i) := by
 show o5 false _ _ = _
 unfold o5
 simp only [p8, Option.bind_some, j7, jK, Bool.and_true, mG]
 rfl
theorem Ly {S : List Int} {i : Int} : cm .BP (.int i) (.lst (S.map D.int)) = some (!S.contains i) := by
 show o5 true _ _ = _
 unfold o5
 simp only [lE, Option.bind_some, j7, jK, Bool.and_true, mG]
 rfl
theorem MK {S : List Int} {i : Int} : cm .BP (.int i) (.tup (S.map D.int)) = some (!S.contains i) := by
 show o5 true _ _ = _
 unfold o5
 simp only [p8, Option.bind_some, j7, jK, Bool.and_true, mG]
 rfl
theorem mC {n : Nat} {S : List Int} : cN (n + 1) (.lst (S.map D.int)) = true := by
 rw [cN, List.all_eq_true]; intro d hd; obtain ⟨i, _, rfl⟩ := List.mem_map.mp hd; cases n <;> rfl
theorem nG : ∀ {S T : List Int}, eH (S.map D.int) (T.map D.int) = (S == T)
 | [], [] => by simp [eH]
 | [], _ :: _ => by simp [eH]
 | _ :: _, [] => by simp [eH]
 | s :: S, t :: T => by
   rw [List.map_cons, List.map_cons, eH, nG, bz]; rfl
theorem DN {S T : List Int} : cm .eq (.lst (S.map D.int)) (.lst (T.map D.int)) = some (S == T) := by
 show sY _ _ = _
 unfold sY
 rw [mC, mC, bz, nG]; rfl
theorem Dj {S T : List Int} : cm .ne (.lst (S.map D.int)) (.lst (T.map D.int)) = some (!(S == T)) := by
 show qp _ _ = _
 unfold qp
 rw [mC, mC, bz, nG]; rfl
theorem RQ {S : List Int} : cm .eq (.lst (S.map D.int)) (.lst []) = some S.isEmpty := by
 rw [show (.lst [] : D) = .lst (([] : List Int).map D.int) from rfl, DN]
 cases S <;> rfl
theorem qw {S : List Int} : cm .ne (.lst (S.map D.int)) (.lst []) = some (!S.isEmpty) := by
 rw [show (.lst [] : D) = .lst (([] : List Int).map D.int) from rfl, Dj]
 cases S <;> rfl
theorem rE {α : Type} {l : List α} {x : α} : at' (l ++ [x]) (-1) = some x := by
 unfold at' ju
 rw [if_neg (by decide), if_pos (by simp only [List.length_append, List.length_singleton]; omega)]
 have : (-1 + ((l ++ [x]).length : Int)).toNat = l.length := by simp only [List.length_append, List.length_singleton]; omega
 rw [this]; simp
theorem za {α : Type} {l : List α} {f : α -> D} {k : Nat} {x : α} (h : l[k]? = some x) : at' (l.map f) (k : Int) = some (f x) := by
 have hk := (List.getElem?_eq_some_iff.mp h).1
 rw [zG (by simpa using hk), List.getElem?_map, h]; rfl
theorem Kc {n k : Nat} (h : k < n) : ju n (k : Int) = some k := by
 unfold ju; rw [if_pos (by omega), if_pos (by omega)]; simp
theorem Tg {α : Type} {l : List α} {i : Int} (h : 0 <= i) (h' : i < l.length) : ∃ x, at' l i = some x /\ x ∈ l := by
 rw [mU h h']
 have hk : i.toNat < l.length := by omega
 exact ⟨l[i.toNat], by simp [hk], List.getElem_mem hk⟩
theorem fW {is : List Nat} {one : Bool} {body : List Sl -> Res Fl} {g : Nat -> D} {N : Nat} (J : Nat -> List Sl -> Prop) {Q : Fl -> List Sl -> Prop} (hb : ∀ i ρ, i < N -> J i ρ -> ∃ ρ1, cz ρ is one (g i) = some ρ1 /\ (body ρ1).sat (fQ (J (i + 1)) Q)) (hq : ∀ ρ, J N ρ -> Q .next ρ) {ρ : List Sl} (h0 : J 0 ρ) : (lY is one body ((List.range N).map g) ρ).sat Q := by
 refine cC (fun r ρ => ∃ i, i <= N /\ r = ((List.range N).map g).drop i /\ J i ρ) ?_ ?_ ⟨0, Nat.zero_le _, rfl, h0⟩
 . rintro d r ρ ⟨i, hi, e, j⟩
   have hlt : i < N := by
    rcases Nat.lt_or_ge i N with h | h
    . exact h
    . rw [List.drop_eq_nil_of_le (by simpa using h)] at e; cases e
   rw [List.drop_eq_getElem_cons (by simpa using hlt)] at e
   injection e with e1 e2
   simp at e1
   subst e1
   obtain ⟨ρ1, h1, h2⟩ := hb i ρ hlt j
   refine ⟨ρ1, h1, h2.imp fun fl ρ2 q => ?_⟩
   cases fl with
   | next => exact ⟨i + 1, hlt, e2, q⟩
   | cont => exact ⟨i + 1, hlt, e2, q⟩
   | brk => exact q
   | ret v => exact q
 . rintro ρ ⟨i, hi, e, j⟩
   have : i = N := by
    have hl := congrArg List.length e
    simp at hl
    omega
   subst this
   exact hq ρ j
theorem LK {c : Call} {is : List Nat} {one : Bool} {elt : P} {t : Option P} (J : List Sl -> Prop) (P : D -> Prop) {Q : List D -> List Sl -> Prop} {ds : List D} {ρ : List Sl} (j : J ρ)
 (h : ∀ d, d ∈ ds -> ∀ ρ, J ρ -> ∃ ρ1, cz ρ is one d = some ρ1 /\ (oX c t ρ1).sat fun b ρ2 => if b = true then (ev c elt ρ2).sat fun r ρ3 => P r.d /\ J ρ3 else J ρ2) (k : ∀ xs ρ, J ρ -> xs.length <= ds.length -> (∀ x ∈ xs, P x) -> Q xs ρ) : (jR c is one t elt ds ρ).sat Q := by
 suffices hh : ∀ (ds : List D) (acc : List D) (ρ : List Sl), J ρ -> (∀ x ∈ acc, P x) -> (∀ d, d ∈ ds -> ∀ ρ, J ρ -> ∃ ρ1, cz ρ is one d = some ρ1 /\ (oX c t ρ1).sat fun b ρ2 => if b = true then (ev c elt ρ2).sat fun r ρ3 => P r.d /\ J ρ3 else J ρ2) ->
  (turns is one (oX c t) (ev c elt) ds acc ρ).sat fun xs ρ => J ρ /\ (∀ x ∈ xs, P x) /\ xs.length <= acc.length + ds.length from
  (hh ds [] ρ j (by simp) h).imp fun xs ρ ⟨q1, q2, q3⟩ => k xs ρ q1 (by simpa using q3) q2
 intro ds
 induction ds with
 | nil => intro acc ρ j ha _; rw [turns]; exact ⟨j, ha, by simp⟩
 | cons d r ih =>
   intro acc ρ j ha h
   obtain ⟨ρ1, e, h1⟩ := h d (by simp) ρ j
   rw [turns, e]
   show ((oX c t ρ1).bind _).sat _
   rw [bB]
   refine h1.imp fun b ρ2 q => ?_
   cases b with
   | true =>
     rw [if_pos rfl] at q
     rw [if_pos rfl, bB]
     refine q.imp fun x ρ3 ⟨p, j3⟩ => ?_
     refine (ih (acc ++ [x.d]) ρ3 j3 (fun y hy => ?_) fun d' hd' => h d' (by simp [hd'])).imp fun xs ρ ⟨q1, q2, q3⟩ => ⟨q1, q2, by simp at q3 ⊢; omega⟩
     rcases List.mem_append.mp hy with hy | hy
     . exact ha y hy
     . rw [List.mem_singleton.mp hy]; exact p
   | false =>
     rw [if_neg (by simp)] at q
     rw [if_neg (by simp)]
     exact (ih acc ρ2 q ha fun d' hd' => h d' (by simp [hd'])).imp fun xs ρ ⟨q1, q2, q3⟩ => ⟨q1, q2, by simp at q3 ⊢; omega⟩
theorem pY {c : Call} {is : List Nat} {one : Bool} {elt : P} (J : List Sl -> Prop) (P : D -> Prop) {Q : List D -> List Sl -> Prop} {ds : List D} {ρ : List Sl} (j : J ρ)
 (h : ∀ d, d ∈ ds -> ∀ ρ, J ρ -> ∃ ρ1, cz ρ is one d = some ρ1 /\ (ev c elt ρ1).sat fun r ρ3 => P r.d /\ J ρ3) (k : ∀ xs ρ, J ρ -> xs.length = ds.length -> (∀ x ∈ xs, P x) -> Q xs ρ) : (jR c is one none elt ds ρ).sat Q := by
 suffices hh : ∀ (ds : List D) (acc : List D) (ρ : List Sl), J ρ -> (∀ x ∈ acc, P x) -> (∀ d, d ∈ ds -> ∀ ρ, J ρ -> ∃ ρ1, cz ρ is one d = some ρ1 /\ (ev c elt ρ1).sat fun r ρ3 => P r.d /\ J ρ3) ->
  (turns is one (oX c none) (ev c elt) ds acc ρ).sat fun xs ρ => J ρ /\ (∀ x ∈ xs, P x) /\ xs.length = acc.length + ds.length from
  (hh ds [] ρ j (by simp) h).imp fun xs ρ ⟨q1, q2, q3⟩ => k xs ρ q1 (by simpa using q3) q2
 intro ds
 induction ds with
 | nil => intro acc ρ j ha _; rw [turns]; exact ⟨j, ha, by simp⟩
 | cons d r ih =>
   intro acc ρ j ha h
   obtain ⟨ρ1, e, h1⟩ := h d (by simp) ρ j
   rw [turns, e]
   show ((oX c none ρ1).bind _).sat _
   rw [oX]
   show ((ev c elt ρ1).bind _).sat _
   rw [bB]
   refine h1.imp fun x ρ3 ⟨p, j3⟩ => ?_
   refine (ih (acc ++ [x.d]) ρ3 j3 (fun y hy => ?_) fun d' hd' => h d' (by simp [hd'])).imp fun xs ρ ⟨q1, q2, q3⟩ => ⟨q1, q2, by simp at q3 ⊢; omega⟩
   rcases List.mem_append.mp hy with hy | hy
   . exact ha y hy
   . rw [List.mem_singleton.mp hy]; exact p
inductive A3 (a b c : Prop) : Prop where
 | mk (ha : a) (hb : b) (hc : c)
inductive A4 (a b c d : Prop) : Prop where
 | mk (ha : a) (hb : b) (hc : c) (hd : d)
inductive A5 (a b c d e : Prop) : Prop where
 | mk (ha : a) (hb : b) (hc : c) (hd : d) (he : e)
inductive A6 (a b c d e f : Prop) : Prop where
 | mk (ha : a) (hb : b) (hc : c) (hd : d) (he : e) (hf : f)
inductive A7 (a b c d e f g : Prop) : Prop where
 | mk (ha : a) (hb : b) (hc : c) (hd : d) (he : e) (hf : f) (hg : g)
inductive A8 (a b c d e f g h : Prop) : Prop where
 | mk (ha : a) (hb : b) (hc : c) (hd : d) (he : e) (hf : f) (hg : g) (hh : h)
inductive A9 (a b c d e f g h i : Prop) : Prop where
 | mk (ha : a) (hb : b) (hc : c) (hd : d) (he : e) (hf : f) (hg : g) (hh : h) (hi : i)
end HH
end
section
namespace HH
open PySem L2 PySem.Spec PyProof.Rows
section
variable {X : Cx} {c : Call} {n : Nat} {e a b d tg : Expr} {p pa pb pd : P} {pos : Pos}
theorem qO {g : TG} {is : List Nat} (he : SX X c e p) (hg : PG X tg g) (hgo : FP X.K (fun ρ d => cz ρ is false d) g) (hs : swapsWithSole [tg] e pos.line X.env = pure false := by rfl) (hw : swappedStores [tg] e X.env = pure none := by rfl)
 (h1 : (assignEach [tg] X.env).map (·.2) = [assign tg X.env] := by rfl) : SS X c n (.Assign [tg] e pos) (.NB is p) := by
 refine jb (zy he.ev hg hs hw h1) ?_
 rintro D σ H ⟨F, ρ, fl, ρ', g0, e, k⟩
 rw [ex] at e
 obtain ⟨r, ρ1, e1, e⟩ := aq e
 refine ⟨F, ρ, r, ρ1, g0, e1, fun v F1 H1 s1 rr => ?_⟩
 obtain ⟨F2, s2, _, rp⟩ := s1.jc rr
 split at e
 . rename_i ds hd
   obtain ⟨ρ2, ρ3, e2, e⟩ := aq e
   cases e
   have zz := aM e2; clear e2; obtain ⟨e2, e3⟩ := zz
   rw [hd] at rp
   exact hgo v (.tup ds) F2 ρ1 _ σ H1 _ s2.gs rp (by show cz ρ1 is false (.tup ds) = _; cases is <;> exact e2) fun σ' s3 => k F2 σ' H1 (s2.trans s3)
 . cases e
end
end HH
end
section
namespace HT
open PySem PySem.Spec PyProof.Rows
section
variable {prog : Program} {w : World} {A : Around} {E : Value -> Shared -> Prop} {s : Shared}
theorem ud {t sl : Addr} {its : Array Value} {vl vu : Value} {lo hi : Option Int} {Q : Value -> Shared -> Prop} (ht : IsTup s.heap t its) (hs : s.heap.IsSliceOf sl vl vu .none) (pl : IsPart vl lo) (pu : IsPart vu hi)
 (h1 : cH its.size 0 lo = 0) (h2 : cH its.size its.size hi = its.size) (h : Q (.ref t) s) : wpAny (model prog w) A (getItem (.ref t) (.ref sl)) Q E s := by
 obtain ⟨os, hos, hcs, hds⟩ := id hs
 have hT : s.TypeIs (.ref sl) "slice" := ⟨os, hos, hcs⟩
 unfold getItem
 try with_reducible refine wpAny_holding ?_
 first | refine wpAny_bind (wpAny_pure ?_) | skip
 refine wpAny_bind (wpAny_sequenceKey ht.typeIs (by decide) (wpAny_bind (wpAny_callSpecial?_slot (name := Str.ofString "__getitem__") ht.typeIs slot_tuple_getitem (wpAny_call_entry slot_tuple_getitem ht.typeIs entry_tuple_getitem ?_ (args_tuple_getitem _ _)))))
 show wpAny _ _ (Builtin.Tuple.tupleItemsOf (.ref t) >>= _) _ _ s
 refine wpAny_bind (tupleItemsOf_ ht (wpAny_bind (wpAny_typeOf hT ?_)))
 rw [if_pos (by decide)]
 refine wpAny_bind (gb hs pl pu ?_)
 have XH : ((((cH its.size 0 lo : Nat) : Int) == 0 && (1 : Int) == 1 && (cH its.size its.size hi - cH its.size 0 lo) == its.size) = true) := by rw [h1, h2]; simp
 show wpAny _ _ (if (((cH its.size 0 lo : Nat) : Int) == 0 && (1 : Int) == 1 && (cH its.size its.size hi - cH its.size 0 lo) == its.size) = true then _ else _) _ _ s
 rw [if_pos XH]
 unfold Builtin.Tuple.tupleIsExact
 refine wpAny_bind (wpAny_bind (wpAny_typeOf ht.typeIs (wpAny_pure ?_)))
 rw [if_pos (by decide)]
 exact wpAny_bind (wpAny_rule (wpAny_pure ⟨_, rfl, wpAny_pure h⟩))
end
end HT
namespace HH
open PySem L2 PySem.Spec PyProof.Rows
noncomputable def Vh : Expr -> Bool
 | .Starred _ _ => false
 | _ => true
theorem gJ {e : Expr} {es : List Expr} {env : Env} (h : Vh e = true) : starEach (e :: es) env = (false, eval e env) :: starEach es env := by
 cases e with
 | Starred a b => cases h
 | _ => rw [starEach]; (intro e p z; cases z)
noncomputable def ni : List Int -> List Expr -> Option (List Expr)
 | [], es => some es
 | i :: is, .Constant (.int j) _ _ :: es => if i = j then ni is es else none
 | _, _ => none
theorem fM {X : L2.Cx} {c : Call} : ∀ (is : List Int) {es es' : List Expr} {ps' : List P}, ni is es = some es' -> SA X c es' ps' -> SA X c es (is.map (fun i => P.con (.int i)) ++ ps')
 | [], es, es', ps', h, r => by cases h; exact r
 | i :: is, [], es', ps', h, r => by cases h
 | i :: is, e :: es, es', ps', h, r => by
   cases e with
   | Constant v k p =>
     cases v with
     | int j =>
       rw [ni] at h
       split at h
       . rename_i hij
         subst hij
         exact wL ak (fM is h r) (gJ rfl)
       . cases h
     | _ => cases h
   | _ => cases h
theorem qX {n d : Nat} {o : Option Int} : HT.cH n d o = HH.cH n d o := by
 cases o with
 | none => rfl
 | some v =>
   show (if v < 0 then (v + (n : Int)).toNat else min v.toNat n) = (if 0 <= v then min v.toNat n else (v + n).toNat)
   by_cases h : 0 <= v
   . rw [if_pos h, if_neg (by omega)]
   . rw [if_neg h, if_pos (by omega)]
theorem Ar {xs : List V} {lo hi : Option Int} : sG xs lo hi = HH.cut xs lo hi := by
 unfold sG HH.cut; rw [qX, qX]
theorem aJ.cut {K : PySem.W.Frag} {F : Hp} {ds : List D} {vs : List V} {lo hi : Option Int} (h : aJ K F vs ds) : aJ K F (HH.cut vs lo hi) (HH.cut ds lo hi) := by
 unfold HH.cut; rw [h.length]; exact (h.drop _).take _
section
variable {X : Cx} {c : Call} {n : Nat} {e a b : Expr} {p pa pb pl ph : P} {pos p2 : Pos} {lo hi : Option Expr}
noncomputable def VP (K : PySem.W.Frag) : V -> Option Int -> Option Int -> Hp -> VK -> Prop := fun x lo hi H Q => ∃ F d r, aP F H /\ dq K F H x d /\ Lx d (some lo) (some hi) = some r /\ ∀ v F' H', Ext F H F' H' -> cA K F' H' H v r -> Q v H'
theorem Ox : RN X (VP X.K) := by
 rintro pins s σ H x v vl vu lo hi sl Q I rx hs pl pu ⟨F, d, r, sm, px, he, k⟩
 cases d with
 | lst ds =>
   cases he
   obtain ⟨a, xs, rfl, hq, rs⟩ := px.lst sm
   refine CN pins s σ H _ v vl vu lo hi sl Q I rx hs pl pu ⟨a, xs, rfl, hq, fun p hp => ?_⟩
   rw [Ar]
   exact vH sm rs.cut hp k
 | tup ds =>
   cases he
   obtain ⟨a, xs, rfl, hq, rs, rt⟩ := px.tup sm
   by_cases hw : HT.cH xs.length 0 lo = 0 /\ HT.cH xs.length xs.length hi = xs.length
   . cases rx
     obtain ⟨its, rv, ht, hz⟩ := I.tuple hq
     have hlen : its.toArray.size = xs.length := by rw [List.size_toArray]; exact rv.length.symm
     refine ⟨"tuple", _, slot_tuple_getitem.lookup, ht.typeIs, HT.ud ht hs pl pu (by rw [hlen]; exact hw.1) (by rw [hlen]; exact hw.2) ⟨.ref a, H, I, rfl, ?_⟩⟩
     have hc : HH.cut ds lo hi = ds := by
      unfold HH.cut
      rw [<- rs.length, <- qX, <- qX, hw.1, hw.2]; simp [rs.length]
     rw [hc] at k
     exact cA.dO sm rt k
   . refine JP pins s σ H _ v vl vu lo hi sl Q I rx hs pl pu ⟨a, xs, rfl, hq, hw, fun p hp => ?_⟩
     rw [Ar]
     exact Bc sm rs.cut hp k
 | _ => cases he
noncomputable def SO (X : Cx) (c : Call) (o : Option Expr) (p : P) : Prop := ∃ t, PO X o t /\ ∀ {σ : L2.St} {H F : Hp} {ρ ρ' : List Sl} {d : D} {i : Option Int} {Q : Option Int -> Hp -> Prop}, GS X.K F ρ σ H -> fV (isVar p) (HH.ev c p) ρ = .ok d ρ' -> part p d = some i -> (∀ F' H', bQ X.K F ρ σ H F' ρ' σ H' -> Q i H') -> t σ H Q
theorem rF : SO X c none (.con .non) := by
 refine ⟨_, Ei, fun {σ H F ρ ρ' d i Q} g e h k => ?_⟩
 cases (show some none = some i from h)
 have e' : (HH.ev c (.con .non) ρ).bind (fun r ρ => .ok r.d ρ) = .ok d ρ' := e
 clear e
 rw [HH.ev] at e'
 cases e'
 exact k F H (.refl g)
theorem qZ (h : SX X c e p) (hn : vM p = false := by rfl) : SO X c (some e) p := by
 obtain ⟨t, h1, h2⟩ := h.fV
 refine ⟨_, Ds h1, fun {σ H F ρ ρ' d i Q} g e hp k => ?_⟩
 unfold part at hp
 rw [hn, if_neg (by decide)] at hp
 obtain ⟨j, e1, e2⟩ := map_some hp
 cases gk e1
 subst e2
 exact h2 g e fun v F' H' s pv => ⟨j, pv.int, k F' H' s⟩
theorem uo {d : D} {x y : Option (Option Int)} {r : R} (h : Lx d x y = some r) : ∃ lo hi, x = some lo /\ y = some hi := by
 cases x with
 | none => cases d <;> cases h
 | some lo => cases y with
   | none => cases d <;> cases h
   | some hi => exact ⟨lo, hi, rfl, rfl⟩
theorem nW (ha : SX X c a pa) (hl : SO X c lo pl) (hh : SO X c hi ph) : SX X c (.Subscript a (.Slice lo hi none p2) pos) (.slice pa pl ph) := by
 obtain ⟨tl, l1, l2⟩ := hl
 obtain ⟨th, h1, h2⟩ := hh
 cases hv : isVar pa with
 | none =>
   refine ⟨fY (tZ Ox ha.ev l1 h1) ?_, fun i h => by cases h⟩
   rintro σ H Q ⟨F, ρ, r, ρ', g, e, k⟩
   rw [HH.ev, hv] at e
   obtain ⟨x, ρ1, e1', ea⟩ := aq e; clear e
   have RD : (HH.ev c pa ρ).bind (fun r ρ => .ok r.d ρ) = .ok x ρ1 := e1'
   clear e1'
   obtain ⟨rx, ρ1', e1, e0⟩ := aq RD; clear RD
   cases e0
   obtain ⟨y, ρ2, e2, eb⟩ := aq ea; clear ea
   obtain ⟨z, ρ3, e3, ec⟩ := aq eb; clear eb
   obtain ⟨e, e4⟩ := aM ec; clear ec
   subst e4
   obtain ⟨lo', hi', q1, q2⟩ := uo e
   rw [q1, q2] at e
   refine ⟨F, ρ, rx, _, g, e1, fun v F1 H1 s1 rr => ?_⟩
   obtain ⟨F2, s2, _, rp⟩ := s1.jc rr
   refine l2 s2.gs e2 q1 fun F3 H3 s3 => h2 s3.gs e3 q2 fun F4 H4 s4 => ?_
   have s5 := s2.trans (s3.trans s4)
   refine ⟨F4, _, r, s4.gs.sub, .inl ((rp.mono s3.dX).mono s4.dX), e, fun v F5 H5 x rn => ?_⟩
   exact k v F5 H5 (s5.trans (x.stp s5.gs)) (.later s5 (rn.qL s5.gs))
 | some i =>
   refine ⟨fY (tZ Ox (ha.var i hv) l1 h1) ?_, fun i h => by cases h⟩
   rintro σ H Q ⟨F, ρ, r, ρ', g, e, k⟩
   rw [HH.ev, hv] at e
   obtain ⟨x0, ρ0, e0', ea⟩ := aq e; clear e
   obtain ⟨e0, BV⟩ := aM e0'; clear e0'
   subst BV
   obtain ⟨y, ρ2, e2, eb⟩ := aq ea; clear ea
   obtain ⟨z, ρ3, e3, ec⟩ := aq eb; clear eb
   obtain ⟨x, ρ4, e5', ed⟩ := aq ec; clear ec
   obtain ⟨e5, e6⟩ := aM e5'; clear e5'
   subst e6
   obtain ⟨e, e4⟩ := aM ed; clear ed
   subst e4
   obtain ⟨lo', hi', q1, q2⟩ := uo e
   rw [q1, q2] at e
   obtain ⟨v, hv1, _⟩ := g.pk e0
   refine ⟨v, hv1, l2 g e2 q1 fun F3 H3 s3 => h2 s3.gs e3 q2 fun F4 H4 s4 => ?_⟩
   have s5 := s3.trans s4
   obtain ⟨v', hv2, pv⟩ := s5.gs.pk e5
   rw [hv1] at hv2; cases hv2
   refine ⟨F4, _, r, s4.gs.sub, pv, e, fun v F5 H5 x rn => ?_⟩
   exact k v F5 H5 (s5.trans (x.stp s5.gs)) (.later s5 (rn.qL s5.gs))
theorem Jz {x : Str} {k : Nat} {px apos cpos : Pos} (hN : X.N[k]? = some x) (hv : G7 X.env.scope x) (he : SX X c e p) (hline : (apos.endLine == cpos.line) = true := by rfl) (hs : starEach [e] X.env = (false, eval e X.env) :: starEach [] X.env := by rfl)
 (hbase : attributeBase (.Name x px) "extend" X.env (eval (.Name x px) X.env) = eval (.Name x px) X.env := by rfl)
 (hfew : ((backTo cpos (starEach [e] X.env)).all (fun x => !x.1) && (backToKw cpos (keywordEach [] X.env)).all (fun x => x.1.isSome)
  && decide ([e].length + ([] : List Keyword).length + (if ([] : List Keyword).isEmpty then 0 else 1) < 30)) = true := by rfl)
 (hsw : swapsWith (.Call (.Attribute (.Name x px) "extend" apos) [e] [] cpos) none pos.line X.env = pure false := by rfl)
 (hd : (x == ("__debug__" : Str)) = false := by decide) (hcd : (x == ("__classdict__" : Str)) = false := by decide) : SS X c n (.Expr (.Call (.Attribute (.Name x px) "extend" apos) [e] [] cpos) pos) (.K9 k p) := by
 refine jb (wj (Ha PySem.F.plainAttrs_list PySem.F.slot_list_extend PySem.F.type_list_extend yc (qJ hN hv hd hcd) (bV he.ev eY hs) hbase hfew hline hs) hsw) ?_
 rintro D σ H ⟨F, ρ, fl, ρ', g, e, kk⟩
 rw [ex] at e
 obtain ⟨d0, ρ0, e0', ea⟩ := aq e; clear e
 obtain ⟨e0, BV⟩ := aM e0'; clear e0'
 subst BV
 obtain ⟨r, ρ1, e1, eb⟩ := aq ea; clear ea
 obtain ⟨a, xs, h1, h2⟩ := wV g e0
 refine ⟨.ref a, h1, .inl ⟨rfl, xs, h2⟩, F, ρ, r, ρ1, g, e1, fun v F1 H1 s1 rr => ?_⟩
 split at eb
 . rename_i bb ds es q
   split at eb
   . rename_i hlt
     cases eb
     obtain ⟨b1, ys, rfl, w2, w3, w4, w5, w6⟩ := rr
     obtain ⟨ad, zs, q1, q2, q3, q4⟩ := s1.gs.o9 k _ ds q rfl
     rw [h1] at q1; cases q1
     exact ⟨_, b1, zs, ys, rfl, rfl, q2, w2, by rw [q4.length, w4.length]; exact hlt, kk F1 σ _ (s1.trans (s1.gs.mut q h1 (q4.append w4)))⟩
   . cases eb
 . cases eb
end
end HH
end
section
namespace HH
open PySem
theorem j8 : ∀ a b : List Int, aQ a b = true -> aQ b a = false
 | [], [], h => by simp [aQ] at h
 | [], _ :: _, _ => by simp [aQ]
 | _ :: _, [], h => by simp [aQ] at h
 | x :: a, y :: b, h => by
   simp only [aQ, Bool.or_eq_true, decide_eq_true_eq, Bool.and_eq_true] at h
   simp only [aQ, Bool.or_eq_false_iff, decide_eq_false_iff_not, Bool.and_eq_false_iff]
   rcases h with h | ⟨h, h'⟩
   . exact ⟨by omega, .inl (by omega)⟩
   . exact ⟨by omega, .inr (j8 a b h')⟩
theorem uP : ∀ a b c : List Int, aQ b a = false -> aQ c b = false -> aQ c a = false
 | [], _, c, _, _ => by cases c <;> simp [aQ]
 | _ :: _, [], _, h, _ => by simp [aQ] at h
 | _ :: _, _ :: _, [], _, h => by simp [aQ] at h
 | x :: a, y :: b, z :: c, h1, h2 => by
   simp only [aQ, Bool.or_eq_false_iff, decide_eq_false_iff_not, Bool.and_eq_false_iff] at h1 h2 ⊢
   refine ⟨by omega, ?_⟩
   by_cases e : z = x
   . right
     exact uP a b c (h1.2.resolve_left (by omega)) (h2.2.resolve_left (by omega))
   . exact .inl e
theorem rT : ∀ a b : List Int, aQ a b = false -> aQ b a = false -> a = b
 | [], [], _, _ => rfl
 | [], _ :: _, h, _ => by simp [aQ] at h
 | _ :: _, [], _, h => by simp [aQ] at h
 | x :: a, y :: b, h1, h2 => by
   simp only [aQ, Bool.or_eq_false_iff, decide_eq_false_iff_not, Bool.and_eq_false_iff] at h1 h2
   have e : x = y := by omega
   subst e
   rw [rT a b (h1.2.resolve_left (by simp)) (h2.2.resolve_left (by simp))]
theorem uc : ∀ {xs ys : List D}, xs.all dC = true -> ys.all dC = true -> xs.map cB = ys.map cB -> xs = ys
 | [], [], _, _, _ => rfl
 | [], _ :: _, _, _, h => by simp at h
 | _ :: _, [], _, _, h => by simp at h
 | x :: xs, y :: ys, h1, h2, h => by
   simp only [List.all_cons, Bool.and_eq_true] at h1 h2
   simp only [List.map_cons, List.cons.injEq] at h
   obtain ⟨i, rfl⟩ : ∃ i, x = .int i := by cases x <;> first | exact ⟨_, rfl⟩ | (have q := h1.1; simp [dC] at q; done)
   obtain ⟨j, rfl⟩ : ∃ j, y = .int j := by cases y <;> first | exact ⟨_, rfl⟩ | (have q := h2.1; simp [dC] at q; done)
   rw [uc h1.2 h2.2 h.2, show i = j from h.1]
theorem wO {x y : D} (h : (dC x = true /\ dC y = true) \/ (ou x = true /\ ou y = true)) (e : bF x = bF y) : x = y := by
 rcases h with ⟨h1, h2⟩ | ⟨h1, h2⟩
 . cases x <;> first | (simp [dC] at h1; done) | skip
   cases y <;> first | (simp [dC] at h2; done) | skip
   simpa [bF] using e
 . cases x <;> first | (simp [ou] at h1; done) | skip
   cases y <;> first | (simp [ou] at h2; done) | skip
   rename_i xs ys
   cases xs <;> first | (simp [ou] at h1; done) | skip
   cases ys <;> first | (simp [ou] at h2; done) | skip
   rw [uc h1 h2 e]
noncomputable def iU (a b : D) : Bool := !aQ (bF b) (bF a)
theorem fC (ds : List D) : (gG ds).Perm ds := List.mergeSort_perm ..
theorem Ff (a b c : D) (h1 : iU a b = true) (h2 : iU b c = true) : iU a c = true := by
 simp only [iU, Bool.not_eq_true'] at *
 exact uP _ _ _ h1 h2
theorem Al (a b : D) : (iU a b || iU b a) = true := by
 simp only [iU, Bool.or_eq_true, Bool.not_eq_true']
 cases h : aQ (bF b) (bF a) with
 | false => exact .inl rfl
 | true => exact .inr (j8 _ _ h)
theorem gP (ds : List D) : (gG ds).Pairwise fun a b => iU a b = true := List.pairwise_mergeSort Ff Al ds
theorem qN {ds : List D} (h : sortable ds = true) : ∀ x ∈ ds, ∀ y ∈ ds, bF x = bF y -> x = y := by
 simp only [sortable, Bool.and_eq_true, Bool.or_eq_true, List.all_eq_true] at h
 intro x hx y hy e
 rcases h.2 with h | h
 . exact wO (.inl ⟨h x hx, h y hy⟩) e
 . exact wO (.inr ⟨h x hx, h y hy⟩) e
theorem jN {ds l : List D} (h : sortable ds = true) (p : l.Perm ds) (s : l.Pairwise fun a b => iU a b = true) : l = gG ds := by
 refine List.Perm.eq_of_pairwise (le := fun a b => iU a b = true) (fun a b ha hb h1 h2 => ?_) s (gP ds) (p.trans (fC ds).symm)
 simp only [iU, Bool.not_eq_true'] at h1 h2
 exact qN h a (p.mem_iff.mp ha) b ((fC ds).mem_iff.mp hb) (rT _ _ h2 h1)
end HH
end
section
namespace HH
open PySem PyProof.Rows
noncomputable abbrev SM := StateT SortSt Sem
noncomputable def Yq : Bool -> Keyed -> Array Keyed -> Nat -> Nat -> Nat -> SM (Option Nat) := sortPriv% PySem.Builtin.gallop
noncomputable def Kv (l : Bool) (k : Keyed) (xs : Array Keyed) (b i : Nat) : SM (Option Bool) :=
 elem' xs (b + i) >>= fun x => if l = true then lt' x k else lt' k x >>= fun o => pure (o.map fun x => !x)
noncomputable def Bm (l : Bool) (k : Keyed) (xs : Array Keyed) (b n lo hi : Nat) : SM (Option Nat) :=
 (forIn [0:n] ((none, lo, hi) : Option (Option Nat) × Nat × Nat) fun _ c =>
  if c.2.1 ≥ c.2.2 then pure (.done (none, c.2.1, c.2.2)) else Kv l k xs b (c.2.1 + (c.2.2 - c.2.1) / 2) >>= fun o => match o with
   | some m => if m = true then pure (.yield (none, c.2.1 + (c.2.2 - c.2.1) / 2 + 1, c.2.2)) else pure (.yield (none, c.2.1, c.2.1 + (c.2.2 - c.2.1) / 2))
   | _ => pure (.done (some none, c.2.1, c.2.2))) >>= fun c => match c.1 with
  | some r => pure r
  | none => pure (some c.2.2)
theorem Kl (l : Bool) (k : Keyed) (xs : Array Keyed) (b n h : Nat) : Yq l k xs b n h = Kv l k xs b h >>= fun o => match o with
 | some r => if r = true then
  (forIn [0:n] ((none, 0, 1) : Option (Option Nat) × Nat × Nat) fun _ c =>
   if c.2.2 ≥ n - h then pure (.done (none, c.2.1, c.2.2)) else Kv l k xs b (h + c.2.2) >>= fun o => match o with
    | some m => if (!m) = true then pure (.done (none, c.2.1, c.2.2)) else pure (.yield (none, c.2.2, 2 * c.2.2 + 1))
    | _ => pure (.done (some none, c.2.1, c.2.2))) >>= fun c => match c.1 with
   | some r => pure r
   | none => Bm l k xs b n (h + c.2.1 + 1) (h + min c.2.2 (n - h))
  else
   (forIn [0:n] ((none, 0, 1) : Option (Option Nat) × Nat × Nat) fun _ c =>
    if c.2.2 ≥ h + 1 then pure (.done (none, c.2.1, c.2.2)) else Kv l k xs b (h - c.2.2) >>= fun o => match o with
     | some m => if m = true then pure (.done (none, c.2.1, c.2.2)) else pure (.yield (none, c.2.2, 2 * c.2.2 + 1))
     | _ => pure (.done (some none, c.2.1, c.2.2))) >>= fun c => match c.1 with
    | some r => pure r
    | none => Bm l k xs b n (h + 1 - min c.2.2 (h + 1)) (h - c.2.1)
 | _ => pure none := by
 unfold Bm
 show Kv l k xs b h >>= _ = _
 congr 1
 funext o
 cases o with
 | none => rfl
 | some r =>
   dsimp only
   cases r with
   | true =>
     simp only [if_true]
     congr 1
     funext c
     obtain ⟨c1, c2, c3⟩ := c
     cases c1 with
     | some r => rfl
     | none =>
       dsimp only
       congr 1
       funext c
       obtain ⟨c1, c2, c3⟩ := c
       cases c1 <;> rfl
   | false =>
     simp only [Bool.false_eq_true, if_false]
     congr 1
     funext c
     obtain ⟨c1, c2, c3⟩ := c
     cases c1 with
     | some r => rfl
     | none =>
       dsimp only
       congr 1
       funext c
       obtain ⟨c1, c2, c3⟩ := c
       cases c1 <;> rfl
structure Rk (M : Model) (A : Around) (E : Value -> Shared -> Prop) (s : Shared) (κ : SortKind) (ok : Keyed -> Prop) (K : Keyed -> Int) : Prop where
 lt : ∀ {x y : Keyed} {Q : Option Bool -> SortSt -> Prop} {st : SortSt}, ok x -> ok y -> kindOf st = κ -> Q (some (decide (K x < K y))) st -> wpS M A E s (lt' x y) Q st
section
variable {M : Model} {A : Around} {E : Value -> Shared -> Prop} {s : Shared} {κ : SortKind} {ok : Keyed -> Prop} {K : Keyed -> Int}
noncomputable def it (xs : Array Keyed) (i : Nat) : Keyed := xs.getD i (Value.none, Value.none)
theorem qF {xs : Array Keyed} {i : Nat} (h : i < xs.size) : xs[i]? = some (it xs i) := by unfold it; simp [Array.getD, h]
theorem cO {xs : Array Keyed} {i : Nat} (h : i < xs.size) : it xs i ∈ xs.toList := by
 have : it xs i = xs[i] := by unfold it; simp [Array.getD, h]
 rw [this]; simp
theorem bw {xs : Array Keyed} {i : Nat} {Q : Keyed -> SortSt -> Prop} {st : SortSt} (h : i < xs.size) (q : Q (it xs i) st) : wpS M A E s (elem' xs i) Q st := by
 rw [elem'_eq, qF h]; exact wpS_pure q
noncomputable def bb (K : Keyed -> Int) (l : Bool) (k x : Keyed) : Bool := if l = true then decide (K x < K k) else !decide (K k < K x)
theorem qR (R : Rk M A E s κ ok K) {l : Bool} {k : Keyed} {xs : Array Keyed} {b i : Nat} {Q : Option Bool -> SortSt -> Prop} {st : SortSt} (hk : ok k) (hx : ∀ x ∈ xs.toList, ok x) (hi : b + i < xs.size) (hs : kindOf st = κ)
 (q : Q (some (bb K l k (it xs (b + i)))) st) : wpS M A E s (Kv l k xs b i) Q st := by
 unfold Kv
 refine wpS_bind (bw hi ?_)
 have ho := hx _ (cO hi)
 cases l with
 | true => exact R.lt ho hk hs q
 | false => exact wpS_bind (R.lt hk ho hs (wpS_pure q))
noncomputable def Dt (K : Keyed -> Int) (l : Bool) (k : Keyed) (xs : Array Keyed) (b n : Nat) : Prop := ∀ i j, i <= j -> j < n -> bb K l k (it xs (b + j)) = true -> bb K l k (it xs (b + i)) = true
theorem wN (R : Rk M A E s κ ok K) {l : Bool} {k : Keyed} {xs : Array Keyed} {b n lo hi : Nat} {Q : Option Nat -> SortSt -> Prop} {st : SortSt} (hk : ok k) (hx : ∀ x ∈ xs.toList, ok x) (hb : b + n <= xs.size) (hs : kindOf st = κ) (hc : Dt K l k xs b n)
 (h1 : lo <= hi) (h2 : hi <= n) (h3 : ∀ i, i < lo -> bb K l k (it xs (b + i)) = true) (h4 : ∀ i, hi <= i -> i < n -> bb K l k (it xs (b + i)) = false)
 (q : ∀ m, m <= n -> (∀ i, i < m -> bb K l k (it xs (b + i)) = true) -> (∀ i, m <= i -> i < n -> bb K l k (it xs (b + i)) = false) -> Q (some m) st) : wpS M A E s (Bm l k xs b n lo hi) Q st := by
 unfold Bm
 refine wpS_bind (wpS_mono (wpS_forRange (I := fun x c st' => st' = st /\ ∃ lo hi, c = (none, lo, hi) /\ lo <= hi /\ hi <= n /\ hi - lo <= n - x /\ (∀ i, i < lo -> bb K l k (it xs (b + i)) = true) /\ ∀ i, hi <= i -> i < n -> bb K l k (it xs (b + i)) = false)
  (Q := fun c st' => st' = st /\ ∃ m, c = (none, m, m) /\ m <= n /\ (∀ i, i < m -> bb K l k (it xs (b + i)) = true) /\ ∀ i, m <= i -> i < n -> bb K l k (it xs (b + i)) = false) ?_ ?_ ⟨rfl, lo, hi, rfl, h1, h2, by omega, h3, h4⟩) ?_)
 . rintro x c st' _ hxn ⟨rfl, lo, hi, rfl, a1, a2, a3, a4, a5⟩
   dsimp only
   by_cases e : lo ≥ hi
   . rw [if_pos e]
     have : lo = hi := by omega
     subst this
     exact wpS_pure ⟨rfl, lo, rfl, a2, a4, a5⟩
   . rw [if_neg e]
     refine wpS_bind (qR R hk hx (by omega) hs ?_)
     cases c : bb K l k (it xs (b + (lo + (hi - lo) / 2))) with
     | true =>
       dsimp only
       rw [if_pos rfl]
       exact wpS_pure ⟨rfl, _, _, rfl, by omega, a2, by omega, fun i hi' => hc i (lo + (hi - lo) / 2) (by omega) (by omega) c, a5⟩
     | false =>
       dsimp only
       rw [if_neg (by simp)]
       refine wpS_pure ⟨rfl, _, _, rfl, by omega, by omega, by omega, a4, fun i i1 i2 => ?_⟩
       cases z : bb K l k (it xs (b + i)) with
       | false => rfl
       | true => have := hc (lo + (hi - lo) / 2) i i1 i2 z; rw [c] at this; cases this
 . rintro c st' ⟨rfl, lo, hi, rfl, a1, a2, a3, a4, a5⟩
   have : lo = hi := by omega
   subst this
   exact ⟨rfl, lo, rfl, a2, a4, a5⟩
 . rintro c st' ⟨rfl, m, rfl, a1, a2, a3⟩
   exact wpS_pure (q m a1 a2 a3)
theorem lB (R : Rk M A E s κ ok K) {l : Bool} {k : Keyed} {xs : Array Keyed} {b n h : Nat} {Q : Option Nat -> SortSt -> Prop} {st : SortSt} (hk : ok k) (hx : ∀ x ∈ xs.toList, ok x) (hb : b + n <= xs.size) (hh : h < n) (hs : kindOf st = κ) (hc : Dt K l k xs b n)
 (q : ∀ m, m <= n -> (∀ i, i < m -> bb K l k (it xs (b + i)) = true) -> (∀ i, m <= i -> i < n -> bb K l k (it xs (b + i)) = false) -> Q (some m) st) : wpS M A E s (Yq l k xs b n h) Q st := by
 have up : ∀ {i : Nat}, i < n -> bb K l k (it xs (b + i)) = true -> ∀ j, j <= i -> bb K l k (it xs (b + j)) = true := fun hi c j hj => hc _ _ hj hi c
 have dn : ∀ {i : Nat}, bb K l k (it xs (b + i)) = false -> ∀ j, i <= j -> j < n -> bb K l k (it xs (b + j)) = false := fun {i} c j h1 h2 => by
  cases z : bb K l k (it xs (b + j)) with
  | false => rfl
  | true => have := hc i j h1 h2 z; rw [c] at this; cases this
 rw [Kl]
 refine wpS_bind (qR R hk hx (by omega) hs ?_)
 cases c0 : bb K l k (it xs (b + h)) with
 | true =>
   dsimp only
   rw [if_pos rfl]
   refine wpS_bind (wpS_mono (wpS_forRange (I := fun x c st' => st' = st /\ ∃ a o, c = (none, a, o) /\ x + 1 <= o /\ a < o /\ h + a < n /\ bb K l k (it xs (b + (h + a))) = true)
    (Q := fun c st' => st' = st /\ ∃ a o, c = (none, a, o) /\ a < o /\ h + a < n /\ bb K l k (it xs (b + (h + a))) = true /\ (n - h <= o \/ o < n - h /\ bb K l k (it xs (b + (h + o))) = false)) ?_ ?_ ⟨rfl, 0, 1, rfl, by omega, by omega, by omega, by simpa using c0⟩) ?_)
   . rintro x c st' _ hxn ⟨rfl, a, o, rfl, a1, a2, a3, a4⟩
     dsimp only
     by_cases e : o ≥ n - h
     . rw [if_pos e]; exact wpS_pure ⟨rfl, a, o, rfl, a2, a3, a4, .inl e⟩
     . rw [if_neg e]
       refine wpS_bind (qR R hk hx (by omega) hs ?_)
       cases c : bb K l k (it xs (b + (h + o))) with
       | true =>
         dsimp only
         rw [if_neg (by simp)]
         exact wpS_pure ⟨rfl, _, _, rfl, by omega, by omega, by omega, c⟩
       | false =>
         dsimp only
         rw [if_pos (by simp)]
         exact wpS_pure ⟨rfl, a, o, rfl, a2, a3, a4, .inr ⟨by omega, c⟩⟩
   . rintro c st' ⟨rfl, a, o, rfl, a1, a2, a3, a4⟩
     exact ⟨rfl, a, o, rfl, a2, a3, a4, .inl (by omega)⟩
   . rintro c st' ⟨rfl, a, o, rfl, a2, a3, a4, a5⟩
     dsimp only
     refine wN R hk hx hb hs hc (by omega) (by omega) (fun i hi => up a3 a4 i (by omega)) (fun i h1 h2 => ?_) q
     rcases a5 with z | ⟨z1, z2⟩
     . omega
     . exact dn z2 i (by omega) h2
 | false =>
   dsimp only
   rw [if_neg (by simp)]
   refine wpS_bind (wpS_mono (wpS_forRange (I := fun x c st' => st' = st /\ ∃ a o, c = (none, a, o) /\ x + 1 <= o /\ a < o /\ a <= h /\ bb K l k (it xs (b + (h - a))) = false)
    (Q := fun c st' => st' = st /\ ∃ a o, c = (none, a, o) /\ a < o /\ a <= h /\ bb K l k (it xs (b + (h - a))) = false /\ (h + 1 <= o \/ o < h + 1 /\ bb K l k (it xs (b + (h - o))) = true)) ?_ ?_ ⟨rfl, 0, 1, rfl, by omega, by omega, by omega, by simpa using c0⟩) ?_)
   . rintro x c st' _ hxn ⟨rfl, a, o, rfl, a1, a2, a3, a4⟩
     dsimp only
     by_cases e : o ≥ h + 1
     . rw [if_pos e]; exact wpS_pure ⟨rfl, a, o, rfl, a2, a3, a4, .inl e⟩
     . rw [if_neg e]
       refine wpS_bind (qR R hk hx (by omega) hs ?_)
       cases c : bb K l k (it xs (b + (h - o))) with
       | false =>
         dsimp only
         rw [if_neg (by simp)]
         exact wpS_pure ⟨rfl, _, _, rfl, by omega, by omega, by omega, c⟩
       | true =>
         dsimp only
         rw [if_pos rfl]
         exact wpS_pure ⟨rfl, a, o, rfl, a2, a3, a4, .inr ⟨by omega, c⟩⟩
   . rintro c st' ⟨rfl, a, o, rfl, a1, a2, a3, a4⟩
     exact ⟨rfl, a, o, rfl, a2, a3, a4, .inl (by omega)⟩
   . rintro c st' ⟨rfl, a, o, rfl, a2, a3, a4, a5⟩
     dsimp only
     refine wN R hk hx hb hs hc (by omega) (by omega) (fun i hi => ?_) (fun i h1 h2 => dn a4 i (by omega) h2) q
     rcases a5 with z | ⟨z1, z2⟩
     . omega
     . exact up (by omega) z2 i (by omega)
end
end HH
end
section
namespace HH
open PySem PyProof.Rows
section
variable {K : Keyed -> Int} {T out A B P : List Keyed} {x y z : Keyed}
noncomputable def SL (K : Keyed -> Int) (l : List Keyed) : Prop := l.Pairwise fun x y => K x <= K y
theorem cj {l k : List Keyed} : SL K (l ++ k) ↔ SL K l /\ SL K k /\ ∀ x ∈ l, ∀ y ∈ k, K x <= K y := List.pairwise_append
structure MW (K : Keyed -> Int) (T out A B : List Keyed) : Prop where
 perm : (out ++ (A ++ B)).Perm T
 sa : SL K (out ++ A)
 sb : SL K (out ++ B)
theorem MW.Pu (w : MW K T out (P ++ A) B) (h : ∀ x ∈ P, ∀ y ∈ B, K x <= K y) : MW K T (out ++ P) A B := by
 refine ⟨by simpa using w.perm, by simpa using w.sa, ?_⟩
 have h1 := cj.mp w.sb
 have h2 := cj.mp (show SL K ((out ++ P) ++ A) by simpa using w.sa)
 refine cj.mpr ⟨h2.1, h1.2.1, fun x hx y hy => ?_⟩
 rcases List.mem_append.mp hx with hx | hx
 . exact h1.2.2 x hx y hy
 . exact h x hx y hy
theorem MW.PB (w : MW K T out A (P ++ B)) (h : ∀ x ∈ P, ∀ y ∈ A, K x <= K y) : MW K T (out ++ P) A B := by
 have h1 := cj.mp w.sa
 have h2 := cj.mp (show SL K ((out ++ P) ++ B) by simpa using w.sb)
 refine ⟨?_, cj.mpr ⟨h2.1, h1.2.1, fun x hx y hy => ?_⟩, by simpa using w.sb⟩
 . refine List.Perm.trans ?_ w.perm
   rw [List.append_assoc]
   refine List.Perm.append_left out ?_
   rw [<- List.append_assoc, <- List.append_assoc]
   exact List.perm_append_comm.append_right B
 . rcases List.mem_append.mp hx with hx | hx
   . exact h1.2.2 x hx y hy
   . exact h x hx y hy
theorem MW.Vc (w : MW K T out A []) : (out ++ A).Perm T /\ SL K (out ++ A) := ⟨by simpa using w.perm, w.sa⟩
theorem MW.Wa (w : MW K T out [] B) : (out ++ B).Perm T /\ SL K (out ++ B) := ⟨by simpa using w.perm, w.sb⟩
theorem MW.last (w : MW K T out [z] B) (h : ∀ y ∈ B, K y <= K z) : (out ++ B ++ [z]).Perm T /\ SL K (out ++ B ++ [z]) := by
 refine ⟨?_, cj.mpr ⟨w.sb, List.pairwise_singleton _ _, fun x hx y hy => ?_⟩⟩
 . refine List.Perm.trans ?_ w.perm
   rw [List.append_assoc]
   exact List.Perm.append_left out List.perm_append_comm
 . rw [List.mem_singleton.mp hy]
   rcases List.mem_append.mp hx with hx | hx
   . exact (cj.mp w.sa).2.2 x hx z (by simp)
   . exact h x hx
theorem qx {a : Array Keyed} {i : Nat} (h : i < a.size) : a.toList.drop i = it a i :: a.toList.drop (i + 1) := by
 have e : it a i = a.toList[i] := by unfold it; simp [Array.getD, h]
 rw [e]; exact List.drop_eq_getElem_cons (by simpa using h)
theorem ig {a : Array Keyed} {i j : Nat} (h : j <= a.size) : (a.extract i j).toList = (a.toList.drop i).take (j - i) := by
 simp [Array.toList_extract, List.extract]
theorem iQ {a : Array Keyed} {i : Nat} : (a.extract i a.size).toList = a.toList.drop i := by
 rw [ig (Nat.le_refl _)]; exact List.take_of_length_le (by simp)
theorem jA {a : Array Keyed} {i k : Nat} (h : i + k <= a.size) : a.toList.drop i = (a.extract i (i + k)).toList ++ a.toList.drop (i + k) := by
 rw [ig h, Nat.add_sub_cancel_left]
 rw [show a.toList.drop (i + k) = (a.toList.drop i).drop k by rw [List.drop_drop]]
 exact (List.take_append_drop k _).symm
theorem ext_mem {a : Array Keyed} {i k : Nat} {x : Keyed} (h : i + k <= a.size) (hx : x ∈ (a.extract i (i + k)).toList) : ∃ j, j < k /\ x = it a (i + j) := by
 rw [ig h, Nat.add_sub_cancel_left] at hx
 obtain ⟨j, hj, e⟩ := List.mem_iff_getElem.mp hx
 simp only [List.length_take, List.length_drop, Array.length_toList] at hj
 refine ⟨j, by omega, ?_⟩
 rw [<- e]
 unfold it
 simp [Array.getD, show i + j < a.size by omega]
theorem il {a : Array Keyed} {i : Nat} {x : Keyed} (hx : x ∈ a.toList.drop i) : ∃ j, i <= j /\ j < a.size /\ x = it a j := by
 obtain ⟨j, hj, e⟩ := List.mem_iff_getElem.mp hx
 simp only [List.length_drop, Array.length_toList] at hj
 refine ⟨i + j, by omega, by omega, ?_⟩
 rw [<- e]
 unfold it
 simp [Array.getD, show i + j < a.size by omega]
noncomputable def rK (K : Keyed -> Int) (a : Array Keyed) : Prop := ∀ i j, i <= j -> j < a.size -> K (it a i) <= K (it a j)
theorem nQ {a : Array Keyed} (h : rK K a) : SL K a.toList := by
 unfold SL
 rw [List.pairwise_iff_getElem]
 intro i j hi hj hij
 have := h i j (by omega) (by simpa using hj)
 have hi' : i < a.size := by simpa using hi
 have hj' : j < a.size := by simpa using hj
 unfold it at this
 simpa [Array.getD, hi', hj'] using this
end
section
variable {M : Model} {A : Around} {E : Value -> Shared -> Prop} {s : Shared} {κ : SortKind} {ok : Keyed -> Prop} {K : Keyed -> Int}
structure oV (st st' : SortSt) : Prop where
 kind : kindOf st' = kindOf st
 arr : arrOf st' = arrOf st
 pend : pendingOf st' = pendingOf st
 fail : failedOf st' = failedOf st
theorem oV.refl (st : SortSt) : oV st st := ⟨rfl, rfl, rfl, rfl⟩
theorem oV.trans {a b c : SortSt} (h : oV a b) (k : oV b c) : oV a c := ⟨k.kind.trans h.kind, k.arr.trans h.arr, k.pend.trans h.pend, k.fail.trans h.fail⟩
noncomputable def setG : Nat -> SM Unit := sortPriv% PySem.Builtin.setMinGallop
theorem mJ {g : Nat} {Q : Unit -> SortSt -> Prop} {st : SortSt} (q : ∀ st', oV st st' -> Q () st') : wpS M A E s (setG g) Q st := wpS_modify (q _ ⟨rfl, rfl, rfl, rfl⟩)
theorem wp_rule {x : String} {Q : Unit -> SortSt -> Prop} {st : SortSt} (q : Q () st) : wpS M A E s (liftM (rule x) : SM Unit) Q st := wpS_lift (wpAny_rule ⟨rfl, q⟩)
noncomputable def mlo : Array Keyed -> Array Keyed -> SM (Array Keyed) := sortPriv% PySem.Builtin.mergeLo
structure MI (K : Keyed -> Int) (a b out : Array Keyed) (ia ib : Nat) : Prop where
 i1 : ia + 1 < a.size
 i2 : ib < b.size
 w : MW K (a.toList ++ b.toList) out.toList (a.toList.drop ia) (b.toList.drop ib)
structure Fin (K : Keyed -> Int) (a b out : Array Keyed) : Prop where
 perm : out.toList.Perm (a.toList ++ b.toList)
 gG : SL K out.toList
theorem iK {a b out : Array Keyed} {ia ib : Nat} (h : ib = b.size) (w : MW K (a.toList ++ b.toList) out.toList (a.toList.drop ia) (b.toList.drop ib)) : Fin K a b (out ++ a.extract ia a.size ++ b.extract ib b.size) := by
 have e : b.toList.drop ib = [] := by rw [h]; simp
 rw [e] at w
 obtain ⟨h1, h2⟩ := w.Vc
 refine ⟨?_, ?_⟩ <;> rw [Array.toList_append, Array.toList_append, iQ, iQ, e, List.append_nil] <;> assumption
theorem yL {a b out : Array Keyed} {ia ib : Nat} (h : ia = a.size) (w : MW K (a.toList ++ b.toList) out.toList (a.toList.drop ia) (b.toList.drop ib)) : Fin K a b (out ++ a.extract ia a.size ++ b.extract ib b.size) := by
 have e : a.toList.drop ia = [] := by rw [h]; simp
 rw [e] at w
 obtain ⟨h1, h2⟩ := w.Wa
 refine ⟨?_, ?_⟩ <;> rw [Array.toList_append, Array.toList_append, iQ, iQ, e, List.append_nil] <;> assumption
theorem jT {a b out : Array Keyed} {ia ib : Nat} (h : ia + 1 = a.size) (hl : ∀ i, i < b.size -> K (it b i) <= K (it a (a.size - 1))) (w : MW K (a.toList ++ b.toList) out.toList (a.toList.drop ia) (b.toList.drop ib)) : Fin K a b (out ++ b.extract ib b.size ++ a.extract ia a.size) := by
 have e : a.toList.drop ia = [it a ia] := by rw [qx (by omega), h]; simp
 rw [e] at w
 obtain ⟨h1, h2⟩ := w.last fun y hy => by
  obtain ⟨j, _, hj, rfl⟩ := il hy
  rw [show ia = a.size - 1 by omega]
  exact hl j hj
 refine ⟨?_, ?_⟩ <;> rw [Array.toList_append, Array.toList_append, iQ, iQ, e] <;> assumption
theorem MW.pC {a b out : Array Keyed} {ia ib : Nat} (h : ia < a.size) (w : MW K (a.toList ++ b.toList) out.toList (a.toList.drop ia) (b.toList.drop ib)) (hb : rK K b) (hk : ib < b.size -> K (it a ia) <= K (it b ib)) : MW K (a.toList ++ b.toList) (out.push (it a ia)).toList (a.toList.drop (ia + 1)) (b.toList.drop ib) := by
 rw [qx h] at w
 rw [Array.toList_push]
 refine MW.Pu (P := [it a ia]) w fun x hx y hy => ?_
 rw [List.mem_singleton.mp hx]
 obtain ⟨j, j1, j2, rfl⟩ := il hy
 exact Int.le_trans (hk (by omega)) (hb _ _ j1 j2)
theorem MW.pI {a b out : Array Keyed} {ia ib : Nat} (h : ib < b.size) (w : MW K (a.toList ++ b.toList) out.toList (a.toList.drop ia) (b.toList.drop ib)) (ha : rK K a) (hk : ia < a.size -> K (it b ib) <= K (it a ia)) : MW K (a.toList ++ b.toList) (out.push (it b ib)).toList (a.toList.drop ia) (b.toList.drop (ib + 1)) := by
 rw [qx h] at w
 rw [Array.toList_push]
 refine MW.PB (P := [it b ib]) w fun x hx y hy => ?_
 rw [List.mem_singleton.mp hx]
 obtain ⟨j, j1, j2, rfl⟩ := il hy
 exact Int.le_trans (hk (by omega)) (ha _ _ j1 j2)
theorem MW.Aq {a b out : Array Keyed} {ia ib k : Nat} (h : ia + k <= a.size) (w : MW K (a.toList ++ b.toList) out.toList (a.toList.drop ia) (b.toList.drop ib)) (hb : rK K b) (hk : ∀ j, j < k -> ib < b.size -> K (it a (ia + j)) <= K (it b ib)) : MW K (a.toList ++ b.toList) (out ++ a.extract ia (ia + k)).toList (a.toList.drop (ia + k)) (b.toList.drop ib) := by
 rw [jA h] at w
 rw [Array.toList_append]
 refine MW.Pu w fun x hx y hy => ?_
 obtain ⟨i, hi, rfl⟩ := ext_mem h hx
 obtain ⟨j, j1, j2, rfl⟩ := il hy
 exact Int.le_trans (hk i hi (by omega)) (hb _ _ j1 j2)
theorem MW.Ae {a b out : Array Keyed} {ia ib k : Nat} (h : ib + k <= b.size) (w : MW K (a.toList ++ b.toList) out.toList (a.toList.drop ia) (b.toList.drop ib)) (ha : rK K a) (hk : ∀ j, j < k -> ia < a.size -> K (it b (ib + j)) <= K (it a ia)) : MW K (a.toList ++ b.toList) (out ++ b.extract ib (ib + k)).toList (a.toList.drop ia) (b.toList.drop (ib + k)) := by
 rw [jA h] at w
 rw [Array.toList_append]
 refine MW.PB w fun x hx y hy => ?_
 obtain ⟨i, hi, rfl⟩ := ext_mem h hx
 obtain ⟨j, j1, j2, rfl⟩ := il hy
 exact Int.le_trans (hk i hi (by omega)) (ha _ _ j1 j2)
theorem qH {l : Bool} {k : Keyed} {a : Array Keyed} {b n : Nat} (h : rK K a) (hn : b + n <= a.size) : Dt K l k a b n := fun i j hij hj c => by
 have := h (b + i) (b + j) (by omega) (by omega)
 unfold bb at *
 cases l with
 | true => simp only [if_true, decide_eq_true_eq] at *; omega
 | false => simp only [Bool.false_eq_true, if_false, Bool.not_eq_true', decide_eq_false_iff_not] at *; omega
end
end HH
end
section
namespace HH
open PySem PyProof.Rows
section
variable {M : Model} {A : Around} {E : Value -> Shared -> Prop} {s : Shared} {κ : SortKind} {ok : Keyed -> Prop} {K : Keyed -> Int}
set_option maxHeartbeats 1000000 in
theorem J8 (R : Rk M A E s κ ok K) {a b : Array Keyed} {Q : Array Keyed -> SortSt -> Prop} {st : SortSt} (ha : ∀ x ∈ a.toList, ok x) (hb : ∀ x ∈ b.toList, ok x) (hs : kindOf st = κ) (ua : rK K a) (ub : rK K b)
 (a1 : 1 <= a.size) (b1 : 1 <= b.size) (h0 : K (it b 0) <= K (it a 0)) (hl : ∀ i, i < b.size -> K (it b i) <= K (it a (a.size - 1))) (q : ∀ out st', Fin K a b out -> oV st st' -> Q out st') : wpS M A E s (mlo a b) Q st := by
 show wpS M A E s (liftM (rule "list.sort.merge-lo") >>= _) Q st
 refine wpS_bind (wp_rule ?_)
 try dsimp only
 refine wpS_bind (bw (by omega) ?_)
 try dsimp only
 have w0 : MW K (a.toList ++ b.toList) (#[] : Array Keyed).toList (a.toList.drop 0) (b.toList.drop 0) := ⟨by simp, by simpa using nQ ua, by simpa using nQ ub⟩
 have w1 := w0.pI (by omega) ua (fun _ => h0)
 rw [show (#[] : Array Keyed).push (it b 0) = #[it b 0] from rfl] at w1
 by_cases c1 : 1 = b.size
 . rw [if_pos (by simpa using c1)]
   exact wpS_pure (q _ _ (iK c1 w1) (.refl _))
 rw [if_neg (by simpa using c1)]
 by_cases c2 : 0 + 1 = a.size
 . rw [if_pos (by simpa using c2)]
   exact wpS_pure (q _ _ (jT c2 hl w1) (.refl _))
 rw [if_neg (by simpa using c2)]
 refine wpS_bind (wpS_get ?_)
 try dsimp only
 refine wpS_bind (wpS_mono (wpS_forRange (I := fun x c st' => oV st st' /\ ∃ out ia ib mg, c = (none, out, ia, ib, mg) /\ MI K a b out ia ib /\ x + 1 <= ia + ib)
  (Q := fun c st' => oV st st' /\ ∃ out, c.1 = some out /\ Fin K a b out) ?_ ?_ ⟨.refl _, _, 0, 1, _, rfl, ⟨by omega, by omega, w1⟩, by omega⟩) ?_)
 . rintro x c st1 _ hx ⟨s1, out, ia, ib, mg, rfl, mi, hp⟩
   try dsimp only
   refine wpS_bind (wpS_mono (wpS_forRange (I := fun y c st' => oV st st' /\ ∃ out iV gq ac bc, c = (none, out, iV, gq, ac, bc) /\ MI K a b out iV gq /\ ia + ib + y <= iV + gq)
    (Q := fun c st' => oV st st' /\ ((∃ out, c.1 = some out /\ Fin K a b out) \/ ∃ out iV gq ac bc, c = (none, out, iV, gq, ac, bc) /\ MI K a b out iV gq /\ ia + ib + 1 <= iV + gq)) ?_ ?_ ⟨s1, out, ia, ib, 0, 0, rfl, mi, by omega⟩) ?_)
   . rintro y c st2 _ hy ⟨s2, out, iV, gq, ac, bc, rfl, mi, hp'⟩
     have i1 := mi.i1
     have i2 := mi.i2
     try dsimp only
     refine wpS_bind (bw i2 (wpS_bind (bw (by omega) (wpS_bind (R.lt (hb _ (cO i2)) (ha _ (cO (by omega))) (s2.kind.trans hs) ?_)))))
     by_cases c : K (it b gq) < K (it a iV)
     . rw [decide_eq_true c]
       try dsimp only
       rw [if_pos rfl]
       refine wpS_bind (bw i2 ?_)
       try dsimp only
       have w := mi.w.pI i2 ua (fun _ => by omega)
       by_cases e : gq + 1 = b.size
       . rw [if_pos (by simpa using e)]
         exact wpS_pure ⟨s2, .inl ⟨_, rfl, iK e w⟩⟩
       . rw [if_neg (by simpa using e)]
         have uF : MI K a b (out.push (it b gq)) iV (gq + 1) := ⟨i1, by omega, w⟩
         split
         . exact wpS_pure ⟨s2, .inr ⟨_, _, _, _, _, rfl, uF, by omega⟩⟩
         . exact wpS_pure ⟨s2, _, _, _, _, _, rfl, uF, by omega⟩
     . rw [decide_eq_false c]
       try dsimp only
       rw [if_neg (by simp)]
       refine wpS_bind (bw (by omega) ?_)
       try dsimp only
       have w := mi.w.pC (by omega) ub (fun _ => by omega)
       by_cases e : iV + 1 + 1 = a.size
       . rw [if_pos (by simpa using e)]
         exact wpS_pure ⟨s2, .inl ⟨_, rfl, jT e hl w⟩⟩
       . rw [if_neg (by simpa using e)]
         have uF : MI K a b (out.push (it a iV)) (iV + 1) gq := ⟨by omega, i2, w⟩
         split
         . exact wpS_pure ⟨s2, .inr ⟨_, _, _, _, _, rfl, uF, by omega⟩⟩
         . exact wpS_pure ⟨s2, _, _, _, _, _, rfl, uF, by omega⟩
   . rintro c st2 ⟨s2, out, iV, gq, ac, bc, rfl, mi, hp'⟩
     exact ⟨s2, .inr ⟨_, _, _, _, _, rfl, mi, by omega⟩⟩
   . rintro c st2 ⟨s2, ⟨out, hc, hf⟩ | ⟨out, iV, gq, ac, bc, rfl, mi, hp'⟩⟩
     . obtain ⟨c1, c2, c3, c4, c5, c6⟩ := c
       cases hc
       exact wpS_pure ⟨s2, out, rfl, hf⟩
     . try dsimp only
       refine wpS_bind (wp_rule ?_)
       refine wpS_bind (wpS_mono (wpS_forRange (I := fun y c st' => oV st st' /\ ∃ out iV gq mg ac bc, c = (none, out, iV, gq, mg, ac, bc) /\ MI K a b out iV gq /\ ia + ib + 1 <= iV + gq)
        (Q := fun c st' => oV st st' /\ ((∃ out, c.1 = some out /\ Fin K a b out) \/ ∃ out iV gq mg ac bc, c = (none, out, iV, gq, mg, ac, bc) /\ MI K a b out iV gq /\ ia + ib + 1 <= iV + gq)) ?_ ?_ ⟨s2, out, iV, gq, _, ac, bc, rfl, mi, by omega⟩) ?_)
       . rintro y c st3 _ hy ⟨s3, out, iV, gq, mg, ac, bc, rfl, mi, hp'⟩
         have i1 := mi.i1
         have i2 := mi.i2
         try dsimp only
         by_cases cm : mg > 1
         all_goals first | rw [if_pos cm] | rw [if_neg cm]
         all_goals
          refine wpS_bind (mJ fun Cj Ld => ?_)
          have s4 := s3.trans Ld
          refine wpS_bind (bw i2 ?_)
          refine wpS_bind (lB R (hb _ (cO i2)) ha (by omega) (by omega) (s4.kind.trans hs) (qH ua (by omega)) fun k k1 k2 k3 => ?_)
          have k2' : ∀ j, j < k -> K (it a (iV + j)) <= K (it b gq) := fun j hj => by have := k2 j hj; simp [bb] at this; omega
          have RG : ∀ j, k <= j -> j < a.size - iV -> K (it b gq) <= K (it a (iV + j)) := fun j h1 h2 => by have := k3 j h1 h2; simp [bb] at this; omega
          have two : ∃ oM uN, (oM = if k > 0 then out ++ a.extract iV (iV + k) else out) /\ uN = iV + k /\ MW K (a.toList ++ b.toList) oM.toList (a.toList.drop uN) (b.toList.drop gq) := by
           refine ⟨_, _, rfl, rfl, ?_⟩
           by_cases c : k > 0
           . rw [if_pos c]; exact mi.w.Aq (by omega) ub fun j hj _ => k2' j hj
           . rw [if_neg c, show k = 0 by omega]; exact mi.w
          obtain ⟨oM, uN, eo, ei, w⟩ := two
          have k4 : uN < a.size -> K (it b gq) <= K (it a uN) := fun h => by rw [ei]; exact RG k (Nat.le_refl _) (by omega)
          try dsimp only
          have j0 : uN <= a.size := by omega
          rcases Nat.eq_zero_or_pos k with z | c
          rotate_left
          rw [if_pos c] at eo ⊢
          rw [<- eo, <- ei]
          by_cases e1 : uN + 1 = a.size
          . rw [if_pos (by simpa using e1)]
            exact wpS_pure ⟨s4, .inl ⟨_, rfl, jT e1 hl w⟩⟩
          rw [if_neg (by simpa using e1)]
          by_cases e2 : uN = a.size
          . rw [if_pos (by simpa using e2)]
            exact wpS_pure ⟨s4, .inl ⟨_, rfl, yL e2 w⟩⟩
          rw [if_neg (by simpa using e2)]
          rotate_left
          rw [if_neg (by omega)] at eo ⊢
          rw [z, Nat.add_zero] at ei
          rw [<- eo, <- ei]
          all_goals
           have j1 : uN + 1 < a.size := by omega
           refine wpS_bind (bw i2 ?_)
           have w2 := w.pI i2 ua k4
           try dsimp only
           by_cases e3 : gq + 1 = b.size
           . rw [if_pos (by simpa using e3)]
             exact wpS_pure ⟨s4, .inl ⟨_, rfl, iK e3 w2⟩⟩
           rw [if_neg (by simpa using e3)]
           refine wpS_bind (bw (by omega) ?_)
           refine wpS_bind (lB R (ha _ (cO (by omega))) hb (by omega) (by omega) (s4.kind.trans hs) (qH ub (by omega)) fun m m1 m2 m3 => ?_)
           have m2' : ∀ j, j < m -> K (it b (gq + 1 + j)) <= K (it a uN) := fun j hj => by have := m2 j hj; simp [bb] at this; omega
           have m3' : ∀ j, m <= j -> j < b.size - (gq + 1) -> K (it a uN) <= K (it b (gq + 1 + j)) := fun j h1 h2 => by have := m3 j h1 h2; simp [bb] at this; omega
           have Le : ∃ rH Hj, (rH = if m > 0 then oM.push (it b gq) ++ b.extract (gq + 1) (gq + 1 + m) else oM.push (it b gq)) /\ Hj = gq + 1 + m /\ MW K (a.toList ++ b.toList) rH.toList (a.toList.drop uN) (b.toList.drop Hj) := by
            refine ⟨_, _, rfl, rfl, ?_⟩
            by_cases c : m > 0
            . rw [if_pos c]; exact w2.Ae (by omega) ua fun j hj _ => m2' j hj
            . rw [if_neg c, show m = 0 by omega]; exact w2
           obtain ⟨rH, Hj, Gd, Uc, w3⟩ := Le
           have m4 : Hj < b.size -> K (it a uN) <= K (it b Hj) := fun h => by rw [Uc]; exact m3' m (Nat.le_refl _) (by omega)
           try dsimp only
           rcases Nat.eq_zero_or_pos m with z2 | c2
           rotate_left
           rw [if_pos c2] at Gd ⊢
           rw [<- Gd, <- Uc]
           by_cases e4 : Hj = b.size
           . rw [if_pos (by simpa using e4)]
             exact wpS_pure ⟨s4, .inl ⟨_, rfl, iK e4 w3⟩⟩
           rw [if_neg (by simpa using e4)]
           rotate_left
           rw [if_neg (by omega)] at Gd ⊢
           rw [z2, Nat.add_zero] at Uc
           rw [<- Gd, <- Uc]
           all_goals
            have j2 : Hj < b.size := by omega
            refine wpS_bind (bw (by omega) ?_)
            have w4 := w3.pC (by omega) ub m4
            try dsimp only
            by_cases e5 : uN + 1 + 1 = a.size
            . rw [if_pos (by simpa using e5)]
              exact wpS_pure ⟨s4, .inl ⟨_, rfl, jT e5 hl w4⟩⟩
            rw [if_neg (by simpa using e5)]
            have uF : MI K a b (rH.push (it a uN)) (uN + 1) Hj := ⟨by omega, j2, w4⟩
            split
            . exact wpS_pure ⟨s4, .inr ⟨_, _, _, _, _, _, rfl, uF, by omega⟩⟩
            . exact wpS_pure ⟨s4, _, _, _, _, _, _, rfl, uF, by omega⟩
       . rintro c st3 ⟨s3, out, iV, gq, mg, ac, bc, rfl, mi, hp'⟩
         exact ⟨s3, .inr ⟨_, _, _, _, _, _, rfl, mi, hp'⟩⟩
       . rintro c st3 ⟨s3, ⟨out, hc, hf⟩ | ⟨out, iV, gq, mg, ac, bc, rfl, mi, hp'⟩⟩
         . obtain ⟨c1, c2, c3, c4, c5, c6, c7⟩ := c
           cases hc
           exact wpS_pure ⟨s3, out, rfl, hf⟩
         . try dsimp only
           exact wpS_bind (mJ fun Cj Ld => wpS_pure ⟨s3.trans Ld, _, _, _, _, rfl, mi, by omega⟩)
 . rintro c st1 ⟨s1, out, ia, ib, mg, rfl, mi, hp⟩
   have := mi.i1
   have := mi.i2
   omega
 . rintro c st1 ⟨s1, out, hc, hf⟩
   obtain ⟨c1, c2, c3, c4, c5⟩ := c
   cases hc
   exact wpS_pure (q _ _ hf s1)
end
end HH
end
section
namespace HH
open PySem PyProof.Rows
section
variable {K : Keyed -> Int} {T A B S P : List Keyed} {z : Keyed}
structure MH (K : Keyed -> Int) (T A B S : List Keyed) : Prop where
 perm : (A ++ (B ++ S)).Perm T
 sa : SL K (A ++ S)
 sb : SL K (B ++ S)
theorem MH.Pu (w : MH K T (A ++ P) B S) (h : ∀ x ∈ P, ∀ y ∈ B, K y <= K x) : MH K T A B (P ++ S) := by
 have h1 := cj.mp w.sb
 have h2 := cj.mp (show SL K (A ++ (P ++ S)) by simpa using w.sa)
 refine ⟨?_, by simpa using w.sa, cj.mpr ⟨h1.1, h2.2.1, fun x hx y hy => ?_⟩⟩
 . refine List.Perm.trans ?_ w.perm
   rw [List.append_assoc]
   refine List.Perm.append_left A ?_
   rw [<- List.append_assoc, <- List.append_assoc]
   exact List.perm_append_comm.append_right S
 . rcases List.mem_append.mp hy with hy | hy
   . exact h y hy x hx
   . exact h1.2.2 x hx y hy
theorem MH.PB (w : MH K T A (B ++ P) S) (h : ∀ x ∈ P, ∀ y ∈ A, K y <= K x) : MH K T A B (P ++ S) := by
 have h1 := cj.mp w.sa
 have h2 := cj.mp (show SL K (B ++ (P ++ S)) by simpa using w.sb)
 refine ⟨by simpa using w.perm, cj.mpr ⟨h1.1, h2.2.1, fun x hx y hy => ?_⟩, by simpa using w.sb⟩
 rcases List.mem_append.mp hy with hy | hy
 . exact h y hy x hx
 . exact h1.2.2 x hx y hy
theorem MH.first (w : MH K T A [z] S) (h : ∀ x ∈ A, K z <= K x) : ([z] ++ A ++ S).Perm T /\ SL K ([z] ++ A ++ S) := by
 refine ⟨?_, ?_⟩
 . refine List.Perm.trans ?_ w.perm
   rw [<- List.append_assoc]
   exact List.perm_append_comm.append_right S
 . rw [List.append_assoc]
   refine cj.mpr ⟨List.pairwise_singleton _ _, w.sa, fun x hx y hy => ?_⟩
   rw [List.mem_singleton.mp hx]
   rcases List.mem_append.mp hy with hy | hy
   . exact h y hy
   . exact (cj.mp w.sb).2.2 z (by simp) y hy
theorem fX {a : Array Keyed} {n : Nat} (h : n <= a.size) : (a.extract 0 n).toList = a.toList.take n := by rw [ig h]; simp
theorem gQ {a : Array Keyed} {i n : Nat} (hi : i <= n) (h : n <= a.size) : a.toList.take n = a.toList.take i ++ (a.extract i n).toList := by
 rw [ig h]
 have e : n = i + (n - i) := by omega
 conv => lhs; rw [e, List.take_add]
theorem qu {a : Array Keyed} {n : Nat} (h0 : 1 <= n) (h : n <= a.size) : a.toList.take n = a.toList.take (n - 1) ++ [it a (n - 1)] := by
 have e : it a (n - 1) = a.toList[n - 1]'(by simp; omega) := by unfold it; simp [Array.getD, show n - 1 < a.size by omega]
 have e2 : n = (n - 1) + 1 := by omega
 conv => lhs; rw [e2]
 rw [List.take_succ_eq_append_getElem (by simp; omega), e]
theorem ir {a : Array Keyed} {n : Nat} {x : Keyed} (h : n <= a.size) (hx : x ∈ a.toList.take n) : ∃ j, j < n /\ x = it a j := by
 obtain ⟨j, hj, e⟩ := List.mem_iff_getElem.mp hx
 simp only [List.length_take, Array.length_toList] at hj
 refine ⟨j, by omega, ?_⟩
 rw [<- e]
 unfold it
 simp [Array.getD, show j < a.size by omega]
theorem n8 {a : Array Keyed} {i n : Nat} {x : Keyed} (hi : i <= n) (h : n <= a.size) (hx : x ∈ (a.extract i n).toList) : ∃ j, i <= j /\ j < n /\ x = it a j := by
 obtain ⟨j, hj, e⟩ := ext_mem (a := a) (i := i) (k := n - i) (by omega) (by rw [show i + (n - i) = n by omega]; exact hx)
 exact ⟨i + j, by omega, by omega, e⟩
end
section
variable {M : Model} {A : Around} {E : Value -> Shared -> Prop} {s : Shared} {κ : SortKind} {ok : Keyed -> Prop} {K : Keyed -> Int}
noncomputable def mhi : Array Keyed -> Array Keyed -> SM (Array Keyed) := sortPriv% PySem.Builtin.mergeHi
noncomputable abbrev MV (K : Keyed -> Int) (a b out : Array Keyed) (na nb : Nat) : Prop := MH K (a.toList ++ b.toList) (a.toList.take na) (b.toList.take nb) out.toList.reverse
structure MJ (K : Keyed -> Int) (a b out : Array Keyed) (na nb : Nat) : Prop where
 i1 : 1 <= na
 i2 : 2 <= nb
 i3 : na <= a.size
 i4 : nb <= b.size
 w : MV K a b out na nb
theorem gY {out : Array Keyed} : out.reverse.toList = out.toList.reverse := Array.toList_reverse
theorem qG {a b out : Array Keyed} {na nb : Nat} (h : na = 0) (hb : nb <= b.size) (w : MV K a b out na nb) : Fin K a b (a.extract 0 na ++ b.extract 0 nb ++ out.reverse) := by
 subst h
 have e : (a.extract 0 0 ++ b.extract 0 nb ++ out.reverse).toList = b.toList.take nb ++ out.toList.reverse := by
  rw [Array.toList_append, Array.toList_append, fX (Nat.zero_le _), fX hb, gY]; simp
 exact ⟨by rw [e]; simpa using w.perm, by rw [e]; exact w.sb⟩
theorem Ky {a b out : Array Keyed} {na nb : Nat} (h : nb = 0) (ha : na <= a.size) (w : MV K a b out na nb) : Fin K a b (a.extract 0 na ++ b.extract 0 nb ++ out.reverse) := by
 subst h
 have e : (a.extract 0 na ++ b.extract 0 0 ++ out.reverse).toList = a.toList.take na ++ out.toList.reverse := by
  rw [Array.toList_append, Array.toList_append, fX (Nat.zero_le _), fX ha, gY]; simp
 exact ⟨by rw [e]; simpa using w.perm, by rw [e]; exact w.sa⟩
theorem iC {a b out : Array Keyed} {na nb : Nat} (h : nb = 1) (ha : na <= a.size) (hb : nb <= b.size) (ua : rK K a) (h0 : K (it b 0) <= K (it a 0)) (w : MV K a b out na nb) : Fin K a b (b.extract 0 nb ++ a.extract 0 na ++ out.reverse) := by
 subst h
 have e1 : b.toList.take 1 = [it b 0] := by rw [qu (Nat.le_refl 1) hb]; simp
 have e : (b.extract 0 1 ++ a.extract 0 na ++ out.reverse).toList = [it b 0] ++ a.toList.take na ++ out.toList.reverse := by
  rw [Array.toList_append, Array.toList_append, fX hb, fX ha, gY, e1]
 have w' := w
 unfold MV at w'
 rw [e1] at w'
 obtain ⟨h1, h2⟩ := w'.first fun x hx => by
  obtain ⟨j, hj, rfl⟩ := ir ha hx
  exact Int.le_trans h0 (ua 0 j (by omega) (by omega))
 exact ⟨by rw [e]; exact h1, by rw [e]; exact h2⟩
theorem MH.pC {a b out : Array Keyed} {na nb : Nat} (h : 1 <= na) (ha : na <= a.size) (hb : nb <= b.size) (w : MV K a b out na nb) (ub : rK K b) (hk : 1 <= nb -> K (it b (nb - 1)) <= K (it a (na - 1))) : MV K a b (out.push (it a (na - 1))) (na - 1) nb := by
 unfold MV at *
 rw [qu h ha] at w
 rw [Array.toList_push, List.reverse_append]
 refine MH.Pu (P := [it a (na - 1)]) w fun x hx y hy => ?_
 rw [List.mem_singleton.mp hx]
 obtain ⟨j, hj, rfl⟩ := ir hb hy
 exact Int.le_trans (ub j (nb - 1) (by omega) (by omega)) (hk (by omega))
theorem MH.pI {a b out : Array Keyed} {na nb : Nat} (h : 1 <= nb) (ha : na <= a.size) (hb : nb <= b.size) (w : MV K a b out na nb) (ua : rK K a) (hk : 1 <= na -> K (it a (na - 1)) <= K (it b (nb - 1))) : MV K a b (out.push (it b (nb - 1))) na (nb - 1) := by
 unfold MV at *
 rw [qu h hb] at w
 rw [Array.toList_push, List.reverse_append]
 refine MH.PB (P := [it b (nb - 1)]) w fun x hx y hy => ?_
 rw [List.mem_singleton.mp hx]
 obtain ⟨j, hj, rfl⟩ := ir ha hy
 exact Int.le_trans (ua j (na - 1) (by omega) (by omega)) (hk (by omega))
theorem MH.Aq {a b out : Array Keyed} {na nb i : Nat} (h : i <= na) (ha : na <= a.size) (hb : nb <= b.size) (w : MV K a b out na nb) (ub : rK K b) (hk : ∀ j, i <= j -> j < na -> 1 <= nb -> K (it b (nb - 1)) <= K (it a j)) : MV K a b (out ++ (a.extract i na).reverse) i nb := by
 unfold MV at *
 rw [gQ h ha] at w
 rw [Array.toList_append, List.reverse_append, gY, List.reverse_reverse]
 refine MH.Pu w fun x hx y hy => ?_
 obtain ⟨j, j1, j2, rfl⟩ := n8 h ha hx
 obtain ⟨l, hl, rfl⟩ := ir hb hy
 exact Int.le_trans (ub l (nb - 1) (by omega) (by omega)) (hk j j1 j2 (by omega))
theorem MH.Ae {a b out : Array Keyed} {na nb i : Nat} (h : i <= nb) (ha : na <= a.size) (hb : nb <= b.size) (w : MV K a b out na nb) (ua : rK K a) (hk : ∀ j, i <= j -> j < nb -> 1 <= na -> K (it a (na - 1)) <= K (it b j)) : MV K a b (out ++ (b.extract i nb).reverse) na i := by
 unfold MV at *
 rw [gQ h hb] at w
 rw [Array.toList_append, List.reverse_append, gY, List.reverse_reverse]
 refine MH.PB w fun x hx y hy => ?_
 obtain ⟨j, j1, j2, rfl⟩ := n8 h hb hx
 obtain ⟨l, hl, rfl⟩ := ir ha hy
 exact Int.le_trans (ua l (na - 1) (by omega) (by omega)) (hk j j1 j2 (by omega))
set_option maxHeartbeats 1000000 in
theorem Kw (R : Rk M A E s κ ok K) {a b : Array Keyed} {Q : Array Keyed -> SortSt -> Prop} {st : SortSt} (ha : ∀ x ∈ a.toList, ok x) (hb : ∀ x ∈ b.toList, ok x) (hs : kindOf st = κ) (ua : rK K a) (ub : rK K b)
 (a1 : 1 <= a.size) (b1 : 1 <= b.size) (h0 : K (it b 0) <= K (it a 0)) (hl : ∀ i, i < b.size -> K (it b i) <= K (it a (a.size - 1))) (q : ∀ out st', Fin K a b out -> oV st st' -> Q out st') : wpS M A E s (mhi a b) Q st := by
 show wpS M A E s (liftM (rule "list.sort.merge-hi") >>= _) Q st
 refine wpS_bind (wp_rule ?_)
 try dsimp only
 refine wpS_bind (bw (by omega) ?_)
 try dsimp only
 have ta : ∀ c : Array Keyed, c.toList.take c.size = c.toList := fun c => List.take_of_length_le (by simp)
 have w0 : MV K a b #[] a.size b.size := by
  unfold MV
  rw [ta, ta]
  exact ⟨by simp, by simpa using nQ ua, by simpa using nQ ub⟩
 have w1 := MH.pC a1 (Nat.le_refl _) (Nat.le_refl _) w0 ub (fun _ => hl _ (by omega))
 rw [show (#[] : Array Keyed).push (it a (a.size - 1)) = #[it a (a.size - 1)] from rfl] at w1
 by_cases c1 : a.size - 1 = 0
 . rw [if_pos (by simpa using c1)]
   exact wpS_pure (q _ _ (qG c1 (Nat.le_refl _) w1) (.refl _))
 rw [if_neg (by simpa using c1)]
 by_cases c2 : b.size = 1
 . rw [if_pos (by simpa using c2)]
   exact wpS_pure (q _ _ (iC c2 (by omega) (Nat.le_refl _) ua h0 w1) (.refl _))
 rw [if_neg (by simpa using c2)]
 refine wpS_bind (wpS_get ?_)
 try dsimp only
 refine wpS_bind (wpS_mono (wpS_forRange (I := fun x c st' => oV st st' /\ ∃ na nb out mg, c = (none, na, nb, out, mg) /\ MJ K a b out na nb /\ x + 1 + na + nb <= a.size + b.size)
  (Q := fun c st' => oV st st' /\ ∃ out, c.1 = some out /\ Fin K a b out) ?_ ?_ ⟨.refl _, _, _, _, _, rfl, ⟨by omega, by omega, by omega, Nat.le_refl _, w1⟩, by omega⟩) ?_)
 . rintro x c st1 _ hx ⟨s1, na, nb, out, mg, rfl, mi, hp⟩
   try dsimp only
   refine wpS_bind (wpS_mono (wpS_forRange (I := fun y c st' => oV st st' /\ ∃ iT gA out ac bc, c = (none, iT, gA, out, ac, bc) /\ MJ K a b out iT gA /\ iT + gA + y <= na + nb)
    (Q := fun c st' => oV st st' /\ ((∃ out, c.1 = some out /\ Fin K a b out) \/ ∃ iT gA out ac bc, c = (none, iT, gA, out, ac, bc) /\ MJ K a b out iT gA /\ iT + gA + 1 <= na + nb)) ?_ ?_ ⟨s1, na, nb, out, 0, 0, rfl, mi, by omega⟩) ?_)
   . rintro y c st2 _ hy ⟨s2, iT, gA, out, ac, bc, rfl, mi, hp'⟩
     obtain ⟨i1, i2, i3, i4, w⟩ := mi
     try dsimp only
     refine wpS_bind (bw (by omega) (wpS_bind (bw (by omega) (wpS_bind (R.lt (hb _ (cO (by omega))) (ha _ (cO (by omega))) (s2.kind.trans hs) ?_)))))
     by_cases c : K (it b (gA - 1)) < K (it a (iT - 1))
     . rw [decide_eq_true c]
       try dsimp only
       rw [if_pos rfl]
       refine wpS_bind (bw (by omega) ?_)
       try dsimp only
       have w' := MH.pC i1 i3 i4 w ub (fun _ => by omega)
       by_cases e : iT - 1 = 0
       . rw [if_pos (by simpa using e)]
         exact wpS_pure ⟨s2, .inl ⟨_, rfl, qG e i4 w'⟩⟩
       . rw [if_neg (by simpa using e)]
         have uF : MJ K a b (out.push (it a (iT - 1))) (iT - 1) gA := ⟨by omega, i2, by omega, i4, w'⟩
         split
         . exact wpS_pure ⟨s2, .inr ⟨_, _, _, _, _, rfl, uF, by omega⟩⟩
         . exact wpS_pure ⟨s2, _, _, _, _, _, rfl, uF, by omega⟩
     . rw [decide_eq_false c]
       try dsimp only
       rw [if_neg (by simp)]
       refine wpS_bind (bw (by omega) ?_)
       try dsimp only
       have w' := MH.pI (by omega) i3 i4 w ua (fun _ => by omega)
       by_cases e : gA - 1 = 1
       . rw [if_pos (by simpa using e)]
         exact wpS_pure ⟨s2, .inl ⟨_, rfl, iC e i3 (by omega) ua h0 w'⟩⟩
       . rw [if_neg (by simpa using e)]
         have uF : MJ K a b (out.push (it b (gA - 1))) iT (gA - 1) := ⟨i1, by omega, i3, by omega, w'⟩
         split
         . exact wpS_pure ⟨s2, .inr ⟨_, _, _, _, _, rfl, uF, by omega⟩⟩
         . exact wpS_pure ⟨s2, _, _, _, _, _, rfl, uF, by omega⟩
   . rintro c st2 ⟨s2, iT, gA, out, ac, bc, rfl, mi, hp'⟩
     exact ⟨s2, .inr ⟨_, _, _, _, _, rfl, mi, by omega⟩⟩
   . rintro c st2 ⟨s2, ⟨out, hc, hf⟩ | ⟨iT, gA, out, ac, bc, rfl, mi, hp'⟩⟩
     . obtain ⟨c1, c2, c3, c4, c5, c6⟩ := c
       cases hc
       exact wpS_pure ⟨s2, out, rfl, hf⟩
     . try dsimp only
       refine wpS_bind (wp_rule ?_)
       refine wpS_bind (wpS_mono (wpS_forRange (I := fun y c st' => oV st st' /\ ∃ iT gA out mg ac bc, c = (none, iT, gA, out, mg, ac, bc) /\ MJ K a b out iT gA /\ iT + gA + 1 <= na + nb)
        (Q := fun c st' => oV st st' /\ ((∃ out, c.1 = some out /\ Fin K a b out) \/ ∃ iT gA out mg ac bc, c = (none, iT, gA, out, mg, ac, bc) /\ MJ K a b out iT gA /\ iT + gA + 1 <= na + nb)) ?_ ?_ ⟨s2, iT, gA, out, _, ac, bc, rfl, mi, by omega⟩) ?_)
       . rintro y c st3 _ hy ⟨s3, iT, gA, out, mg, ac, bc, rfl, mi, hp'⟩
         obtain ⟨i1, i2, i3, i4, w⟩ := mi
         try dsimp only
         by_cases cm : mg > 1
         all_goals first | rw [if_pos cm] | rw [if_neg cm]
         all_goals
          refine wpS_bind (mJ fun Cj Ld => ?_)
          have s4 := s3.trans Ld
          refine wpS_bind (bw (by omega) ?_)
          refine wpS_bind (lB R (hb _ (cO (by omega))) ha (by omega) (by omega) (s4.kind.trans hs) (qH ua (by omega)) fun k k1 k2 k3 => ?_)
          have k2' : ∀ j, j < k -> K (it a j) <= K (it b (gA - 1)) := fun j hj => by have := k2 j hj; simp [bb] at this; omega
          have RG : ∀ j, k <= j -> j < iT -> K (it b (gA - 1)) <= K (it a j) := fun j h1 h2 => by have := k3 j h1 h2; simp [bb] at this; omega
          have two : ∃ oM, (oM = if iT - k > 0 then out ++ (a.extract k iT).reverse else out) /\ MV K a b oM k gA := by
           refine ⟨_, rfl, ?_⟩
           by_cases c : iT - k > 0
           . rw [if_pos c]; exact MH.Aq k1 i3 i4 w ub fun j h1 h2 _ => RG j h1 h2
           . rw [if_neg c, show k = iT by omega]; exact w
          obtain ⟨oM, eo, w1⟩ := two
          try dsimp only
          rcases Nat.eq_zero_or_pos (iT - k) with z | c
          rotate_left
          rw [if_pos c] at eo ⊢
          rw [<- eo]
          by_cases e1 : k = 0
          . rw [if_pos (by simpa using e1)]
            exact wpS_pure ⟨s4, .inl ⟨_, rfl, qG e1 i4 w1⟩⟩
          rw [if_neg (by simpa using e1)]
          rotate_left
          rw [if_neg (by omega)] at eo ⊢
          have hz : k = iT := by omega
          subst hz
          rw [<- eo]
          all_goals
           have j1 : 1 <= k := by omega
           refine wpS_bind (bw (by omega) ?_)
           have w2 := MH.pI (by omega) (by omega) i4 w1 ua (fun _ => k2' _ (by omega))
           try dsimp only
           by_cases e3 : gA - 1 = 1
           . rw [if_pos (by simpa using e3)]
             exact wpS_pure ⟨s4, .inl ⟨_, rfl, iC e3 (by omega) (by omega) ua h0 w2⟩⟩
           rw [if_neg (by simpa using e3)]
           refine wpS_bind (bw (by omega) ?_)
           refine wpS_bind (lB R (ha _ (cO (by omega))) hb (by omega) (by omega) (s4.kind.trans hs) (qH ub (by omega)) fun m m1 m2 m3 => ?_)
           have m2' : ∀ j, j < m -> K (it b j) <= K (it a (k - 1)) := fun j hj => by have := m2 j hj; simp [bb] at this; omega
           have m3' : ∀ j, m <= j -> j < gA - 1 -> K (it a (k - 1)) <= K (it b j) := fun j h1 h2 => by have := m3 j h1 h2; simp [bb] at this; omega
           have Le : ∃ rH, (rH = if gA - 1 - m > 0 then oM.push (it b (gA - 1)) ++ (b.extract m (gA - 1)).reverse else oM.push (it b (gA - 1))) /\ MV K a b rH k m := by
            refine ⟨_, rfl, ?_⟩
            by_cases c : gA - 1 - m > 0
            . rw [if_pos c]; exact MH.Ae m1 (by omega) (by omega) w2 ua fun j h1 h2 _ => m3' j h1 h2
            . rw [if_neg c, show m = gA - 1 by omega]; exact w2
           obtain ⟨rH, Gd, w3⟩ := Le
           try dsimp only
           rcases Nat.eq_zero_or_pos (gA - 1 - m) with z2 | c2
           rotate_left
           rw [if_pos c2] at Gd ⊢
           rw [<- Gd]
           by_cases e4 : m = 1
           . rw [if_pos (by simpa using e4)]
             exact wpS_pure ⟨s4, .inl ⟨_, rfl, iC e4 (by omega) (by omega) ua h0 w3⟩⟩
           rw [if_neg (by simpa using e4)]
           by_cases e5 : m = 0
           . rw [if_pos (by simpa using e5)]
             exact wpS_pure ⟨s4, .inl ⟨_, rfl, Ky e5 (by omega) w3⟩⟩
           rw [if_neg (by simpa using e5)]
           rotate_left
           rw [if_neg (by omega)] at Gd ⊢
           rw [<- Gd]
           have hz2 : m = gA - 1 := by omega
           rw [<- hz2]
           all_goals
            have j2 : 2 <= m := by omega
            refine wpS_bind (bw (by omega) ?_)
            have w4 := MH.pC j1 (by omega) (by omega) w3 ub (fun _ => m2' _ (by omega))
            try dsimp only
            by_cases e6 : k - 1 = 0
            . rw [if_pos (by simpa using e6)]
              exact wpS_pure ⟨s4, .inl ⟨_, rfl, qG e6 (by omega) w4⟩⟩
            rw [if_neg (by simpa using e6)]
            have uF : MJ K a b (rH.push (it a (k - 1))) (k - 1) m := ⟨by omega, j2, by omega, by omega, w4⟩
            split
            . exact wpS_pure ⟨s4, .inr ⟨_, _, _, _, _, _, rfl, uF, by omega⟩⟩
            . exact wpS_pure ⟨s4, _, _, _, _, _, _, rfl, uF, by omega⟩
       . rintro c st3 ⟨s3, iT, gA, out, mg, ac, bc, rfl, mi, hp'⟩
         exact ⟨s3, .inr ⟨_, _, _, _, _, _, rfl, mi, hp'⟩⟩
       . rintro c st3 ⟨s3, ⟨out, hc, hf⟩ | ⟨iT, gA, out, mg, ac, bc, rfl, mi, hp'⟩⟩
         . obtain ⟨c1, c2, c3, c4, c5, c6, c7⟩ := c
           cases hc
           exact wpS_pure ⟨s3, out, rfl, hf⟩
         . try dsimp only
           exact wpS_bind (mJ fun Cj Ld => wpS_pure ⟨s3.trans Ld, _, _, _, _, rfl, mi, by omega⟩)
 . rintro c st1 ⟨s1, na, nb, out, mg, rfl, mi, hp⟩
   have := mi.i1
   have := mi.i2
   omega
 . rintro c st1 ⟨s1, out, hc, hf⟩
   obtain ⟨c1, c2, c3, c4, c5⟩ := c
   cases hc
   exact wpS_pure (q _ _ hf s1)
end
end HH
end
section
namespace HH
open PySem PyProof.Rows
section
variable {K : Keyed -> Int}
noncomputable def Seg (K : Keyed -> Int) (xs : Array Keyed) (lo hi : Nat) : Prop := ∀ i j, lo <= i -> i <= j -> j < hi -> K (it xs i) <= K (it xs j)
theorem wI {l : Bool} {k : Keyed} {a : Array Keyed} {b n : Nat} (h : Seg K a b (b + n)) : Dt K l k a b n := fun i j hij hj c => by
 have := h (b + i) (b + j) (by omega) (by omega) (by omega)
 unfold bb at *
 cases l with
 | true => simp only [if_true, decide_eq_true_eq] at *; omega
 | false => simp only [Bool.false_eq_true, if_false, Bool.not_eq_true', decide_eq_false_iff_not] at *; omega
theorem gK {xs : Array Keyed} {i : Nat} : it xs i = xs.toList.getD i (Value.none, Value.none) := by
 unfold it
 by_cases h : i < xs.size
 . simp [Array.getD, h]
 . simp [Array.getD, h]
theorem lg {a : Array Keyed} {i n j : Nat} (h : n <= a.size) (hj : j < n - i) : it (a.extract i n) j = it a (i + j) := by
 have : j < (a.extract i n).size := by simp; omega
 have e : (a.extract i n)[j]? = a[i + j]? := by rw [Array.getElem?_extract, if_pos (by omega)]
 have e1 := qF this
 have e2 := qF (show i + j < a.size by omega)
 rw [e, e2] at e1
 injection e1 with e1
 exact e1.symm
theorem qm {a : Array Keyed} {i n : Nat} (h : n <= a.size) (hs : Seg K a i n) : rK K (a.extract i n) := fun u v huv hv => by
 have hsz : (a.extract i n).size = n - i := by simp; omega
 rw [hsz] at hv
 rw [lg h (by omega), lg h hv]
 exact hs _ _ (by omega) (by omega) (by omega)
theorem tM : ∀ (m : List Keyed) (arr : Array Keyed) (o k : Nat), o + k + m.length <= arr.size ->
 ((m.zipIdx k).foldl (fun a x => match x with | (p, j) => a.setIfInBounds (o + j) p) arr).toList = arr.toList.take (o + k) ++ (m ++ arr.toList.drop (o + k + m.length))
 | [], arr, o, k, h => by simp
 | x :: m, arr, o, k, h => by
   have hl : o + k < arr.size := by simp at h; omega
   rw [List.zipIdx_cons, List.foldl_cons]
   have ih := tM m (arr.setIfInBounds (o + k) x) o (k + 1) (by simp at h ⊢; omega)
   rw [ih, Array.toList_setIfInBounds]
   have e1 : (arr.toList.set (o + k) x).take (o + (k + 1)) = arr.toList.take (o + k) ++ [x] := by
    rw [<- Nat.add_assoc, List.take_succ_eq_append_getElem (by simpa using hl), List.take_set_of_le (Nat.le_refl _)]
    simp
   have e2 : (arr.toList.set (o + k) x).drop (o + (k + 1) + m.length) = arr.toList.drop (o + k + (x :: m).length) := by
    rw [List.drop_set_of_lt (by omega)]
    congr 1
    simp; omega
   rw [e1, e2]
   simp
theorem Fin.mem {a b out : Array Keyed} {z : Keyed} (f : Fin K a b out) (h : z ∈ out.toList) : z ∈ a.toList \/ z ∈ b.toList := List.mem_append.mp (f.perm.mem_iff.mp h)
theorem sr {xs : Array Keyed} {P Q S : List Keyed} {lo hi : Nat} (e : xs.toList = P ++ (Q ++ S)) (hl : P.length = lo) (hh : P.length + Q.length = hi) (h : SL K Q) : Seg K xs lo hi := fun i j h1 h2 h3 => by
 rw [gK, gK, e]
 have gi : ∀ n, lo <= n -> n < hi -> (P ++ (Q ++ S)).getD n (Value.none, Value.none) = Q.getD (n - lo) (Value.none, Value.none) := fun n n1 n2 => by
  rw [List.getD_eq_getElem?_getD, List.getD_eq_getElem?_getD, List.getElem?_append_right (by omega), List.getElem?_append_left (by omega), hl]
 rw [gi i h1 (by omega), gi j (by omega) h3]
 by_cases hij : i = j
 . rw [hij]; exact Int.le_refl _
 . have := List.pairwise_iff_getElem.mp h (i - lo) (j - lo) (by omega) (by omega) (by omega)
   simpa [List.getD_eq_getElem?_getD, show i - lo < Q.length by omega, show j - lo < Q.length by omega] using this
end
section
variable {M : Model} {A : Around} {E : Value -> Shared -> Prop} {s : Shared} {κ : SortKind} {ok : Keyed -> Prop} {K : Keyed -> Int}
theorem three {a : Array Keyed} {i n : Nat} (hi : i <= n) (h : n <= a.size) : a.toList = a.toList.take i ++ ((a.extract i n).toList ++ a.toList.drop n) := by
 rw [<- List.append_assoc, <- gQ hi h, List.take_append_drop]
theorem zZ {a : Array Keyed} {i n : Nat} (h : n <= a.size) (hs : Seg K a i n) : SL K (a.extract i n).toList := nQ (qm h hs)
structure M7 (K : Keyed -> Int) (xs ys : Array Keyed) (lo hi : Nat) : Prop where
 perm : ys.toList.Perm xs.toList
 pre : ys.toList.take lo = xs.toList.take lo
 post : ys.toList.drop hi = xs.toList.drop hi
 seg : Seg K ys lo hi
theorem um {xs : Array Keyed} {lo hi : Nat} (h : Seg K xs lo hi) : M7 K xs xs lo hi := ⟨.refl _, rfl, rfl, h⟩
theorem Jv {xs ys : Array Keyed} {lo u v hi : Nat} {m : List Keyed} (h1 : lo <= u) (h2 : u <= v) (h3 : v <= hi) (h4 : hi <= xs.size) (hy : ys.toList = xs.toList.take u ++ (m ++ xs.toList.drop v)) (hp : m.Perm (xs.extract u v).toList)
 (hs : SL K ((xs.extract lo u).toList ++ (m ++ (xs.extract v hi).toList))) : M7 K xs ys lo hi := by
 have XJ : m.length = v - u := by rw [hp.length_eq]; simp; omega
 have el : xs.toList.take u = xs.toList.take lo ++ (xs.extract lo u).toList := gQ h1 (by omega)
 have er : xs.toList.drop v = (xs.extract v hi).toList ++ xs.toList.drop hi := by
  have := jA (a := xs) (i := v) (k := hi - v) (by omega)
  rwa [show v + (hi - v) = hi by omega] at this
 have e : ys.toList = xs.toList.take lo ++ (((xs.extract lo u).toList ++ (m ++ (xs.extract v hi).toList)) ++ xs.toList.drop hi) := by
  rw [hy, el, er]; simp
 have hlo : (xs.toList.take lo).length = lo := by simp; omega
 have hmid : ((xs.extract lo u).toList ++ (m ++ (xs.extract v hi).toList)).length = hi - lo := by simp [XJ]; omega
 refine ⟨?_, ?_, ?_, sr e hlo (by omega) hs⟩
 . have t := three h2 (show v <= xs.size by omega)
   rw [hy]
   refine List.Perm.trans (List.Perm.append_left _ (List.Perm.append_right _ hp)) (.of_eq t.symm)
 . rw [e, List.take_append_of_le_length (by omega), List.take_of_length_le (by omega)]
 . rw [e, <- List.append_assoc, List.drop_append, List.drop_eq_nil_of_le (by simp only [List.length_append] at *; omega)]
   simp only [List.nil_append, List.length_append] at *
   rw [show hi - ((xs.toList.take lo).length + ((xs.extract lo u).toList.length + (m.length + (xs.extract v hi).toList.length))) = 0 by omega]; rfl
end
end HH
end
section
namespace HH
open PySem PyProof.Rows
section
variable {M : Model} {A : Around} {E : Value -> Shared -> Prop} {s : Shared} {κ : SortKind} {ok : Keyed -> Prop} {K : Keyed -> Int}
theorem Js {st st' : SortSt} {Q : PUnit -> SortSt -> Prop} (h : Q ⟨⟩ st') : wpS M A E s (set st' : SM PUnit) Q st := by
 unfold wpS; rw [StateT.run_set]; exact wpAny_pure ⟨rfl, h⟩
theorem jC {a : Array Keyed} {i n : Nat} {x : Keyed} (hi : i <= n) (h : n <= a.size) (hx : x ∈ (a.extract i n).toList) : ∃ j, i <= j /\ j < n /\ x = it a j := n8 hi h hx
theorem Jt {arr merged : Array Keyed} {sa u sb v hi : Nat} (h1 : sa <= u) (h2 : u <= sb) (h3 : sb <= v) (h4 : v <= hi) (h5 : hi <= arr.size) (hu : u < sb) (hv : sb < v) (s1 : Seg K arr sa sb) (s2 : Seg K arr sb hi) (f : Fin K (arr.extract u sb) (arr.extract sb v) merged)
 (k2 : ∀ j, sa <= j -> j < u -> K (it arr j) <= K (it arr sb)) (m3 : ∀ j, v <= j -> j < hi -> K (it arr (sb - 1)) <= K (it arr j)) : SL K ((arr.extract sa u).toList ++ (merged.toList ++ (arr.extract v hi).toList)) := by
 have Zt : ∀ z ∈ merged.toList, (∃ j, u <= j /\ j < sb /\ z = it arr j) \/ ∃ j, sb <= j /\ j < v /\ z = it arr j := fun z hz => (f.mem hz).imp (jC h2 (by omega)) (jC h3 (by omega))
 refine cj.mpr ⟨zZ (by omega) fun i j a b c => s1 i j a b (by omega), cj.mpr ⟨f.gG, zZ h5 fun i j a b c => s2 i j (by omega) b c, fun z hz y hy => ?_⟩, fun x hx y hy => ?_⟩
 . obtain ⟨j, j1, j2, rfl⟩ := jC h4 h5 hy
   rcases Zt z hz with ⟨i, i1, i2, rfl⟩ | ⟨i, i1, i2, rfl⟩
   . exact Int.le_trans (s1 i (sb - 1) (by omega) (by omega) (by omega)) (m3 j j1 j2)
   . exact s2 i j (by omega) (by omega) (by omega)
 . obtain ⟨i, i1, i2, rfl⟩ := jC h1 (by omega) hx
   rcases List.mem_append.mp hy with hy | hy
   . rcases Zt y hy with ⟨j, j1, j2, rfl⟩ | ⟨j, j1, j2, rfl⟩
     . exact s1 i j (by omega) (by omega) (by omega)
     . exact Int.le_trans (k2 i i1 i2) (s2 sb j (by omega) (by omega) (by omega))
   . obtain ⟨j, j1, j2, rfl⟩ := jC h4 h5 hy
     exact Int.le_trans (k2 i i1 i2) (s2 sb j (by omega) (by omega) (by omega))
set_option maxHeartbeats 1000000 in
theorem IV (R : Rk M A E s κ ok K) {i sa na pw sb nb Zu : Nat} {Q : Bool -> SortSt -> Prop} {st : SortSt} (hs : kindOf st = κ) (ho : ∀ x ∈ (arrOf st).toList, ok x) (hf : failedOf st = none) (hi : (pendingOf st)[i]? = some (sa, na, pw)) (hj : (pendingOf st)[i + 1]? = some (sb, nb, Zu))
 (hsb : sb = sa + na) (n1 : 1 <= na) (m1 : 1 <= nb) (hz : sb + nb <= (arrOf st).size) (s1 : Seg K (arrOf st) sa sb) (s2 : Seg K (arrOf st) sb (sb + nb))
 (q : ∀ st', kindOf st' = κ -> failedOf st' = none -> pendingOf st' = ((pendingOf st).setIfInBounds i (sa, na + nb, pw)).eraseIdxIfInBounds (i + 1) -> M7 K (arrOf st) (arrOf st') sa (sb + nb) -> Q true st') : wpS M A E s (mergeAt' i) Q st := by
 obtain ⟨kd, arr, pend, gm, fl⟩ := st
 replace hs : kd = κ := hs
 replace ho : ∀ x ∈ arr.toList, ok x := ho
 replace hf : fl = none := hf
 replace hi : pend[i]? = some (sa, na, pw) := hi
 replace hj : pend[i + 1]? = some (sb, nb, Zu) := hj
 replace hz : sb + nb <= arr.size := hz
 replace s1 : Seg K arr sa sb := s1
 replace s2 : Seg K arr sb (sb + nb) := s2
 replace q : ∀ st', kindOf st' = κ -> failedOf st' = none -> pendingOf st' = (pend.setIfInBounds i (sa, na + nb, pw)).eraseIdxIfInBounds (i + 1) -> M7 K arr (arrOf st') sa (sb + nb) -> Q true st' := q
 show wpS M A E s (get >>= _) Q _
 refine wpS_bind (wpS_get ?_)
 dsimp only
 rw [hi, hj]
 try dsimp only
 refine wpS_bind (Js ?_)
 refine wpS_bind (bw (by omega) ?_)
 refine wpS_bind (lB R (ho _ (cO (by omega))) ho (by omega) (by omega) hs (wI (by rw [<- hsb]; exact s1)) fun k k1 k2 k3 => ?_)
 have k2' : ∀ j, sa <= j -> j < sa + k -> K (it arr j) <= K (it arr sb) := fun j h1 h2 => by
  have := k2 (j - sa) (by omega); rw [show sa + (j - sa) = j by omega] at this; simp [bb] at this; omega
 try dsimp only
 by_cases c1 : na - k = 0
 . rw [if_pos (by simpa using c1)]
   refine wpS_pure (q _ hs hf rfl (um fun u v u1 u2 u3 => ?_))
   by_cases hv : v < sb
   . exact s1 u v u1 u2 hv
   . by_cases hu : u < sb
     . exact Int.le_trans (k2' u u1 (by omega)) (s2 sb v (by omega) (by omega) u3)
     . exact s2 u v (by omega) u2 u3
 rw [if_neg (by simpa using c1)]
 rw [show sa + k + (na - k) - 1 = sb - 1 by omega]
 refine wpS_bind (bw (by show sb - 1 < arr.size; omega) ?_)
 refine wpS_bind (lB R (ho _ (cO (by omega))) ho (by omega) (by omega) hs (wI s2) fun m m1' m2 m3 => ?_)
 have m2' : ∀ j, sb <= j -> j < sb + m -> K (it arr j) < K (it arr (sb - 1)) := fun j h1 h2 => by
  have := m2 (j - sb) (by omega); rw [show sb + (j - sb) = j by omega] at this; simpa [bb] using this
 have m3' : ∀ j, sb + m <= j -> j < sb + nb -> K (it arr (sb - 1)) <= K (it arr j) := fun j h1 h2 => by
  have := m3 (j - sb) (by omega) (by omega); rw [show sb + (j - sb) = j by omega] at this; simp [bb] at this; omega
 have RG : K (it arr sb) <= K (it arr (sa + k)) := by have := k3 k (Nat.le_refl _) (by omega); simp [bb] at this; omega
 try dsimp only
 by_cases c2 : m = 0
 . rw [if_pos (by simpa using c2)]
   refine wpS_pure (q _ hs hf rfl (um fun u v u1 u2 u3 => ?_))
   by_cases hv : v < sb
   . exact s1 u v u1 u2 hv
   . by_cases hu : u < sb
     . exact Int.le_trans (s1 u (sb - 1) u1 (by omega) (by omega)) (m3' v (by omega) u3)
     . exact s2 u v (by omega) u2 u3
 rw [if_neg (by simpa using c2)]
 have hxa : (arr.extract (sa + k) sb).size = sb - (sa + k) := by simp; omega
 have hya : (arr.extract sb (sb + m)).size = m := by simp; omega
 have ux : rK K (arr.extract (sa + k) sb) := qm (by omega) fun u v a b c => s1 u v (by omega) b c
 have uy : rK K (arr.extract sb (sb + m)) := qm (by omega) fun u v a b c => s2 u v a b (by omega)
 have ox : ∀ x ∈ (arr.extract (sa + k) sb).toList, ok x := fun x hx => by
  obtain ⟨j, j1, j2, rfl⟩ := jC (by omega) (by omega) hx
  exact ho _ (cO (by omega))
 have oy : ∀ x ∈ (arr.extract sb (sb + m)).toList, ok x := fun x hx => by
  obtain ⟨j, j1, j2, rfl⟩ := jC (by omega) (by omega) hx
  exact ho _ (cO (by omega))
 have Zv : K (it (arr.extract sb (sb + m)) 0) <= K (it (arr.extract (sa + k) sb) 0) := by
  rw [lg (by omega) (by omega), lg (by omega) (by omega)]; exact RG
 have Zw : ∀ j, j < (arr.extract sb (sb + m)).size -> K (it (arr.extract sb (sb + m)) j) <= K (it (arr.extract (sa + k) sb) ((arr.extract (sa + k) sb).size - 1)) := fun j hj => by
  rw [hya] at hj
  rw [hxa, lg (by omega) (by omega), lg (by omega) (by omega), show sa + k + (sb - (sa + k) - 1) = sb - 1 by omega]
  exact Int.le_of_lt (m2' _ (by omega) (by omega))
 have fin : ∀ (merged : Array Keyed) (st' : SortSt), Fin K (arr.extract (sa + k) sb) (arr.extract sb (sb + m)) merged ->
  oV (SortSt.mk' kd arr ((pend.setIfInBounds i (sa, na + nb, pw)).eraseIdxIfInBounds (i + 1)) gm fl) st' ->
  wpS M A E s ((modify fun s => setArr s (List.foldl (fun a x => match x with | (p, j) => a.setIfInBounds (sa + k + j) p) (arrOf s) merged.toList.zipIdx)) >>= fun _ => get >>= fun s => pure (failedOf s).isNone) Q st' := fun merged st' f sm => by
  refine wpS_bind (wpS_modify (wpS_bind (wpS_get (wpS_pure ?_))))
  have e1 : arrOf st' = arr := sm.arr
  have e2 : failedOf st' = none := sm.fail.trans hf
  have XJ : merged.toList.length = sb + m - (sa + k) := by rw [f.perm.length_eq]; simp; omega
  show Q (failedOf st').isNone _
  rw [e2]
  refine q _ (sm.kind.trans hs) e2 sm.pend ?_
  show M7 K arr (List.foldl _ (arrOf st') merged.toList.zipIdx) sa (sb + nb)
  rw [e1]
  have hy := tM merged.toList arr (sa + k) 0 (by omega)
  rw [Nat.add_zero, XJ, show sa + k + (sb + m - (sa + k)) = sb + m by omega] at hy
  have he : arr.extract (sa + k) (sb + m) = arr.extract (sa + k) sb ++ arr.extract sb (sb + m) := by
   simp [Array.extract_append_extract]; congr 1 <;> omega
  refine Jv (u := sa + k) (v := sb + m) (by omega) (by omega) (by omega) hz hy (f.perm.trans (.of_eq ?_)) (Jt (by omega) (by omega) (by omega) (by omega) hz (by omega) (by omega) s1 s2 f k2' m3')
  rw [he, Array.toList_append]
 try dsimp only
 split
 . exact wpS_bind (J8 R ox oy hs ux uy (by omega) (by omega) Zv Zw fun merged st' f sm => fin merged st' f sm)
 . exact wpS_bind (Kw R ox oy hs ux uy (by omega) (by omega) Zv Zw fun merged st' f sm => fin merged st' f sm)
end
end HH
end
section
namespace HH
open PySem PyProof.Rows
section
variable {K : Keyed -> Int}
theorem sV {xs : Array Keyed} {i : Nat} : it xs i = (xs[i]?).getD (Value.none, Value.none) := by
 unfold it
 by_cases h : i < xs.size <;> simp [Array.getD, h]
theorem jq {xs : Array Keyed} {i j : Nat} (hj : j <= xs.size) (k : Nat) : it (mirror xs i j ((j - i) / 2)) k = if i <= k /\ k < j then it xs (i + j - 1 - k) else it xs k := by
 rw [sV, getElem?_mirror_all hj]
 split <;> rw [sV]
theorem vh {xs : Array Keyed} {u d : Nat} (hs : u < xs.size) (hd : d <= u) (k : Nat) : it (bubble xs u d) k = if k = u - d then it xs u else if u - d < k /\ k <= u then it xs (k - 1) else it xs k := by
 rw [sV, getElem?_bubble hs d hd]
 by_cases h1 : k = u - d
 . rw [if_pos h1, if_pos h1, sV]
 . rw [if_neg h1, if_neg h1]
   split <;> rw [sV]
structure mF (xs ys : Array Keyed) (lo : Nat) : Prop where
 perm : ys.toList.Perm xs.toList
 pre : ∀ i, i < lo -> it ys i = it xs i
theorem mF.refl (xs : Array Keyed) (lo : Nat) : mF xs xs lo := ⟨.refl _, fun _ _ => rfl⟩
theorem mF.trans {xs ys zs : Array Keyed} {lo : Nat} (a : mF xs ys lo) (b : mF ys zs lo) : mF xs zs lo := ⟨b.perm.trans a.perm, fun i h => (b.pre i h).trans (a.pre i h)⟩
theorem mF.size {xs ys : Array Keyed} {lo : Nat} (h : mF xs ys lo) : ys.size = xs.size := by simpa using h.perm.length_eq
theorem iH {xs : Array Keyed} {lo i j : Nat} (h : lo <= i) (hj : j <= xs.size) : mF xs (mirror xs i j ((j - i) / 2)) lo :=
 ⟨Array.perm_iff_toList_perm.mp (mirror_perm ..), fun k hk => by rw [jq hj, if_neg (by omega)]⟩
theorem CJ {xs : Array Keyed} {lo u d : Nat} (hs : u < xs.size) (hd : d <= u) (h : lo <= u - d) : mF xs (bubble xs u d) lo :=
 ⟨Array.perm_iff_toList_perm.mp (bubble_perm ..), fun k hk => by rw [vh hs hd, if_neg (by omega), if_neg (by omega)]⟩
noncomputable def FT (K : Keyed -> Int) (xs : Array Keyed) (lo hi : Nat) : Prop := ∀ i j, lo <= i -> i <= j -> j < hi -> K (it xs j) <= K (it xs i)
end
section
variable {M : Model} {A : Around} {E : Value -> Shared -> Prop} {s : Shared} {κ : SortKind} {ok : Keyed -> Prop} {K : Keyed -> Int}
structure Sx (κ : SortKind) (ok : Keyed -> Prop) (st : SortSt) (xs : Array Keyed) (st' : SortSt) : Prop where
 kind : kindOf st' = κ
 arr : arrOf st' = xs
 pend : pendingOf st' = pendingOf st
 fail : failedOf st' = none
 ok : ∀ x ∈ xs.toList, ok x
theorem Sx.set {st st' : SortSt} {xs ys : Array Keyed} {lo : Nat} (h : Sx κ ok st xs st') (c : mF xs ys lo) : Sx κ ok st ys (setArr st' ys) := ⟨h.kind, rfl, h.pend, h.fail, fun x hx => h.ok x (c.perm.mem_iff.mp hx)⟩
theorem jM (R : Rk M A E s κ ok K) {st st' : SortSt} {xs : Array Keyed} {i j : Nat} {Q : Option Bool -> SortSt -> Prop} (h : Sx κ ok st xs st') (hi : i < xs.size) (hj : j < xs.size) (q : Q (some (decide (K (it xs i) < K (it xs j)))) st') : wpS M A E s (ltAt' i j) Q st' := by
 rw [ltAt'_eq]
 refine wpS_bind (wpS_get ?_)
 show wpS M A E s (elem' (arrOf st') i >>= fun x => elem' (arrOf st') j >>= fun y => lt' x y) Q st'
 rw [h.arr]
 exact wpS_bind (bw hi (wpS_bind (bw hj (R.lt (h.ok _ (cO hi)) (h.ok _ (cO hj)) h.kind q))))
theorem oE {st st' : SortSt} {xs : Array Keyed} {lo i j : Nat} {Q : Unit -> SortSt -> Prop} (h : Sx κ ok st xs st') (hl : lo <= i) (hj : j <= xs.size) (q : ∀ st2, Sx κ ok st (mirror xs i j ((j - i) / 2)) st2 -> Q () st2) : wpS M A E s (reverseSlice' i j) Q st' := by
 rw [reverseSlice'_eq]
 refine wpS_modify ?_
 rw [h.arr]
 exact q _ (h.set (iH hl hj))
theorem vp (R : Rk M A E s κ ok K) {st st' : SortSt} {xs : Array Keyed} {lo a n : Nat} {Q : Option (Option Nat) × Nat -> SortSt -> Prop} (h : Sx κ ok st xs st') (hn : lo + n <= xs.size) (ha : 1 <= a) (han : a <= n) (hs : Seg K xs lo (lo + a))
 (q : ∀ m, a <= m -> m <= n -> Seg K xs lo (lo + m) -> (m = n \/ K (it xs (lo + m)) < K (it xs (lo + m - 1))) -> Q (none, m) st') :
 wpS M A E s (forIn [a:n] ((none, a) : Option (Option Nat) × Nat) fun _ c => ltAt' (lo + c.2) (lo + c.2 - 1) >>= fun o => match o with
  | some b => if b = true then pure (.done (none, c.2)) else pure (.yield (none, c.2 + 1))
  | _ => pure (.done (some none, c.2))) Q st' := by
 refine wpS_forRange (I := fun x c st2 => st2 = st' /\ c = (none, x) /\ Seg K xs lo (lo + x)) ?_ ?_ ⟨rfl, rfl, hs⟩
 . rintro x c st2 h1 h2 ⟨rfl, rfl, hs'⟩
   try dsimp only
   refine wpS_bind (jM R h (by omega) (by omega) ?_)
   by_cases c : K (it xs (lo + x)) < K (it xs (lo + x - 1))
   . rw [decide_eq_true c]
     try dsimp only
     rw [if_pos rfl]
     exact wpS_pure (q x h1 (by omega) hs' (.inr c))
   . rw [decide_eq_false c]
     try dsimp only
     rw [if_neg (by simp)]
     refine wpS_pure ⟨rfl, rfl, fun i j i1 ij jx => ?_⟩
     by_cases hj : j < lo + x
     . exact hs' i j i1 ij hj
     . have : j = lo + x := by omega
       subst this
       by_cases e : i = lo + x
       . rw [e]; exact Int.le_refl _
       . have := hs' i (lo + x - 1) i1 (by omega) (by omega)
         omega
 . rintro c st2 ⟨rfl, rfl, hs'⟩
   rw [show max a n = n by omega] at hs' ⊢
   exact q n han (Nat.le_refl _) hs' (.inl rfl)
theorem Ed (R : Rk M A E s κ ok K) {st st' : SortSt} {xs : Array Keyed} {lo a n : Nat} {Q : Option (Option Nat) × Nat × Nat -> SortSt -> Prop} (h : Sx κ ok st xs st') (hn : lo + n <= xs.size) (ha : 1 <= a) (han : a <= n) (hs : FT K xs lo (lo + a))
 (q : ∀ ys st2 m e, mF xs ys lo -> Sx κ ok st ys st2 -> a <= m -> m <= n -> FT K ys lo (lo + m) -> e + 1 <= m -> (∀ i, lo + m - (e + 1) <= i -> i < lo + m -> K (it ys i) = K (it ys (lo + m - 1))) -> Q (none, m, e) st2) :
 wpS M A E s (forIn [a:n] ((none, a, 0) : Option (Option Nat) × Nat × Nat) fun _ c => ltAt' (lo + c.2.1) (lo + c.2.1 - 1) >>= fun o => match o with
  | some b => if b = true then
   (if c.2.2 > 0 then reverseSlice' (lo + c.2.1 - (c.2.2 + 1)) (lo + c.2.1) >>= fun _ => pure (.yield (none, c.2.1 + 1, 0)) else pure (.yield (none, c.2.1 + 1, 0)))
   else ltAt' (lo + c.2.1 - 1) (lo + c.2.1) >>= fun o => match o with
    | some b => if b = true then pure (.done (none, c.2.1, c.2.2)) else pure (.yield (none, c.2.1 + 1, c.2.2 + 1))
    | _ => pure (.done (some none, c.2.1, c.2.2))
  | _ => pure (.done (some none, c.2.1, c.2.2))) Q st' := by
 refine wpS_forRange (I := fun x c st2 => ∃ ys e, c = (none, x, e) /\ mF xs ys lo /\ Sx κ ok st ys st2 /\ FT K ys lo (lo + x) /\ e + 1 <= x /\ ∀ i, lo + x - (e + 1) <= i -> i < lo + x -> K (it ys i) = K (it ys (lo + x - 1))) ?_ ?_
  ⟨xs, 0, rfl, .refl _ _, h, hs, by omega, fun i h1 h2 => by rw [show i = lo + a - 1 by omega]⟩
 . rintro x c st2 h1 h2 ⟨ys, e, rfl, hc, hx, hd, he, hq⟩
   have hsz := hc.size
   try dsimp only
   refine wpS_bind (jM R hx (by omega) (by omega) ?_)
   by_cases c : K (it ys (lo + x)) < K (it ys (lo + x - 1))
   . rw [decide_eq_true c]
     try dsimp only
     rw [if_pos rfl]
     have more : ∀ zs : Array Keyed, (∀ i, K (it zs i) = K (it ys i)) -> FT K zs lo (lo + (x + 1)) := fun zs hz i j i1 ij jx => by
      rw [hz, hz]
      by_cases hj : j < lo + x
      . exact hd i j i1 ij hj
      . have : j = lo + x := by omega
        subst this
        by_cases e : i = lo + x
        . rw [e]; exact Int.le_refl _
        . have := hd i (lo + x - 1) i1 (by omega) (by omega)
          omega
     by_cases c2 : e > 0
     . rw [if_pos c2]
       refine wpS_bind (oE (lo := lo) hx (by omega) (by omega) fun st3 h3 => wpS_pure ⟨_, 0, rfl, hc.trans (iH (by omega) (by omega)), h3, more _ fun i => ?_, by omega, fun i h1 h2 => by rw [show i = lo + (x + 1) - 1 by omega]⟩)
       rw [jq (by omega)]
       split
       . rw [hq _ (by omega) (by omega), hq i (by omega) (by omega)]
       . rfl
     . rw [if_neg c2]
       exact wpS_pure ⟨ys, 0, rfl, hc, hx, more ys fun _ => rfl, by omega, fun i h1 h2 => by rw [show i = lo + (x + 1) - 1 by omega]⟩
   . rw [decide_eq_false c]
     try dsimp only
     rw [if_neg (by simp)]
     refine wpS_bind (jM R hx (by omega) (by omega) ?_)
     by_cases c2 : K (it ys (lo + x - 1)) < K (it ys (lo + x))
     . rw [decide_eq_true c2]
       try dsimp only
       rw [if_pos rfl]
       exact wpS_pure (q ys st2 x e hc hx h1 (by omega) hd he hq)
     . rw [decide_eq_false c2]
       try dsimp only
       rw [if_neg (by simp)]
       have Zx : K (it ys (lo + x)) = K (it ys (lo + x - 1)) := by omega
       refine wpS_pure ⟨ys, e + 1, rfl, hc, hx, fun i j i1 ij jx => ?_, by omega, fun i i1 i2 => ?_⟩
       . by_cases hj : j < lo + x
         . exact hd i j i1 ij hj
         . have : j = lo + x := by omega
           subst this
           by_cases e : i = lo + x
           . rw [e]; exact Int.le_refl _
           . rw [Zx]; exact hd i (lo + x - 1) i1 (by omega) (by omega)
       . rw [show lo + (x + 1) - 1 = lo + x by omega]
         by_cases e' : i = lo + x
         . rw [e']
         . rw [Zx]; exact hq i (by omega) (by omega)
 . rintro c st2 ⟨ys, e, rfl, hc, hx, hd, he, hq⟩
   rw [show max a n = n by omega] at *
   exact q ys st2 n e hc hx han (Nat.le_refl _) hd he hq
end
end HH
end
section
namespace HH
open PySem PyProof.Rows
section
variable {M : Model} {A : Around} {E : Value -> Shared -> Prop} {s : Shared} {κ : SortKind} {ok : Keyed -> Prop} {K : Keyed -> Int}
theorem Bk {xs : Array Keyed} {lo n : Nat} (hn : lo + n <= xs.size) (h : FT K xs lo (lo + n)) : Seg K (mirror xs lo (lo + n) ((lo + n - lo) / 2)) lo (lo + n) := fun i j i1 ij jn => by
 rw [jq hn, jq hn, if_pos (by omega), if_pos (by omega)]
 exact h _ _ (by omega) (by omega) (by omega)
theorem Ah (R : Rk M A E s κ ok K) {st st' : SortSt} {xs : Array Keyed} {lo n : Nat} {Q : Option Nat -> SortSt -> Prop} (h : Sx κ ok st xs st') (hn : lo + n <= xs.size) (h1 : 1 <= n)
 (q : ∀ ys st2 m, mF xs ys lo -> Sx κ ok st ys st2 -> 1 <= m -> m <= n -> Seg K ys lo (lo + m) -> Q (some m) st2) : wpS M A E s (countRun' lo n) Q st' := by
 have one : ∀ ys : Array Keyed, Seg K ys lo (lo + 1) := fun ys i j i1 ij jn => by rw [show i = j by omega]; exact Int.le_refl _
 show wpS M A E s (_ >>= _) Q st'
 refine wpS_bind (vp (a := 1) (n := n) R h hn (Nat.le_refl 1) h1 (one xs) fun m m1 m2 sm hor => ?_)
 dsimp only
 by_cases c1 : m = n
 . rw [if_pos (by simpa using c1)]
   exact wpS_pure (q xs st' m (.refl _ _) h m1 m2 sm)
 rw [if_neg (by simpa using c1)]
 have hlt := hor.resolve_left c1
 by_cases c2 : m > 1
 rw [if_pos c2]
 refine wpS_bind (jM R h (by omega) (by omega) ?_)
 by_cases c3 : K (it xs lo) < K (it xs (lo + m - 1))
 . rw [decide_eq_true c3]
   try dsimp only
   rw [if_pos rfl]
   exact wpS_pure (q xs st' m (.refl _ _) h m1 m2 sm)
 rw [decide_eq_false c3]
 try dsimp only
 rw [if_neg (by simp)]
 have hall : ∀ k, lo <= k -> k < lo + m -> K (it xs k) = K (it xs (lo + m - 1)) := fun k k1 k2 => by
  have a1 := sm lo k (Nat.le_refl _) k1 k2
  have a2 := sm k (lo + m - 1) k1 (by omega) (by omega)
  omega
 refine wpS_bind (oE (lo := lo) h (Nat.le_refl _) (by omega) fun st2 h2 => ?_)
 have hc : mF xs (mirror xs lo (lo + m) ((lo + m - lo) / 2)) lo := iH (Nat.le_refl _) (by omega)
 have hd : FT K (mirror xs lo (lo + m) ((lo + m - lo) / 2)) lo (lo + (m + 1)) := fun i j i1 ij jn => by
  have e : ∀ k, lo <= k -> k < lo + m -> K (it (mirror xs lo (lo + m) ((lo + m - lo) / 2)) k) = K (it xs (lo + m - 1)) := fun k k1 k2 => by
   rw [jq (by omega), if_pos (by omega)]; exact hall _ (by omega) (by omega)
  by_cases hj : j < lo + m
  . rw [e i i1 (by omega), e j (by omega) hj]; exact Int.le_refl _
  . have : j = lo + m := by omega
    subst this
    by_cases e' : i = lo + m
    . rw [e']; exact Int.le_refl _
    . rw [e i i1 (by omega), jq (by omega), if_neg (by omega)]; omega
 generalize mirror xs lo (lo + m) ((lo + m - lo) / 2) = ys at h2 hc hd
 rotate_left
 rw [if_neg c2]
 have hd0 : FT K xs lo (lo + (m + 1)) := fun i j i1 ij jn => by
  by_cases e : i = j
  . rw [e]; exact Int.le_refl _
  . have e1 : i = lo := by omega
    have e2 : j = lo + m := by omega
    rw [e1, e2]
    rw [show lo + m - 1 = lo by omega] at hlt
    omega
 obtain ⟨ys, hc, h2, hd⟩ : ∃ ys, mF xs ys lo /\ Sx κ ok st ys st' /\ FT K ys lo (lo + (m + 1)) := ⟨xs, .refl _ _, h, hd0⟩
 all_goals
  have hsz := hc.size
  refine wpS_bind (wp_rule ?_)
  refine wpS_bind (Ed (a := m + 1) R h2 (by omega) (by omega) (by omega) hd fun zs st3 p e Ud Zy p1 p2 Zz he hq => ?_)
  have hsz2 := Ud.size
  dsimp only
  by_cases ce : e > 0
  . rw [if_pos ce]
    refine wpS_bind (oE (lo := lo) Zy (by omega) (by omega) fun Cj h4 => ?_)
    have hc4 : mF xs (mirror zs (lo + p - (e + 1)) (lo + p) ((lo + p - (lo + p - (e + 1))) / 2)) lo := hc.trans (Ud.trans (iH (by omega) (by omega)))
    have ZC : FT K (mirror zs (lo + p - (e + 1)) (lo + p) ((lo + p - (lo + p - (e + 1))) / 2)) lo (lo + p) := fun i j i1 ij jn => by
     have ez : ∀ k, K (it (mirror zs (lo + p - (e + 1)) (lo + p) ((lo + p - (lo + p - (e + 1))) / 2)) k) = K (it zs k) := fun k => by
      rw [jq (by omega)]
      split
      . rw [hq _ (by omega) (by omega), hq k (by omega) (by omega)]
      . rfl
     rw [ez, ez]
     exact Zz i j i1 ij jn
    generalize mirror zs (lo + p - (e + 1)) (lo + p) ((lo + p - (lo + p - (e + 1))) / 2) = us at h4 hc4 ZC
    have hs4 := hc4.size
    have hc5 : mF us (mirror us lo (lo + p) ((lo + p - lo) / 2)) lo := iH (Nat.le_refl _) (by omega)
    refine wpS_bind (oE (lo := lo) h4 (Nat.le_refl _) (by omega) fun FZ h5 => ?_)
    refine wpS_bind (vp R h5 (by rw [hc5.size]; omega) (by omega) p2 (Bk (by omega) ZC) fun u u1 u2 su _ => ?_)
    exact wpS_pure (q _ FZ u (hc4.trans hc5) h5 (by omega) u2 su)
  . rw [if_neg ce]
    have hs4 := (hc.trans Ud).size
    have hc5 : mF zs (mirror zs lo (lo + p) ((lo + p - lo) / 2)) lo := iH (Nat.le_refl _) (by omega)
    refine wpS_bind (oE (lo := lo) Zy (Nat.le_refl _) (by omega) fun FZ h5 => ?_)
    refine wpS_bind (vp R h5 (by rw [hc5.size]; omega) (by omega) p2 (Bk (by omega) Zz) fun u u1 u2 su _ => ?_)
    exact wpS_pure (q _ FZ u ((hc.trans Ud).trans hc5) h5 (by omega) u2 su)
theorem Kz (R : Rk M A E s κ ok K) {st st' : SortSt} {xs : Array Keyed} {lo n o : Nat} {Q : Bool -> SortSt -> Prop} (h : Sx κ ok st xs st') (hn : lo + n <= xs.size) (ho : o <= n) (hs : Seg K xs lo (lo + o))
 (q : ∀ ys st2, mF xs ys lo -> Sx κ ok st ys st2 -> Seg K ys lo (lo + n) -> Q true st2) : wpS M A E s (binarySort' lo n o) Q st' := by
 show wpS M A E s (_ >>= _) Q st'
 refine wpS_bind (wpS_mono (wpS_forRange (I := fun k c st2 => ∃ ys, c = (none, ()) /\ mF xs ys lo /\ Sx κ ok st ys st2 /\ Seg K ys lo (lo + min k n)) (Q := fun c st2 => ∃ ys, c = (none, ()) /\ mF xs ys lo /\ Sx κ ok st ys st2 /\ Seg K ys lo (lo + n)) ?_ ?_ ?_) ?_)
 . rintro k c st2 k1 k2 ⟨ys, rfl, hc, hx, sg⟩
   rw [show min k n = k by omega] at sg
   have hsz := hc.size
   refine wpS_bind (wpS_mono (wpS_forRange (I := fun x c st3 => st3 = st2 /\ ∃ l r, c = (none, l, r) /\ l <= r /\ r <= k /\ r - l <= k - x /\ (∀ i, lo <= i -> i < lo + l -> K (it ys i) <= K (it ys (lo + k))) /\ ∀ i, lo + r <= i -> i < lo + k -> K (it ys (lo + k)) < K (it ys i))
    (Q := fun c st3 => st3 = st2 /\ ∃ l r, c = (none, l, r) /\ l <= k /\ (∀ i, lo <= i -> i < lo + l -> K (it ys i) <= K (it ys (lo + k))) /\ ∀ i, lo + l <= i -> i < lo + k -> K (it ys (lo + k)) < K (it ys i)) ?_ ?_ ⟨rfl, 0, k, rfl, by omega, by omega, by omega, fun i a b => by omega, fun i a b => by omega⟩) ?_)
   . rintro x c st3 _ xk ⟨rfl, l, r, rfl, a1, a2, a3, a4, a5⟩
     dsimp only
     by_cases e : l ≥ r
     . rw [if_pos e]
       have : l = r := by omega
       subst this
       exact wpS_pure ⟨rfl, l, l, rfl, a2, a4, a5⟩
     . rw [if_neg e]
       refine wpS_bind (jM R hx (by omega) (by omega) ?_)
       by_cases c : K (it ys (lo + k)) < K (it ys (lo + (l + r) / 2))
       . rw [decide_eq_true c]
         dsimp only
         rw [if_pos rfl]
         exact wpS_pure ⟨rfl, _, _, rfl, by omega, by omega, by omega, a4, fun i i1 i2 => Int.lt_of_lt_of_le c (sg _ _ (by omega) i1 i2)⟩
       . rw [decide_eq_false c]
         dsimp only
         rw [if_neg (by simp)]
         exact wpS_pure ⟨rfl, _, _, rfl, by omega, a2, by omega, fun i i1 i2 => Int.le_trans (sg i (lo + (l + r) / 2) i1 (by omega) (by omega)) (Int.not_lt.mp c), a5⟩
   . rintro c st3 ⟨rfl, l, r, rfl, a1, a2, a3, a4, a5⟩
     have : l = r := by omega
     subst this
     exact ⟨rfl, l, l, rfl, a2, a4, a5⟩
   . rintro c st3 ⟨rfl, l, r, rfl, a2, a4, a5⟩
     show wpS M A E s (moveDown' (lo + k) (lo + l) >>= fun _ => pure (ForInStep.yield (none, ()))) _ _
     rw [moveDown'_eq]
     refine wpS_bind (wpS_modify (wpS_pure ?_))
     rw [hx.arr]
     have hb : mF ys (bubble ys (lo + k) (lo + k - (lo + l))) lo := CJ (by omega) (by omega) (by omega)
     refine ⟨_, rfl, hc.trans hb, hx.set hb, fun i j i1 ij jn => ?_⟩
     rw [show min (k + 1) n = k + 1 by omega] at jn
     rw [vh (by omega) (by omega), vh (by omega) (by omega), show lo + k - (lo + k - (lo + l)) = lo + l by omega]
     repeat' split
     all_goals first
      | (exfalso; omega)
      | exact Int.le_refl _
      | exact a4 _ (by omega) (by omega)
      | exact Int.le_of_lt (a5 _ (by omega) (by omega))
      | exact sg _ _ (by omega) (by omega) (by omega)
 . rintro c st2 ⟨ys, hc0, hc, hx, sg⟩
   rw [show min (max (max o 1) n) n = n by omega] at sg
   exact ⟨ys, hc0, hc, hx, sg⟩
 . refine ⟨xs, rfl, .refl _ _, h, fun i j i1 ij jn => ?_⟩
   by_cases e : i = j
   . rw [e]; exact Int.le_refl _
   . exact hs i j i1 ij (by omega)
 . rintro c st2 ⟨ys, rfl, hc, hx, sg⟩
   exact wpS_pure (q ys st2 hc hx sg)
end
end HH
end
section
namespace HH
open PySem PyProof.Rows
noncomputable abbrev Rn := Nat × Nat × Nat
section
variable {K : Keyed -> Int} {xs ys : Array Keyed}
noncomputable def yM (K : Keyed -> Int) (xs : Array Keyed) : Nat -> List Rn -> Nat -> Prop
 | a, [], b => a = b
 | a, r :: l, b => r.1 = a /\ 1 <= r.2.1 /\ Seg K xs a (a + r.2.1) /\ yM K xs (a + r.2.1) l b
theorem fL : ∀ {l k : List Rn} {a b : Nat}, yM K xs a (l ++ k) b ↔ ∃ m, yM K xs a l m /\ yM K xs m k b
 | [], k, a, b => ⟨fun h => ⟨a, rfl, h⟩, fun ⟨m, h1, h2⟩ => by cases (show a = m from h1); exact h2⟩
 | r :: l, k, a, b => by
   rw [List.cons_append]
   constructor
   . rintro ⟨h1, h2, h3, h4⟩
     obtain ⟨m, h5, h6⟩ := fL.mp h4
     exact ⟨m, ⟨h1, h2, h3, h5⟩, h6⟩
   . rintro ⟨m, ⟨h1, h2, h3, h4⟩, h5⟩
     exact ⟨h1, h2, h3, fL.mpr ⟨m, h4, h5⟩⟩
theorem nZ : ∀ {l : List Rn} {a b : Nat}, yM K xs a l b -> a + l.length <= b
 | [], a, b, h => by cases (show a = b from h); simp
 | r :: l, a, b, ⟨_, h2, _, h4⟩ => by have := nZ h4; simp only [List.length_cons]; omega
theorem uv {lo hi : Nat} (h : ∀ i, lo <= i -> i < hi -> it ys i = it xs i) (s : Seg K xs lo hi) : Seg K ys lo hi := fun i j i1 ij jn => by
 rw [h i i1 (by omega), h j (by omega) jn]; exact s i j i1 ij jn
theorem jZ : ∀ {l : List Rn} {a b : Nat}, (∀ i, a <= i -> i < b -> it ys i = it xs i) -> yM K xs a l b -> yM K ys a l b
 | [], _, _, _, h => h
 | r :: l, a, b, e, ⟨h1, h2, h3, h4⟩ => by
   have := nZ h4
   exact ⟨h1, h2, uv (fun i i1 i2 => e i i1 (by omega)) h3, jZ (fun i i1 i2 => e i (by omega) i2) h4⟩
theorem Ex {r r' : Rn} {a b : Nat} (h1 : r'.1 = r.1) (h2 : r'.2.1 = r.2.1) {l : List Rn} (h : yM K xs a (l ++ [r]) b) : yM K xs a (l ++ [r']) b := by
 obtain ⟨m, g1, g2, g3, g4, g5⟩ := fL.mp h
 exact fL.mpr ⟨m, g1, h1.trans g2, by omega, by rw [h2]; exact g4, by rw [h2]; exact g5⟩
theorem CT {lo : Nat} (h : ys.toList.take lo = xs.toList.take lo) (i : Nat) (hi : i < lo) : it ys i = it xs i := by
 rw [gK, gK, List.getD_eq_getElem?_getD, List.getD_eq_getElem?_getD]
 have e := congrArg (fun l => l[i]?) h
 simp only [List.getElem?_take, hi, if_true] at e
 rw [e]
theorem wR {hi : Nat} (h : ys.toList.drop hi = xs.toList.drop hi) (i : Nat) (h1 : hi <= i) : it ys i = it xs i := by
 rw [gK, gK, List.getD_eq_getElem?_getD, List.getD_eq_getElem?_getD]
 have e := congrArg (fun l => l[i - hi]?) h
 simp only [List.getElem?_drop, show hi + (i - hi) = i by omega] at e
 rw [e]
theorem DP {l1 l2 : List Rn} {a b : Nat} {r1 r2 : Rn} {p : Nat} (h : yM K xs a (l1 ++ r1 :: r2 :: l2) b) (g : M7 K xs ys r1.1 (r2.1 + r2.2.1)) : yM K ys a (l1 ++ (r1.1, r1.2.1 + r2.2.1, p) :: l2) b := by
 obtain ⟨m, g1, g2, g3, g4, g5, g6, g7, g8⟩ := fL.mp h
 subst g2
 have e := nZ g8
 refine fL.mpr ⟨r1.1, jZ (fun i i1 i2 => CT g.pre i i2) g1, rfl, by show 1 <= r1.2.1 + r2.2.1; omega, ?_, ?_⟩
 . show Seg K ys r1.1 (r1.1 + (r1.2.1 + r2.2.1))
   have := g.seg
   rw [g5] at this
   rwa [<- Nat.add_assoc]
 . show yM K ys (r1.1 + (r1.2.1 + r2.2.1)) l2 b
   rw [<- Nat.add_assoc]
   exact jZ (fun i i1 i2 => wR g.post i (by rw [g5]; exact i1)) g8
theorem zE {l : List Rn} {i : Nat} (h : i + 1 < l.length) : ∃ l1 r1 r2 l2, l = l1 ++ r1 :: r2 :: l2 /\ l1.length = i := by
 refine ⟨l.take i, l[i], l[i + 1], l.drop (i + 2), ?_, by simp; omega⟩
 rw [<- List.drop_eq_getElem_cons (by omega), <- List.drop_eq_getElem_cons (by omega), List.take_append_drop]
theorem m6 : ∀ {l : List Rn}, l ≠ [] -> ∃ k r, l = k ++ [r]
 | [], h => absurd rfl h
 | [r], _ => ⟨[], r, rfl⟩
 | r :: x :: l, _ => by
   obtain ⟨k, q, e⟩ := m6 (l := x :: l) (by simp)
   exact ⟨r :: k, q, by rw [e]; rfl⟩
theorem wC (x r1 r2 : Rn) (l2 : List Rn) : ∀ l1 : List Rn, ((l1 ++ r1 :: r2 :: l2).set l1.length x).eraseIdx (l1.length + 1) = l1 ++ x :: l2
 | [] => rfl
 | r :: l1 => by
   show r :: ((l1 ++ r1 :: r2 :: l2).set l1.length x).eraseIdx (l1.length + 1) = r :: (l1 ++ x :: l2)
   rw [wC x r1 r2 l2 l1]
end
section
variable {M : Model} {A : Around} {E : Value -> Shared -> Prop} {s : Shared} {κ : SortKind} {ok : Keyed -> Prop} {K : Keyed -> Int}
structure SR (κ : SortKind) (ok : Keyed -> Prop) (K : Keyed -> Int) (x0 ys : Array Keyed) (l : List Rn) (lo : Nat) (st : SortSt) : Prop where
 kind : kindOf st = κ
 arr : arrOf st = ys
 fail : failedOf st = none
 pend : (pendingOf st).toList = l
 perm : ys.toList.Perm x0.toList
 ok : ∀ x ∈ ys.toList, ok x
 NP : yM K ys 0 l lo
 le : lo <= ys.size
theorem SR.sx {x0 ys : Array Keyed} {l : List Rn} {lo : Nat} {st : SortSt} (h : SR κ ok K x0 ys l lo st) : Sx κ ok st ys st := ⟨h.kind, h.arr, rfl, h.fail, h.ok⟩
theorem wz (R : Rk M A E s κ ok K) {x0 ys : Array Keyed} {l : List Rn} {lo i : Nat} {st : SortSt} {Q : Bool -> SortSt -> Prop} (h : SR κ ok K x0 ys l lo st) (hi : i + 1 < l.length)
 (q : ∀ zs k st2, SR κ ok K x0 zs k lo st2 -> k.length + 1 = l.length -> (∀ j, lo <= j -> it zs j = it ys j) -> Q true st2) : wpS M A E s (mergeAt' i) Q st := by
 obtain ⟨l1, r1, r2, l2, e, hl⟩ := zE hi
 have hr := h.NP
 rw [e] at hr
 obtain ⟨m, g1, g2, g3, g4, g5, g6, g7, g8⟩ := fL.mp hr
 have hle := nZ g8
 have hz := h.le
 have hp := h.pend
 have ei : (pendingOf st)[i]? = some (r1.1, r1.2.1, r1.2.2) := by rw [<- Array.getElem?_toList, hp, e, <- hl]; simp
 have ej : (pendingOf st)[i + 1]? = some (r2.1, r2.2.1, r2.2.2) := by rw [<- Array.getElem?_toList, hp, e, <- hl]; simp
 refine IV R h.kind (by rw [h.arr]; exact h.ok) h.fail ei ej (by omega) g3 g6 (by rw [h.arr]; omega) (by rw [h.arr, g2, g5]; exact g4) (by rw [h.arr, g5]; exact g7) fun st2 a1 a2 a3 a4 => ?_
 rw [h.arr] at a4
 have hr2 := DP (p := r1.2.2) hr a4
 refine q (arrOf st2) (l1 ++ (r1.1, r1.2.1 + r2.2.1, r1.2.2) :: l2) st2 ⟨a1, rfl, a2, ?_, a4.perm.trans h.perm, fun x hx => h.ok x (a4.perm.mem_iff.mp hx), hr2, ?_⟩ (by rw [e]; simp only [List.length_append, List.length_cons]; omega) fun j hj => wR a4.post j (by omega)
 . rw [a3]
   rw [Array.toList_eraseIdxIfInBounds, Array.toList_setIfInBounds, hp, e, <- hl]
   exact wC _ _ _ _ _
 . have := a4.perm.length_eq
   simp only [Array.length_toList] at this
   omega
end
end HH
end
section
namespace HH
open PySem PyProof.Rows
section
variable {M : Model} {A : Around} {E : Value -> Shared -> Prop} {s : Shared} {κ : SortKind} {ok : Keyed -> Prop} {K : Keyed -> Int}
theorem SR.move {x0 ys zs : Array Keyed} {l : List Rn} {lo : Nat} {st st2 : SortSt} (h : SR κ ok K x0 ys l lo st) (c : mF ys zs lo) (x : Sx κ ok st zs st2) : SR κ ok K x0 zs l lo st2 :=
 ⟨x.kind, x.arr, x.fail, by rw [x.pend]; exact h.pend, c.perm.trans h.perm, x.ok, jZ (fun i _ i2 => c.pre i i2) h.NP, by rw [c.size]; exact h.le⟩
theorem uh {r : Rn} {f : Rn -> Rn} : ∀ k : List Rn, (k ++ [r]).modify (k.length + 1 - 1) f = k ++ [f r]
 | [] => rfl
 | x :: k => by
   show x :: (k ++ [r]).modify k.length f = x :: (k ++ [f r])
   rw [<- uh k]; rfl
theorem oA {p : Array Rn} {k : List Rn} {r : Rn} {f : Rn -> Rn} (h : p.toList = k ++ [r]) : (p.modify (p.size - 1) f).toList = k ++ [f r] := by
 have hz : p.size = k.length + 1 := by rw [<- Array.length_toList, h]; simp
 rw [Array.toList_modify, h, hz]
 exact uh k
theorem SR.push {x0 ys : Array Keyed} {l : List Rn} {lo n : Nat} {st : SortSt} (h : SR κ ok K x0 ys l lo st) (h1 : 1 <= n) (h2 : lo + n <= ys.size) (hs : Seg K ys lo (lo + n)) : SR κ ok K x0 ys (l ++ [(lo, n, 0)]) (lo + n) (setPending st ((pendingOf st).push (lo, n, 0))) :=
 ⟨h.kind, h.arr, h.fail, by show ((pendingOf st).push (lo, n, 0)).toList = _; rw [Array.toList_push, h.pend], h.perm, h.ok, fL.mpr ⟨lo, h.NP, rfl, h1, hs, rfl⟩, h2⟩
theorem SR.pow {x0 ys : Array Keyed} {l : List Rn} {lo pw : Nat} {st : SortSt} (h : SR κ ok K x0 ys l lo st) (hl : l ≠ []) : ∃ k, k ≠ [] /\ SR κ ok K x0 ys k lo (setPending st ((pendingOf st).modify ((pendingOf st).size - 1) fun (a, b, _) => (a, b, pw))) := by
 obtain ⟨k, r, e⟩ := m6 hl
 have hr := h.NP
 have hp := h.pend
 rw [e] at hr hp
 exact ⟨k ++ [(r.1, r.2.1, pw)], by simp, h.kind, h.arr, h.fail, oA hp, h.perm, h.ok, Ex (r := r) (r' := (r.1, r.2.1, pw)) rfl rfl hr, h.le⟩
theorem KZ {p : Prop} [Decidable p] {a n : Nat} (h : a + 1 < n) : (if p then a - 1 else a) + 1 < n := by split <;> omega
theorem Fe (R : Rk M A E s κ ok K) {x0 : Array Keyed} {Q : Unit -> SortSt -> Prop} {st : SortSt} (h : SR κ ok K x0 x0 [] 0 st)
 (q : ∀ ys st', arrOf st' = ys -> failedOf st' = none -> ys.toList.Perm x0.toList -> Seg K ys 0 ys.size -> Q () st') : wpS M A E s sortRuns' Q st := by
 rw [sortRuns'_eq]
 refine wpS_bind (wpS_get ?_)
 dsimp only
 simp only [h.arr]
 have big : ∀ {ys l lo st}, SR κ ok K x0 ys l lo st -> ys.size = x0.size := fun h => by simpa using h.perm.length_eq
 generalize minRun' x0.size x0.size 0 = mr
 refine wpS_bind (wpS_mono (wpS_forRange (I := fun x c st' => ∃ ys l lo, c = (none, lo) /\ SR κ ok K x0 ys l lo st' /\ x <= lo) (Q := fun c st' => ∃ ys l, c = (none, x0.size) /\ SR κ ok K x0 ys l x0.size st') ?_ ?_ ⟨x0, [], 0, rfl, h, Nat.le_refl _⟩) ?_)
 . rintro x c st1 _ hx ⟨ys, l, lo, rfl, hS, hlo⟩
   have hz := big hS
   have hle := hS.le
   dsimp only
   by_cases c1 : lo ≥ x0.size
   . rw [if_pos c1]
     have : lo = x0.size := by omega
     subst this
     exact wpS_pure ⟨ys, l, rfl, hS⟩
   rw [if_neg c1]
   refine wpS_bind (Ah R hS.sx (lo := lo) (n := x0.size - lo) (by omega) (by omega) fun ys1 st2 m ch hx1 m1 m2 sg => ?_)
   have hS1 := hS.move ch hx1
   have hz1 := big hS1
   dsimp only
   by_cases c2 : m < mr
   case' pos =>
    rw [if_pos c2]
    refine wpS_bind (wpS_lift (wpAny_rule ⟨rfl, ?_⟩))
    refine wpS_bind (Kz R hx1 (lo := lo) (n := min (x0.size - lo) mr) (by omega) (by omega) sg fun Hk st3 ch2 hx2 XM => ?_)
    simp only [Bool.not_true, Bool.false_eq_true, if_false]
    replace hS1 := hS.move (ch.trans ch2) hx2
    replace hz1 := big hS1
    replace m1 : 1 <= min (x0.size - lo) mr := by omega
    replace m2 : min (x0.size - lo) mr <= x0.size - lo := by omega
    generalize min (x0.size - lo) mr = n at *
   case' neg =>
    rw [if_neg c2]
    clear ch
    obtain ⟨Hk, hys⟩ : ∃ Hk, Hk = ys1 := ⟨_, rfl⟩
    obtain ⟨st3, hst⟩ : ∃ st3, st3 = st2 := ⟨_, rfl⟩
    obtain ⟨n, hn⟩ : ∃ n, n = m := ⟨_, rfl⟩
    subst hys hst hn
    have XM := sg
   all_goals
    refine wpS_bind (wpS_get ?_)
    cases hb : (pendingOf st3).back? with
    | none =>
      dsimp only
      exact wpS_bind (wpS_modify (wpS_pure ⟨Hk, _, lo + n, rfl, hS1.push m1 (by omega) XM, by omega⟩))
    | some r =>
      obtain ⟨s1, n1, p1⟩ := r
      dsimp only
      have hne : l ≠ [] := by
       rintro rfl
       have : pendingOf st3 = #[] := Array.toList_inj.mp hS1.pend
       rw [this] at hb
       exact nomatch hb
      generalize power' x0.size (2 * s1 + n1) (2 * s1 + n1 + n1 + n) x0.size = pw
      refine wpS_bind (wpS_mono (wpS_forRange (I := fun _ c st' => ∃ ys k, c = (none, ()) /\ k ≠ [] /\ SR κ ok K x0 ys k lo st' /\ ∀ j, lo <= j -> it ys j = it Hk j) (Q := fun c st' => ∃ ys k, c = (none, ()) /\ k ≠ [] /\ SR κ ok K x0 ys k lo st' /\ ∀ j, lo <= j -> it ys j = it Hk j) ?_ (fun _ _ h => h) ⟨Hk, l, rfl, hne, hS1, fun _ _ => rfl⟩) ?_)
      . rintro y c Cj _ _ ⟨XN, k, rfl, hk, NQ, sm⟩
        refine wpS_bind (wpS_get ?_)
        try dsimp only
        have stop : ∃ ys k, ((none, ()) : Option Unit × Unit) = (none, ()) /\ k ≠ [] /\ SR κ ok K x0 ys k lo Cj /\ ∀ j, lo <= j -> it ys j = it Hk j := ⟨XN, k, rfl, hk, NQ, sm⟩
        split
        . rename_i older ho
          split
          . exact wpS_pure stop
          . have hp1 : (pendingOf Cj).size > 1 := by
             by_cases hh : (pendingOf Cj).size > 1
             . exact hh
             . rw [if_neg hh] at ho; exact nomatch ho
            have hkl : k.length = (pendingOf Cj).size := by rw [<- NQ.pend]; simp
            refine wpS_bind (wz R NQ (by omega) fun zs k2 FZ XQ hk2 sm5 => ?_)
            simp only [Bool.not_true, Bool.false_eq_true, if_false]
            exact wpS_pure ⟨zs, k2, rfl, by rintro rfl; simp at hk2; omega, XQ, fun j hj => (sm5 j hj).trans (sm j hj)⟩
        . exact wpS_pure stop
      . rintro c Cj ⟨XN, k, rfl, hk, NQ, sm⟩
        dsimp only
        obtain ⟨k2, _, hS4⟩ := NQ.pow (pw := pw) hk
        refine wpS_bind (wpS_modify ?_)
        have hz3 := big NQ
        exact wpS_bind (wpS_modify (wpS_pure ⟨XN, _, lo + n, rfl, hS4.push m1 (by omega) (uv (fun i i1 _ => sm i i1) XM), by omega⟩))
 . rintro c st1 ⟨ys, l, lo, rfl, hS, hlo⟩
   have := hS.le
   have := big hS
   have : lo = x0.size := by omega
   subst this
   exact ⟨ys, l, rfl, hS⟩
 . rintro c st1 ⟨ys, l, rfl, hS⟩
   dsimp only
   have hl := nZ hS.NP
   refine wpS_bind (wpS_mono (wpS_forRange (I := fun x c st' => ∃ ys l, c = (none, ()) /\ SR κ ok K x0 ys l x0.size st' /\ l.length <= max 1 (x0.size - x)) (Q := fun c st' => ∃ ys l, c = (none, ()) /\ SR κ ok K x0 ys l x0.size st' /\ l.length <= 1) ?_ ?_ ⟨ys, l, rfl, hS, by omega⟩) ?_)
   . rintro x c st2 _ hx ⟨zs, k, rfl, hZ, hk⟩
     refine wpS_bind (wpS_get ?_)
     try dsimp only
     have hkl : k.length = (pendingOf st2).size := by rw [<- hZ.pend]; simp
     by_cases c1 : (pendingOf st2).size <= 1
     . rw [if_pos c1]
       exact wpS_pure ⟨zs, k, rfl, hZ, by omega⟩
     rw [if_neg c1]
     refine wpS_bind (wz R hZ (KZ (by omega)) fun zs2 k2 FZ XQ hk2 _ => ?_)
     simp only [Bool.not_true, Bool.false_eq_true, if_false]
     exact wpS_pure ⟨zs2, k2, rfl, XQ, by omega⟩
   . rintro c st2 ⟨zs, k, rfl, hZ, hk⟩
     exact ⟨zs, k, rfl, hZ, by omega⟩
   . rintro c st2 ⟨zs, k, rfl, hZ, hk⟩
     dsimp only
     have hz := big hZ
     refine wpS_pure (q zs st2 hZ.arr hZ.fail hZ.perm ?_)
     match k, hk, hZ.NP with
     | [], _, e =>
       have e : 0 = x0.size := e
       intro i j _ _ _
       omega
     | [r], _, ⟨_, _, g, e⟩ =>
       have e : 0 + r.2.1 = x0.size := e
       rw [e] at g
       rwa [hz]
end
end HH
end
section
namespace HH
open PySem PySem.W PyProof.Rows PySem.Calls L2 PySem.Spec
theorem xY {α β : Type} {f : α -> β} {l' m : List β} (h : l'.Perm m) : ∀ {l : List α}, m = l.map f -> ∃ k : List α, k.Perm l /\ k.map f = l' := by
 induction h with
 | nil =>
   intro l e
   cases l with
   | nil => exact ⟨[], .refl _, rfl⟩
   | cons _ _ => cases e
 | cons x h ih =>
   intro l e
   cases l with
   | nil => cases e
   | cons a l =>
     obtain ⟨e1, e2⟩ := List.cons.inj e
     obtain ⟨k, h1, h2⟩ := ih e2
     exact ⟨a :: k, h1.cons a, by rw [List.map_cons, h2, e1]⟩
 | swap x y l0 =>
   intro l e
   match l, e with
   | a :: b :: l, e =>
     obtain ⟨e1, e2⟩ := List.cons.inj e
     obtain ⟨e3, e4⟩ := List.cons.inj e2
     exact ⟨b :: a :: l, .swap .., by rw [List.map_cons, List.map_cons, e1, e3, e4]⟩
 | trans h1 h2 ih1 ih2 =>
   intro l e
   obtain ⟨k, p1, e1⟩ := ih2 e
   obtain ⟨k2, p2, e2⟩ := ih1 e1.symm
   exact ⟨k2, p2.trans p1, e2⟩
theorem Ck (a : List Int) : aQ a a = false := by
 cases h : aQ a a with
 | false => rfl
 | true => rw [j8 _ _ h] at h; cases h
theorem Ac {a b x : List Int} (h : aQ b a = false) (hx : aQ x a = true) : aQ x b = true := by
 cases e : aQ x b with
 | true => rfl
 | false => rw [uP _ _ _ h e] at hx; cases hx
theorem pQ {α : Type} {p q : α -> Bool} (h : ∀ x, p x = true -> q x = true) : ∀ {l : List α}, (∃ x, x ∈ l /\ q x = true /\ p x = false) -> l.countP p < l.countP q
 | [], ⟨x, hx, _⟩ => by cases hx
 | y :: l, ⟨x, hx, h1, h2⟩ => by
   rw [List.countP_cons, List.countP_cons]
   have m := List.countP_mono_left (l := l) (p := p) (q := q) fun x _ => h x
   rcases List.mem_cons.mp hx with rfl | hx
   . rw [h1, h2, if_pos rfl, if_neg (by simp)]; omega
   . have := pQ h ⟨x, hx, h1, h2⟩
     cases hp : p y with
     | true => rw [h y hp]; omega
     | false => rw [if_neg (by simp)]; omega
noncomputable def Ia (ds : List D) (d : D) : Nat := ds.countP fun e => aQ (bF e) (bF d)
theorem Aw {ds : List D} {d e : D} (hd : d ∈ ds) : decide ((Ia ds d : Int) < Ia ds e) = aQ (bF d) (bF e) := by
 cases h : aQ (bF d) (bF e) with
 | true =>
   have := pQ (l := ds) (p := fun x => aQ (bF x) (bF d)) (q := fun x => aQ (bF x) (bF e)) (fun x hx => Ac (j8 _ _ h) hx) ⟨d, hd, h, Ck _⟩
   rw [decide_eq_true_iff]; unfold Ia; omega
 | false =>
   have := List.countP_mono_left (l := ds) (p := fun x => aQ (bF x) (bF e)) (q := fun x => aQ (bF x) (bF d)) fun x _ hx => Ac h hx
   rw [decide_eq_false_iff_not]; unfold Ia; omega
open Classical in
noncomputable def Us (P : Value -> D -> Prop) (ds : List D) (x : Keyed) : Int := if h : ∃ d, d ∈ ds /\ P x.1 d then (Ia ds h.choose : Int) else 0
theorem wB {P : Value -> D -> Prop} {ds : List D} {x : Keyed} {d : D} (fn : ∀ u d e, P u d -> P u e -> bF d = bF e) (hd : d ∈ ds) (hp : P x.1 d) : Us P ds x = Ia ds d := by
 have h : ∃ d, d ∈ ds /\ P x.1 d := ⟨d, hd, hp⟩
 unfold Us
 rw [dif_pos h]
 unfold Ia
 rw [fn _ _ _ h.choose_spec.2 hp]
noncomputable def pick {α : Type} (d : α) (p : List Nat) (l : List α) : List α := p.map fun i => l.getD i d
theorem nu {α : Type} (d : α) (l : List α) : pick d (List.range l.length) l = l := by
 refine List.ext_getElem (by simp [pick]) fun i h1 h2 => ?_
 simp [pick, h2]
theorem j6 {α : Type} {d : α} {p : List Nat} {l : List α} {n : Nat} (h : p.Perm (List.range n)) : (pick d p l).length = n := by
 rw [pick, List.length_map, h.length_eq, List.length_range]
theorem iM {P : Value -> D -> Prop} : ∀ {us : List Value} {ds : List D}, Paired P us ds -> ∀ i, i < us.length -> P (us.getD i .none) (ds.getD i .non) /\ ds.getD i .non ∈ ds
 | _, _, .cons r _, 0, _ => ⟨by simpa using r, by simp⟩
 | _, _, .cons _ t, i + 1, hi => by
   have := iM t i (by simpa using hi)
   exact ⟨by simpa using this.1, by simpa using Or.inr this.2⟩
section
variable {prog : Program} {w : World} {A : Around} {E : Value -> Shared -> Prop} {s : Shared} {vs : List Value} {κ : SortKind} {P : Value -> D -> Prop} {ds : List D}
theorem pX {a : Addr} {n : Nat} {O : PySem.Fin -> Shared -> Prop} (ho : s.heap.get? a = some (seqObj "list" vs.toArray n)) (so : sortable ds = true) (hz : vs.length <= 16777216) (pr : Paired P vs ds) (fn : ∀ u d e, P u d -> P u e -> bF d = bF e)
 (hk : ∀ h', (∀ b o, b ≠ a -> s.heap.get? b = some o -> h'.get? b = some o) -> ∀ C : SortKind -> Shared -> Prop, C κ { s with heap := h' } -> 2 <= vs.length -> wpAny (model prog w) A (keyKind' vs.toArray) C (fun _ _ => False) { s with heap := h' })
 (hl : ∀ h', (∀ b o, b ≠ a -> s.heap.get? b = some o -> h'.get? b = some o) -> ∀ u v d e, P u d -> P v e -> ∀ C : Bool -> Shared -> Prop, C (aQ (bF d) (bF e)) { s with heap := h' } -> wpAny (model prog w) A (keyLt' κ u v) C (fun _ _ => False) { s with heap := h' })
 (h : ∀ h' c p, (∀ b o, b ≠ a -> s.heap.get? b = some o -> h'.get? b = some o) -> p.Perm (List.range vs.length) -> pick .non p ds = gG ds -> h'.get? a = some (seqObj "list" (pick .none p vs).toArray c) -> O (.done (.ret .none)) { s with heap := h' }) :
 wpAny (model prog w) A (Builtin.«list.sort» ⟨[.ref a], []⟩) O E s := by
 have ha : a < s.heap.objs.size := Heap.lt_size ho
 have ZD : vs.length = ds.length := Paired.length pr
 obtain ⟨e1, ho1⟩ : ∃ e1, (s.heap.update a (Obj.mapSeq fun _ => (#[] : Array Value))).get? a = some (seqObj "list" #[] e1) := ⟨_, get?_update_seq ho fun _ => #[]⟩
 rw [list_sort_plain]
 refine wpAny_bind (listItems_at ho rfl ?_)
 refine wpAny_bind (listUpdate_at ho rfl ?_ (by rw [List.size_toArray, sizeLine_eq]; omega) (Nat.zero_le _))
 refine wpAny_bind (seqEpoch_at ho1 rfl ?_)
 refine wpAny_bind (wpAny_newTuple ?_ (by show vs.length <= _; rw [sizeLine_eq]; omega))
 refine wpAny_bind (wpAny_newList ?_ (Nat.zero_le _))
 refine wpAny_holding ?_
 generalize hH : (((s.heap.update a (Obj.mapSeq fun _ => (#[] : Array Value))).push { cls := .type "tuple", data := .seq vs.toArray }).push { cls := .type "list", data := .seq #[] } : Heap) = H1
 have RJ : H1.get? a = some (seqObj "list" #[] e1) := by rw [<- hH]; exact Heap.get?_push_of_some _ (Heap.get?_push_of_some _ ho1)
 have keep : ∀ b o, b ≠ a -> s.heap.get? b = some o -> H1.get? b = some o := fun b o hb e => by
  rw [<- hH]
  exact Heap.get?_push_of_some _ (Heap.get?_push_of_some _ ((Heap.get?_update_other _ _ (Ne.symm hb)).trans e))
 have fin : ∀ p : List Nat, p.Perm (List.range vs.length) -> pick .non p ds = gG ds -> O (.done (.ret .none)) { s with heap := H1.update a (Obj.mapSeq fun _ => List.toArray (pick .none p vs)) } := by
  intro p h1 h2
  obtain ⟨c2, hc2⟩ : ∃ c2, (H1.update a (Obj.mapSeq fun _ => List.toArray (pick Value.none p vs))).get? a = some (seqObj "list" (pick Value.none p vs).toArray c2) := ⟨_, get?_update_seq RJ fun _ => List.toArray (pick Value.none p vs)⟩
  exact h _ c2 p (fun b o hb e => (Heap.get?_update_other _ _ (Ne.symm hb)).trans (keep b o hb e)) h1 h2 hc2
 show wpAny (model prog w) A _ O E { s with heap := H1 }
 dsimp only
 by_cases h2 : vs.toArray.size < 2
 . rw [if_pos h2, if_pos h2]
   refine wpAny_bind (wpAny_pure ?_)
   rw [StateT.run_pure]
   refine wpAny_bind (wpAny_pure ?_)
   dsimp only
   have eo : (arrOf (SortSt.mk' general' (vs.toArray.zip vs.toArray) #[] 7 none)).map (·.2) = List.toArray (pick Value.none (List.range vs.length) vs) := by
    rw [nu]
    apply Array.toList_inj.mp
    show ((vs.toArray.zip vs.toArray).map (·.2)).toList = vs
    simp [List.map_snd_zip]
   rw [eo]
   refine wpAny_bind (seqEpoch_at RJ rfl ?_)
   refine wpAny_bind (listUpdate_at RJ rfl ?_ (Nat.zero_le _) (by rw [List.size_toArray, j6 (.refl _), sizeLine_eq]; omega))
   simp only [bne_self_eq_false, Bool.false_eq_true, if_false]
   refine wpAny_pure (fin _ (.refl _) ?_)
   rw [ZD, nu]
   refine jN so (.refl _) ?_
   match ds, (show ds.length < 2 by simp at h2; omega) with
   | [], _ => exact .nil
   | [_], _ => exact List.pairwise_singleton ..
   | _ :: _ :: _, h2 => simp at h2; omega
 . rw [if_neg h2, if_neg h2]
   have h2' : 2 <= vs.length := by simpa using h2
   refine wpAny_bind (hk H1 keep _ ?_ h2' |> fun q => wpAny_mono q (fun _ _ x => x) fun _ _ x => x.elim)
   have ZF : (vs.toArray.zip vs.toArray).toList = (List.range vs.length).map fun i => (vs.getD i Value.none, vs.getD i Value.none) := by
    refine List.ext_getElem (by simp) fun i h1 h2 => ?_
    have : i < vs.length := by simpa using h2
    simp [this]
   have okk : ∀ x ∈ (vs.toArray.zip vs.toArray).toList, ∃ d, d ∈ ds /\ P x.1 d := fun x hx => by
    rw [ZF] at hx
    obtain ⟨i, hi, rfl⟩ := List.mem_map.mp hx
    have := iM pr i (List.mem_range.mp hi)
    exact ⟨_, this.2, this.1⟩
   have R : Rk (model prog w) A E { s with heap := H1 } κ (fun x => ∃ d, d ∈ ds /\ P x.1 d) (Us P ds) := ⟨by
    rintro x y Q st ⟨d, d1, d2⟩ ⟨e, e1, e2⟩ hkd hq
    rw [wB fn d1 d2, wB fn e1 e2, Aw d1] at hq
    rw [lt'_eq]
    refine wpS_bind (wpS_get ?_)
    rw [hkd]
    refine wpS_bind (wpS_lift (wpAny_attempt (wpAny_mono (hl H1 keep x.1 y.1 d e d2 e2 (fun b s' => s' = { s with heap := H1 } /\ b = aQ (bF d) (bF e)) ⟨rfl, rfl⟩) ?_ fun _ _ h => h.elim)))
    rintro b s' ⟨rfl, rfl⟩
    exact ⟨rfl, wpS_pure hq⟩⟩
   have run := Fe R (x0 := vs.toArray.zip vs.toArray) (st := SortSt.mk' κ (vs.toArray.zip vs.toArray) #[] 7 none) (Q := fun _ st' => ∃ p : List Nat, p.Perm (List.range vs.length) /\ pick .non p ds = gG ds /\ (arrOf st').map (·.2) = (pick Value.none p vs).toArray /\ failedOf st' = none)
    ⟨rfl, rfl, rfl, rfl, .refl _, okk, rfl, Nat.zero_le _⟩ fun ys st' e1 e2 e3 e4 => by
     rw [ZF] at e3
     obtain ⟨p, p1, p2⟩ := xY e3 rfl
     have hpl : p.length = vs.length := by rw [p1.length_eq, List.length_range]
     have hys : ys.size = vs.length := by rw [<- Array.length_toList, <- p2, List.length_map, hpl]
     refine ⟨p, p1, jN so ?_ ?_, ?_, e2⟩
     . have := p1.map fun i => ds.getD i .non
       rw [ZD] at this
       exact this.trans (.of_eq (nu D.non ds))
     . rw [List.pairwise_iff_getElem]
       intro i j hi hj hij
       simp only [pick, List.length_map] at hi hj
       have sg := e4 i j (Nat.zero_le _) (by omega) (by omega)
       have at' : ∀ k (hk : k < p.length), it ys k = (vs.getD p[k] .none, vs.getD p[k] .none) := fun k hk => by
        rw [gK, <- p2]
        simp [hk]
       have inn : ∀ k (hk : k < p.length), p[k] < vs.length := fun k hk => List.mem_range.mp (p1.mem_iff.mp (List.getElem_mem hk))
       rw [at' i hi, at' j hj] at sg
       have a1 := iM pr p[i] (inn i hi)
       have a2 := iM pr p[j] (inn j hj)
       rw [wB fn a1.2 a1.1, wB fn a2.2 a2.1] at sg
       simp only [pick, List.getElem_map, iU, Bool.not_eq_true']
       rw [<- Aw a2.2, decide_eq_false_iff_not]
       omega
     . apply Array.toList_inj.mp
       rw [e1, Array.toList_map, <- p2, List.map_map]
       rfl
   refine wpAny_bind (wpAny_mono run ?_ fun _ _ e => e)
   rintro ⟨⟨⟩, st'⟩ s' ⟨rfl, p, p1, p2, hout, hf⟩
   dsimp only
   rw [hout]
   refine wpAny_bind (seqEpoch_at RJ rfl ?_)
   refine wpAny_bind (listUpdate_at RJ rfl ?_ (Nat.zero_le _) (by rw [List.size_toArray, j6 p1, sizeLine_eq]; omega))
   rw [hf]
   simp only [bne_self_eq_false, Bool.false_eq_true, if_false]
   exact wpAny_pure (fin _ p1 p2)
end
end HH
end
section
namespace HH
open PySem L2 PySem.Spec PyProof.Rows PySem.Calls PySem.W
section
variable {prog : Program} {w : World} {A : Around} {E : Value -> Shared -> Prop} {s : Shared} {vs : List Value} {κ : SortKind} {P : Value -> D -> Prop} {ds : List D}
theorem lO {l : Addr} {Q : Value -> Shared -> Prop} (hl : s.heap.IsList l vs.toArray) (so : sortable ds = true) (hz : vs.length <= 16777216) (pr : Paired P vs ds) (fn : ∀ u d e, P u d -> P u e -> bF d = bF e)
 (hk : ∀ h', (∀ b o, s.heap.get? b = some o -> h'.get? b = some o) -> ∀ C : SortKind -> Shared -> Prop, C κ { s with heap := h' } -> 2 <= vs.length -> wpAny (model prog w) A.in1.in1 (keyKind' vs.toArray) C (fun _ _ => False) { s with heap := h' })
 (hlt : ∀ h', (∀ b o, s.heap.get? b = some o -> h'.get? b = some o) -> ∀ u v d e, P u d -> P v e -> ∀ C : Bool -> Shared -> Prop, C (aQ (bF d) (bF e)) { s with heap := h' } -> wpAny (model prog w) A.in1.in1 (keyLt' κ u v) C (fun _ _ => False) { s with heap := h' })
 (h : ∀ h' c p, (∀ b o, s.heap.get? b = some o -> h'.get? b = some o) -> p.Perm (List.range vs.length) -> pick .non p ds = gG ds -> h'.get? (s.heap.objs.size + 1) = some (seqObj "list" (pick .none p vs).toArray c) -> Q (.ref (s.heap.objs.size + 1)) { s with heap := h' }) :
 wpAny (model prog w) A (call (.builtin "sorted") [.ref l]) Q E s := by
 refine Calls.call_function_entry kind_sorted plain_sorted entry_sorted (args_sorted1 _) ?_
 unfold Builtin.«sorted»
 refine wpAny_bind (m := checkCount "sorted" 1 1 _) (wpAny_pure ?_)
 refine wpAny_bind (collect_list hl ?_ (by rw [sizeLine_eq]; omega))
 refine wpAny_bind (wpAny_newList ?_ (by rw [sizeLine_eq]; omega))
 generalize hH : ((s.heap.push (seqObj "list" #[] 0)).update s.heap.objs.size (Obj.mapSeq (· ++ vs.toArray)) : Heap) = H1
 have hsz : H1.objs.size = s.heap.objs.size + 1 := by rw [<- hH, Heap.size_update, size_push']
 have keep : ∀ b o, s.heap.get? b = some o -> H1.get? b = some o := fun b o q => by
  rw [<- hH, Heap.get?_update_ne _ _ _ _ (Nat.ne_of_lt (Heap.lt_size q))]
  exact Heap.get?_push_of_some _ q
 generalize hG : (H1.push { cls := .type "list", data := .seq vs.toArray } : Heap) = H2
 have ho : H2.get? (s.heap.objs.size + 1) = some (seqObj "list" vs.toArray 0) := by rw [<- hG, <- hsz]; exact Heap.get?_push_size _ rfl
 have uG : ∀ b o, s.heap.get? b = some o -> H2.get? b = some o := fun b o q => by rw [<- hG]; exact Heap.get?_push_of_some _ (keep b o q)
 have hne : ∀ b o, s.heap.get? b = some o -> b ≠ s.heap.objs.size + 1 := fun b o q => Nat.ne_of_lt (Nat.lt_succ_of_lt (Heap.lt_size q))
 show wpAny _ _ _ _ _ { s with heap := H2 }
 rw [hsz]
 refine wpAny_bind (wpAny_holding (wpAny_call_entry slot_list_sort ⟨_, ho, rfl⟩ entry_list_sort ?body (args_list_sort _)))
 case body =>
  refine pX (s := { s with heap := H2 }) (κ := κ) ho so hz pr fn (fun h' k' C hC h2 => hk h' (fun b o q => k' b o (hne b o q) (uG b o q)) C hC h2)
   (fun h' k' u v d e hd he C hC => hlt h' (fun b o q => k' b o (hne b o q) (uG b o q)) u v d e hd he C hC) fun h' c p k' p1 p2 e => ?_
  exact ⟨_, rfl, wpAny_pure ⟨_, rfl, h h' c p (fun b o q => k' b o (hne b o q) (uG b o q)) p1 p2 e⟩⟩
theorem lM {b fin : Bool} {Q : Bool -> Shared -> Prop} : ∀ {xs ys : List Value} {is js : List Int} {i : Nat}, IntsAre xs is -> IntsAre ys js -> fin = decide (is.length < js.length) -> Q (aQ is js) s -> KatLex prog w A b fin Q (xs.zip ys) i s
 | _, _, _, _, _, .nil, .nil, e, h => by subst e; exact kat_nil (by simpa [aQ] using h)
 | _, _, _, _, _, .nil, .cons _ _ _, e, h => by subst e; exact kat_nil (by simpa [aQ] using h)
 | _, _, _, _, _, .cons _ _ _, .nil, e, h => by subst e; exact kat_nil (by simpa [aQ] using h)
 | _, _, _, _, i, .cons (ns := is) x t r, .cons (ns := js) y u r', e, h => by
   refine kat_cons (wpAny_eqBool_int ?_)
   by_cases q : x = y
   . subst q
     rw [beq_self_eq_true]
     refine kat_yes (lM r r' (by rw [e]; simp) ?_)
     simpa [aQ] using h
   . rw [beq_eq_false_iff_ne.mpr q]
     refine kat_no ?_
     have hx : Q (decide (x < y)) s := by simpa [aQ, q] using h
     cases (b && i == 0) with
     | true => exact oneLt_int hx
     | false => exact kat_one _ _ (wpAny_lt_int hx)
noncomputable def nD (h : Heap) (u : Value) (d : D) : Prop := ∃ a its is, u = .ref a /\ IsTup h a (List.toArray its) /\ IntsAre its is /\ is ≠ [] /\ bF d = is
theorem lC {h h' : Heap} (k : ∀ b o, h.get? b = some o -> h'.get? b = some o) {u : Value} {d : D} (t : nD h u d) : nD h' u d := by
 obtain ⟨a, its, is, e, ⟨o, h1, h2⟩, h3⟩ := t
 exact ⟨a, its, is, e, ⟨o, k _ _ h1, h2⟩, h3⟩
theorem pJ {h h' : Heap} (k : ∀ b o, h.get? b = some o -> h'.get? b = some o) : ∀ {us : List Value} {ds : List D}, Paired (nD h) us ds -> Paired (nD h') us ds
 | _, _, .nil => .nil
 | _, _, .cons r t => .cons (lC k r) (pJ k t)
theorem lR {h : Heap} : ∀ {us : List Value} {ds : List D}, Paired (nD h) us ds -> ∃ fs, KatTups h us fs /\ fs.length = us.length /\ ∀ f ∈ fs, ∃ n t, f = Value.int n t
 | _, _, .nil => ⟨[], trivial, rfl, by simp⟩
 | _, _, .cons r t => by
   obtain ⟨fs, h1, h2, h3⟩ := lR t
   obtain ⟨a, its, is, rfl, ⟨o, o1, o2, n, o3⟩, hi, hne, _⟩ := r
   cases hi with
   | nil => exact absurd rfl hne
   | cons x tk r' =>
     refine ⟨.int x tk :: fs, KatTups.cons o1 o2 o3 (by simp) h1, by simp [h2], fun f hf => ?_⟩
     rcases List.mem_cons.mp hf with rfl | hf
     . exact ⟨_, _, rfl⟩
     . exact h3 f hf
theorem yG {ds : List D} (t : Paired (nD s.heap) vs ds) (h2 : 2 <= vs.length) {C : SortKind -> Shared -> Prop} (hC : C (tuples' (Value.type "int" != Value.type "tuple")) s) : wpAny (model prog w) A (keyKind' vs.toArray) C E s := by
 obtain ⟨fs, h1, h3, h4⟩ := lR t
 refine kat_kind (T := .type "int") h1 (by omega) (fun v hv => ?_) rfl hC
 obtain ⟨n, t, rfl⟩ := h4 v hv
 exact Looks.now
theorem Dn {x y : Value} {d e : D} (hx : nD s.heap x d) (hy : nD s.heap y e) {b : Bool} {C : Bool -> Shared -> Prop} (hC : C (aQ (bF d) (bF e)) s) : wpAny (model prog w) A (keyLt' (tuples' b) x y) C E s := by
 obtain ⟨a, its, is, rfl, ⟨o, o1, o2, n, o3⟩, hi, hne, e1⟩ := hx
 obtain ⟨a', its', js, rfl, ⟨o', p1, p2, n', p3⟩, hj, hne', e2⟩ := hy
 refine kat_lt o1 o3 p1 p3 ?_
 rw [e1, e2] at hC
 refine lM (is := is) (js := js) (by simpa using hi) (by simpa using hj) ?_ hC
 rw [List.size_toArray, List.size_toArray, IntsAre.length hi, IntsAre.length hj]
end
theorem yH {xs : List V} {us : List Value} (h : Vals xs us) (i : Nat) : RelV (xs.getD i .non) (us.getD i .none) := by
 have hl := h.length
 by_cases hi : i < xs.length
 . obtain ⟨u, e, r⟩ := h.get (i := i) (x := xs[i]) (List.getElem?_eq_getElem hi)
   have e1 : xs.getD i .non = xs[i] := by simp [hi]
   have e2 : us.getD i .none = u := by simp [e]
   rw [e1, e2]; exact r
 . have e1 : xs.getD i .non = .non := by simp [Nat.le_of_not_lt hi]
   have e2 : us.getD i .none = .none := by simp [show us.length <= i by omega]
   rw [e1, e2]; rfl
theorem sZ {f : Nat -> V} {g : Nat -> Value} (h : ∀ i, RelV (f i) (g i)) : ∀ l : List Nat, Vals (l.map f) (l.map g)
 | [] => .nil
 | i :: l => .cons (h i) (sZ h l)
theorem tu {p : List Nat} {xs : List V} {us : List Value} (h : Vals xs us) : Vals (pick .non p xs) (pick .none p us) := sZ (yH h) _
theorem tU {K : PySem.W.Frag} {F : Hp} {f : Nat -> V} {g : Nat -> D} (h : ∀ i, Rep K F (f i) (g i)) : ∀ l : List Nat, aJ K F (l.map f) (l.map g)
 | [] => .nil
 | i :: l => .cons (h i) (tU h l)
theorem Ak {K : PySem.W.Frag} {F : Hp} {p : List Nat} {xs : List V} {ds : List D} (h : aJ K F xs ds) : aJ K F (pick .non p xs) (pick .non p ds) := tU (fun i => by
 have hl := h.length
 by_cases hi : i < ds.length
 . obtain ⟨u, e, r⟩ := h.get (i := i) (d := ds[i]) (List.getElem?_eq_getElem hi)
   have e1 : ds.getD i .non = ds[i] := by simp [hi]
   have e2 : xs.getD i .non = u := by simp [e]
   rw [e1, e2]; exact r
 . have e1 : ds.getD i .non = .non := by simp [Nat.le_of_not_lt hi]
   have e2 : xs.getD i .non = .non := by simp [show xs.length <= i by omega]
   rw [e1, e2, Rep]) _
noncomputable def zc (u : Value) (d : D) : Prop := ∃ n t, u = .int n t /\ bF d = [n]
theorem xH (u : Value) (d e : D) : zc u d -> zc u e -> bF d = bF e := fun ⟨n, t, h1, h2⟩ ⟨m, t', h3, h4⟩ => by
 rw [h1] at h3
 cases h3
 rw [h2, h4]
theorem xn {prog : Program} {w : World} {A : Around} {E : Value -> Shared -> Prop} {s : Shared} {x y : Value} {d e : D} (hx : zc x d) (hy : zc y e) {C : Bool -> Shared -> Prop} (hC : C (aQ (bF d) (bF e)) s) : wpAny (model prog w) A (keyLt' oneType' x y) C E s := by
 obtain ⟨n, t, rfl, k1⟩ := hx
 obtain ⟨m, t', rfl, k2⟩ := hy
 refine kat_lt_int ?_
 rw [k1, k2, show aQ [n] [m] = decide (n < m) by simp [aQ]] at hC
 exact hC
theorem zg : ∀ {us : List Value} {ns : List Int}, IntsAre us ns -> Paired zc us (ns.map D.int)
 | _, _, .nil => .nil
 | _, _, .cons n t r => .cons ⟨n, t, rfl, rfl⟩ (zg r)
theorem zH {us : List Value} : ∀ {ns ms : List Int}, IntsAre us ns -> IntsAre us ms -> ns = ms := by
 induction us with
 | nil => intro ns ms h1 h2; cases h1; cases h2; rfl
 | cons u us ih =>
   intro ns ms h1 h2
   cases h1 with
   | cons n t r => cases h2 with
     | cons m t' r' => rw [ih r r']
theorem FQ {h : Heap} (u : Value) (d e : D) : nD h u d -> nD h u e -> bF d = bF e := fun ⟨a, its, is, h1, ⟨o, o1, o2, n, o3⟩, h3, _, h4⟩ ⟨b, jts, js, g1, ⟨o', p1, p2, m, p3⟩, g3, _, g4⟩ => by
 rw [h1] at g1
 cases g1
 rw [o1] at p1
 cases p1
 rw [o3] at p3
 cases p3
 rw [h4, g4, zH h3 g3]
theorem all_ints : ∀ {ds : List D}, ds.all dC = true -> ds = (ds.map cB).map D.int
 | [], _ => rfl
 | d :: ds, h => by
   simp only [List.all_cons, Bool.and_eq_true] at h
   cases d <;> first | (have q := h.1; simp [dC] at q; done) | skip
   rw [List.map_cons, List.map_cons, <- all_ints h.2]; rfl
theorem intsAre_of : ∀ {ns : List Int} {us : List Value}, Vals (ns.map V.int) us -> IntsAre us ns
 | [], _, .nil => .nil
 | n :: ns, _, .cons r t => by
   obtain ⟨tk, rfl⟩ := r
   exact .cons n tk (intsAre_of t)
section
variable {X : Cx} {c : Call} {a : Expr} {pa : P} {pos : Pos}
theorem xg {pins : List (Addr × Obj)} {σ : L2.St} {F H : Hp} {s : Shared} (I : L2.Inv X pins σ H s) (sm : aP F H) : ∀ {ds : List D} {ys : List V} {us : List Value}, aJ X.K F ys ds -> Vals ys us -> ds.all ou = true -> Paired (nD s.heap) us ds
 | [], ys, us, h, v, _ => by rw [h.gh] at v; cases v; exact .nil
 | d :: ds, ys, us, h, v, o => by
   obtain ⟨y, r, rfl, h1, h2⟩ := h.cD
   simp only [List.all_cons, Bool.and_eq_true] at o
   cases v with
   | cons v1 v2 =>
     refine .cons ?_ (xg I sm h2 v2 o.2)
     cases d <;> first | (have q := o.1; simp [ou] at q; done) | skip
     rename_i ds'
     cases ds' with
     | nil => exact absurd o.1 (by simp [ou])
     | cons x xs =>
       obtain ⟨ad, zs, rfl, hq, rs, _⟩ := dq.tup sm (.inl h1)
       cases v1
       obtain ⟨its, rv, it, _⟩ := I.tuple hq
       rw [all_ints o.1] at rs
       rw [dJ rs] at rv
       exact ⟨ad, its, _, rfl, it, intsAre_of rv, by simp, rfl⟩
theorem Aj : cR X (.builtin "sorted") (Gu X.K fun x => blt .sorted [x]) := by
 rintro pins s σ H xs us Q I r ⟨x, hx, F, d, r', sm, px, he, k⟩
 have zz := dZ (show (lu d).bind (fun ds => if sortable ds then some (.own (gG ds)) else none) = some r' from he); clear he; obtain ⟨ds, e2, he⟩ := zz
 cases d with
 | lst ds' =>
   cases e2
   obtain ⟨p, ys, rfl, hq, rs⟩ := px.lst sm
   subst hx
   obtain ⟨u, rfl, rx⟩ := r.one
   cases rx
   obtain ⟨its, rv, pl, hz⟩ := I.list hq
   by_cases so : sortable ds = true
   . rw [if_pos so] at he
     cases he
     have hl : its.length = ds.length := by rw [<- rv.length, rs.length]
     have so' := so
     simp only [sortable, Bool.and_eq_true, Bool.or_eq_true, decide_eq_true_eq] at so'
     have fin : ∀ h' c p, (∀ b o, s.heap.get? b = some o -> h'.get? b = some o) -> p.Perm (List.range its.length) -> pick .non p ds = gG ds -> h'.get? (s.heap.objs.size + 1) = some (seqObj "list" (pick .none p its).toArray c) -> EP X pins σ Q (.ref (s.heap.objs.size + 1)) { s with heap := h' } := by
      intro h' c p kp p1 p2 e
      refine ⟨.ref (s.heap.objs.size + 1), _, I.laid (t' := s.toks) (o := .lst (pick .non p ys)) (h' := h') kp (Nat.le_succ _) ⟨by rw [j6 p1, <- rv.length]; exact hz, pick .none p its, c, tu rv, e⟩, rfl, ?_⟩
      have rs2 : aJ X.K F (pick .non p ys) (gG ds) := by rw [<- p2]; exact Ak rs
      exact vH sm rs2 (I.hok.fresh (Nat.le_succ _)) k
     rcases so'.2 with oi | ot
     . have rs' := rs
       rw [all_ints oi] at rs'
       have ia : IntsAre its (ds.map cB) := intsAre_of (by rw [<- dJ rs']; exact rv)
       refine lO (vs := its) (κ := oneType') pl.isList so (by omega) (by have := zg ia; rwa [<- all_ints oi] at this) xH (fun h' kp C hC h2 => ?_) (fun h' kp u v d e hd he C hC => ?_) fin
       . match its, ia, h2 with
         | v1 :: v2 :: rest, ia, _ =>
           rw [keyKind_ints ia]
           exact wpAny_pure hC
       . exact xn hd he hC
     . have tt := xg I sm rs rv ot
       refine lO (vs := its) (κ := tuples' (Value.type "int" != Value.type "tuple")) pl.isList so (by omega) tt FQ (fun h' kp C hC h2 => yG (s := { s with heap := h' }) (pJ kp tt) h2 hC) (fun h' kp u v d e hd he C hC => ?_) fin
       exact Dn (s := { s with heap := h' }) (lC kp hd) (lC kp he) hC
   . rw [if_neg so] at he; cases he
 | _ => cases e2
theorem boot_sorted : bootBuiltins "sorted" = some (.builtin "sorted") := by decide +kernel
theorem gj {x : Str} {p' : Pos} (hx : x = "sorted") (hg : Gl X x) (hm : X.mg x = none) (ha : SX X c a pa) (hs : starEach [a] X.env = (false, eval a X.env) :: starEach [] X.env := by rfl) : SX X c (.Call (.Name x p') [a] [] pos) (.blt .sorted [pa]) := by
 subst hx; exact oJ (fun h => cW Aj hg hm boot_sorted h (he := hs)) ha (fun ρ => by rw [HH.ev]) rfl hs
end
end HH
end
section
namespace HH
open PySem L2 PySem.Spec PyProof.Rows PySem.Calls
theorem uV (l b : Addr) (items items2 : List Value) (n n2 : Nat) (dd dd2 : Option Addr) (sl sl2 : Array (Option Value)) (is js : List Int) (hi : IntsAre items is) (hj : IntsAre items2 js) :
 Meets (Builtin.«tuple.__lt__» ⟨[.ref l, .ref b], []⟩)
  (fun A R s => s.heap.get? l = some { cls := .type "tuple", dict := dd, data := .seq items.toArray n, slots := sl } /\ s.heap.get? b = some { cls := .type "tuple", dict := dd2, data := .seq items2.toArray n2, slots := sl2 } /\
   R (.ok (.ret (.bool (aQ is js)))) s) :=
 .of_wp fun prog w A R s h => by
  obtain ⟨hp, g, d, tk, os⟩ := s; obtain ⟨hl, hb, h⟩ := h
  have f2 := AutoSeq1.sub_tuple_tuple
  wp_walk using wpAny_loadPart' hl, wpAny_loadPart' hb, wpAny_forIn_list _ (fun rest b s' => b.1 = none /\ s' = ⟨hp, g, d, tk, os⟩ /\ ∃ xs ys is' NT, rest = xs.zip ys /\ IntsAre xs is' /\ IntsAre ys NT /\ decide (items.length < items2.length) = decide (is'.length < NT.length) /\
   R (.ok (.ret (.bool (aQ is' NT)))) ⟨hp, g, d, tk, os⟩) _
  case turn =>
   rintro ⟨y, x⟩ rest b s' ⟨hb', rfl, xs, ys, is', NT, hz, h1, h2, h3, hR⟩
   cases h1 with
   | nil => cases hz
   | cons p t h1 =>
     cases h2 with
     | nil => cases hz
     | cons q u h2 =>
       injection hz with hyx hrest
       cases hyx
       refine wpAny_bind (wpAny_eqBool_int ?_)
       by_cases e : p = q
       . subst e
         rw [beq_self_eq_true]
         wp_walk
         exact ⟨rfl, rfl, _, _, _, _, hrest, h1, h2, by rw [h3]; simp, by simpa [aQ] using hR⟩
       . rw [beq_eq_false_iff_ne.mpr e]
         have hR' : R (.ok (.ret (.bool (decide (p < q))))) ⟨hp, g, d, tk, os⟩ := by simpa [aQ, e] using hR
         simp only [Bool.not_false, if_true]
         refine wpAny_bind (wpAny_rule ?_)
         refine wpAny_bind (show wpAny (model prog w) A.in1 (compareOp .Lt (Value.int p t) (Value.int q u)) _ _ _ from wpAny_lt_int ?_)
         refine wpAny_bind (wpAny_pure ?_)
         exact wpAny_pure (wpAny_pure ⟨_, rfl, hR'⟩)
  case fin =>
   rintro ⟨b1, b2⟩ s' ⟨hb', rfl, xs, ys, is', NT, hz, h1, h2, h3, hR⟩
   simp only at hb'
   subst hb'
   have e : aQ is' NT = decide (items.length < items2.length) := by
    rw [h3]
    cases h1 with
    | nil => cases h2 <;> simp [aQ]
    | cons _ _ _ => cases h2 with
      | nil => simp [aQ]
      | cons _ _ _ => cases hz
   rw [e] at hR
   wp_walk
   exact ⟨_, rfl, by simpa [Builtin.Tuple.tupleCompareSizes] using hR⟩
  case h =>
   exact ⟨rfl, rfl, items, items2, is, js, by simp, hi, hj, by rw [IntsAre.length hi, IntsAre.length hj], h⟩
section
variable {X : Cx}
theorem uY (hu : X.A.units + 8 < cLine) : gF X (compareOp .Lt) (rD X.K (vL .lt)) := by
 rintro pins s σ H x y v u Q I rx ry ⟨F, d, e, r, sm, px, py, he, k⟩
 obtain ⟨t, e1, e2⟩ := map_some (show (OJ d e).map _ = some r from he)
 subst e2
 cases d with
 | int i => cases e with
   | int j => exact Iw pins s σ H x y v u Q I rx ry ⟨F, .int i, .int j, _, sm, px, py, by have e2 : BZ (fun i j => decide (i < j)) (.int i) (.int j) = some t := e1; simp only [e2]; rfl, k⟩
   | _ => cases e1
 | tup xs => cases e with
   | tup ys =>
     obtain ⟨hc, e1⟩ := bH (show (if (xs.all dC && ys.all dC) = true then some (aQ (xs.map cB) (ys.map cB)) else none) = some t from e1)
     rw [Bool.and_eq_true] at hc
     obtain ⟨a, vs, rfl, h1, h2, _⟩ := px.tup sm
     obtain ⟨b, ws, rfl, h3, h4, _⟩ := py.tup sm
     cases rx; cases ry
     obtain ⟨its, rv, it, _⟩ := I.tuple h1
     obtain ⟨its2, ZG, it2, _⟩ := I.tuple h3
     rw [all_ints hc.1] at h2
     rw [all_ints hc.2] at h4
     rw [dJ h2] at rv
     rw [dJ h4] at ZG
     have i1 := intsAre_of rv
     have i2 := intsAre_of ZG
     obtain ⟨⟨cls, dd, data, sl⟩, ho, hc1, n, hd⟩ := it
     obtain ⟨⟨cls2, dd2, data2, sl2⟩, ho2, hc2, n2, hd2⟩ := it2
     simp only at hc1 hd hc2 hd2
     subst hc1 hd hc2 hd2
     refine (show wpAny (model X.prog X.w) X.A (richCompare .Lt (.ref a) (.ref b)) _ _ s from richCompare_meets_room (op := .Lt) ⟨_, ho, rfl⟩ ⟨_, ho2, rfl⟩ PySem.F.slot_tuple_lt PySem.F.entry_tuple_lt (PySem.F.args_tuple_lt_2 _ _) (uV a b its its2 n n2 dd dd2 sl sl2 _ _ i1 i2)
      ⟨ho, ho2, show Value.bool _ ≠ Value.notImplemented /\ _ from ⟨(fun x => nomatch x), ⟨.bl t, H, I, by rw [<- e1]; rfl, cA.dO sm (lQ _) k⟩⟩⟩ (by omega))
   | _ => cases e1
 | _ => cases e1
end
end HH
end
section
namespace HH
open PySem L2 PySem.Spec PyProof.Rows PySem.Calls PySem.W
section
variable {X : Cx} {c : Call} {a : Expr} {pa : P} {pos : Pos}
theorem kj : ∀ {ns : List Int} {us : List Value}, IntsAre us ns -> Vals (ns.map V.int) us
 | _, _, .nil => .nil
 | _, _, .cons n t r => .cons ⟨t, rfl⟩ (kj r)
theorem pR {K : PySem.W.Frag} {F : Hp} : ∀ ns : List Int, aJ K F (ns.map V.int) (ns.map D.int)
 | [] => .nil
 | n :: ns => .cons (cP n) (pR ns)
end
end HH
end
section
namespace HH
open PySem
noncomputable def lW (l : List Nat) : Prop := ∀ i j (hi : i < l.length) (hj : j < l.length), i < j -> l[i] < l[j]
theorem fZ {l : List Nat} : lW l ↔ l.Pairwise (· < ·) := by
 rw [List.pairwise_iff_getElem]; exact Iff.rfl
theorem nH {xs : Array Nat} {j : Nat} (r : lW xs.toList) : ∀ (f lo hi : Nat), hi - lo <= f -> lo <= hi -> hi <= xs.size -> (∀ k (h : k < xs.size), k < lo -> xs[k] < j) -> (∀ k (h : k < xs.size), hi <= k -> j <= xs[k]) ->
 ∃ i, SetTable.below.go xs j f lo hi = i /\ i <= xs.size /\ (∀ k (h : k < xs.size), k < i -> xs[k] < j) /\ (∀ k (h : k < xs.size), i <= k -> j <= xs[k])
 | 0, lo, hi, h1, h2, h3, h4, h5 => ⟨lo, rfl, by omega, h4, fun k h hk => h5 k h (by omega)⟩
 | f + 1, lo, hi, h1, h2, h3, h4, h5 => by
   unfold SetTable.below.go
   by_cases c : lo < hi
   . rw [if_pos c]
     have hm : (lo + hi) / 2 < xs.size := by omega
     have e : xs.getD ((lo + hi) / 2) j = xs[(lo + hi) / 2] := by simp [Array.getD, hm]
     dsimp only
     rw [e]
     by_cases d : xs[(lo + hi) / 2] < j
     . rw [if_pos d]
       refine nH r f _ _ (by omega) (by omega) h3 (fun k h hk => ?_) h5
       by_cases q : k = (lo + hi) / 2
       . subst q; exact d
       . have := r k ((lo + hi) / 2) (by simpa using h) (by simpa using hm) (by omega)
         simp only [Array.getElem_toList] at this
         omega
     . rw [if_neg d]
       refine nH r f _ _ (by omega) (by omega) (by omega) h4 (fun k h hk => ?_)
       by_cases q : k = (lo + hi) / 2
       . subst q; omega
       . have := r ((lo + hi) / 2) k (by simpa using hm) (by simpa using h) (by omega)
         simp only [Array.getElem_toList] at this
         omega
   . rw [if_neg c]
     exact ⟨lo, rfl, by omega, h4, fun k h hk => h5 k h (by omega)⟩
theorem below_at {xs : Array Nat} {j : Nat} (r : lW xs.toList) : SetTable.below xs j <= xs.size /\ (∀ k (h : k < xs.size), k < SetTable.below xs j -> xs[k] < j) /\ (∀ k (h : k < xs.size), SetTable.below xs j <= k -> j <= xs[k]) := by
 obtain ⟨i, e, q⟩ := nH (j := j) r xs.size 0 xs.size (by omega) (by omega) (by omega) (fun k h hk => by omega) (fun k h hk => by omega)
 rw [show SetTable.below xs j = i from e]; exact q
theorem Ew {xs : Array Nat} {j : Nat} (r : lW xs.toList) (n : xs[SetTable.below xs j]? ≠ some j) : lW (SetTable.insertAt xs (SetTable.below xs j) j).toList := by
 obtain ⟨h1, h2, h3⟩ := below_at (j := j) r
 rw [SetTable.toList_insertAt, fZ]
 rw [fZ] at r
 have rs := r
 rw [<- List.take_append_drop (SetTable.below xs j) xs.toList, List.pairwise_append] at rs
 rw [List.pairwise_append]
 have hd : ∀ x ∈ xs.toList.drop (SetTable.below xs j), j < x := fun x hx => by
  obtain ⟨k, hk, rfl⟩ := List.mem_iff_getElem.mp hx
  rw [List.getElem_drop]
  have hk' : SetTable.below xs j + k < xs.size := by simp at hk; omega
  have q := h3 (SetTable.below xs j + k) hk' (by omega)
  simp only [Array.getElem_toList]
  refine Nat.lt_of_le_of_ne q fun e => n ?_
  by_cases z : k = 0
  . subst z
    rw [Array.getElem?_eq_getElem (by omega)]
    simpa using e.symm
  . have lt : SetTable.below xs j < xs.size := by omega
    have r' := (fZ.mpr r) (SetTable.below xs j) (SetTable.below xs j + k) (by simpa using lt) (by simpa using hk') (by omega)
    have := h3 _ lt (by omega)
    simp only [Array.getElem_toList] at r'
    omega
 refine ⟨rs.1, List.pairwise_cons.mpr ⟨hd, rs.2.1⟩, fun a ha b hb => ?_⟩
 have hl : a < j := by
  obtain ⟨k, hk, rfl⟩ := List.mem_iff_getElem.mp ha
  rw [List.getElem_take]
  simp at hk
  have := h2 k (by omega) (by omega)
  simpa using this
 rcases List.mem_cons.mp hb with rfl | hb
 . exact hl
 . exact Nat.lt_trans hl (hd b hb)
noncomputable def TG (b : Bool) (t : SetTable) : Prop := t.led = b /\ t.dummies = #[] /\ lW t.place.toList
theorem vQ (n : Nat) : lW (Array.range n).toList := by
 rw [fZ]
 simpa using List.pairwise_lt_range
theorem jY {b : Bool} {t : SetTable} (g : TG b t) (n : Nat) : TG b (t.standIn n) := ⟨g.1, rfl, vQ n⟩
theorem O7 {b : Bool} {t : SetTable} (g : TG b t) (n : Nat) : TG b (t.orStandIn n) := by
 unfold SetTable.orStandIn
 split
 . exact g
 . exact jY g n
theorem zW {b : Bool} {t : SetTable} (g : TG b t) : TG b { t with plain := false } := g
theorem xu (j : Nat) : SetTable.has #[] j = false := by simp [SetTable.has]
theorem uw {t : SetTable} {hs : Nat -> Int} {h : Int} (hd : t.dummies = #[]) : ∀ (f : Nat) (p : SetTable.Probe) (j : Nat) (o : Option Nat), p.dummy = none -> SetTable.probe.go t hs h f p = some (.empty j o) -> o = none /\ t.slot j = .empty
 | 0, p, j, o, e, q => by simp [SetTable.probe.go] at q
 | f + 1, p, j, o, e, q => by
   unfold SetTable.probe.go at q
   split at q
   . rename_i hs; cases q; exact ⟨e, hs⟩
   . rename_i hsl
     unfold SetTable.slot at hsl
     rw [hd, xu] at hsl
     dsimp only at hsl
     split at hsl <;> simp at hsl
   . split at q
     . cases q
     . exact uw hd f _ j o (by unfold SetTable.advance; split <;> exact e) q
theorem Ho {b : Bool} {t : SetTable} (g : TG b t) (es : Array (Int × Value)) (h : Int) (x : Value) : TG b (layNew t es h x).2.1 := by
 unfold layNew
 cases hf : t.freeSlot h with
 | none => exact jY g _
 | some sd =>
   obtain ⟨slot, wd⟩ := sd
   have : t.slot slot = .empty := by
    unfold SetTable.freeSlot at hf
    split at hf
    . rename_i j d hq
      obtain ⟨e1, e2⟩ := uw g.2.1 _ _ j d rfl hq
      subst e1
      cases hf
      exact e2
    . cases hf
   dsimp only
   refine O7 (t := (t.put slot).1) ⟨g.1, ?_, ?_⟩ _
   . show (if SetTable.has t.dummies slot then _ else t.dummies) = #[]
     rw [g.2.1, xu]; rfl
   . refine Ew g.2.2 fun e => ?_
     unfold SetTable.slot at this
     dsimp only at this
     rw [e] at this
     simp at this
theorem By {b : Bool} {t : SetTable} (g : TG b t) (es : Array (Int × Value)) (n : Nat) : TG b (relayAll t es n).2.1 := by
 unfold relayAll
 split
 . rename_i t' order hr
   dsimp only
   split
   . unfold SetTable.relaid SetTable.laid at hr
     cases hc : SetTable.layClean (SetTable.sizeAbove n - 1) (es.map (·.1)) with
     | none => rw [hc] at hr; cases hr
     | some owner =>
       rw [hc] at hr
       cases hr
       refine ⟨g.1, rfl, ?_⟩
       rw [fZ]
       dsimp only
       rw [List.pairwise_map, List.pairwise_filterMap]
       refine List.pairwise_lt_range.imp fun {a b} hab => ?_
       intro x hx y hy
       cases ha : owner.getD a none with
       | none => rw [ha] at hx; cases hx
       | some u => cases hb : owner.getD b none with
         | none => rw [hb] at hy; cases hy
         | some v => rw [ha] at hx; rw [hb] at hy; cases hx; cases hy; exact hab
   . exact jY g _
 . exact jY g _
theorem pN {α : Type} {nx : Nat -> Nat} : ∀ (f k : Nat) (l : List α) (out : Array α), l.length = f -> (pickOrder.go nx f k l out).toList.Perm (out.toList ++ l)
 | 0, k, l, out, h => by
   rw [List.length_eq_zero_iff.mp h]; simp [pickOrder.go]
 | f + 1, k, l, out, h => by
   unfold pickOrder.go
   have hm : nx k % l.length < l.length := Nat.mod_lt _ (by omega)
   rw [List.getElem?_eq_getElem hm]
   refine (pN f (k + 1) _ _ (by rw [List.length_eraseIdx]; simp [hm]; omega)).trans ?_
   rw [Array.toList_push, List.append_assoc]
   refine List.Perm.append_left _ ?_
   rw [List.eraseIdx_eq_take_drop_succ]
   have e : l = l.take (nx k % l.length) ++ l[nx k % l.length] :: l.drop (nx k % l.length + 1) := by
    rw [List.getElem_cons_drop, List.take_append_drop]
   conv => rhs; rw [e]
   rw [List.singleton_append]
   exact List.perm_middle.symm
theorem jj {α : Type} (nx : Nat -> Nat) (xs : Array α) : (pickOrder nx xs).toList.Perm xs.toList := by
 have := pN (nx := nx) xs.size 0 xs.toList #[] (by simp)
 simpa [pickOrder] using this
end HH
end
section
namespace HH
open PySem PyProof.Rows PySem.Spec
inductive jw (prog : Program) (w : World) (b : Bool) (h : Heap) (a : Addr) (ks : List Int) : Prop where
 | mk (o : Obj) (es : Array (Int × Value)) (ep : Nat) (t : SetTable) (is : List Int) (ho : h.get? a = some o) (hx : o.ExactSet) (hd : o.data = .set es ep t) (g : TG b t) (hf : t.fits es.size = true)
   (he : ElemsOf (intKind prog w) es.toList) (hi : IntsAre (es.toList.map (·.2)) is) (hp : is.Perm ks)
section
variable {prog : Program} {w : World} {b : Bool} {h h' : Heap} {a : Addr} {ks : List Int} {A : Around} {E : Value -> Shared -> Prop} {s : Shared}
theorem jw.at' (x : jw prog w b h a ks) (k : ∀ o, h.get? a = some o -> h'.get? a = some o) : jw prog w b h' a ks := by
 obtain ⟨o, es, ep, t, is, ho, r1, r2, r3, r4, r5, r6, r7⟩ := x
 exact ⟨o, es, ep, t, is, k o ho, r1, r2, r3, r4, r5, r6, r7⟩
theorem ints_app : ∀ {us vs : List Value} {ns ms : List Int}, IntsAre us ns -> IntsAre vs ms -> IntsAre (us ++ vs) (ns ++ ms)
 | _, _, _, _, .nil, h => h
 | _, _, _, _, .cons n t r, h => .cons n t (ints_app r h)
theorem kY {us vs : List Value} (p : us.Perm vs) : ∀ {ns : List Int}, IntsAre vs ns -> ∃ ms, IntsAre us ms /\ ms.Perm ns := by
 induction p with
 | nil => intro ns h; exact ⟨ns, h, .refl _⟩
 | cons x p ih =>
   intro ns h
   cases h with
   | cons n t r => obtain ⟨ms, h1, h2⟩ := ih r; exact ⟨n :: ms, .cons n t h1, h2.cons n⟩
 | swap x y l =>
   intro ns h
   cases h with
   | cons n t r => cases r with
     | cons m u r => exact ⟨m :: n :: _, .cons m u (.cons n t r), .swap ..⟩
 | trans p q ih1 ih2 =>
   intro ns h
   obtain ⟨ms, h1, h2⟩ := ih2 h
   obtain ⟨ls, h3, h4⟩ := ih1 h1
   exact ⟨ls, h3, h4.trans h2⟩
theorem ik {us : List Value} {ns : List Int} (h : IntsAre us ns) : us.length = ns.length := by
 induction h with
 | nil => rfl
 | cons n t r ih => simp [ih]
theorem oH {k : Int} : ∀ {es : List (Int × Value)} {is : List Int}, IntsAre (es.map (·.2)) is -> ((∃ e ∈ es, (intKind prog w).is k e.2 = true) ↔ k ∈ is)
 | [], _, .nil => by simp
 | (hh, v) :: es, _, hi => by
   generalize hq : ((hh, v) :: es).map (·.2) = us at hi
   cases hi with
   | nil => cases hq
   | cons n t r =>
     obtain ⟨e1, e2⟩ := List.cons.inj hq
     dsimp only at e1
     subst e1; subst e2
     rw [List.mem_cons, <- oH r]
     constructor
     . rintro ⟨e, he, hk⟩
       rcases List.mem_cons.mp he with rfl | he
       . exact .inl ((intKind prog w).inj _ _ _ hk (intKind_is _ _ _ _))
       . exact .inr ⟨e, he, hk⟩
     . rintro (rfl | ⟨e, he, hk⟩)
       . exact ⟨_, .head _, intKind_is _ _ _ _⟩
       . exact ⟨e, .tail _ he, hk⟩
theorem t8 {o : Obj} {es es' : Array (Int × Value)} {ep : Nat} {t t' : SetTable} {is : List Int} (ho : h.get? a = some o) (hx : o.ExactSet) (hd : o.data = .set es ep t) (g : TG b t') (hf : t'.fits es'.size = true) (he : ElemsOf (intKind prog w) es'.toList)
 (hi : IntsAre (es'.toList.map (·.2)) is) (hp : is.Perm ks) : ∃ o', (h.update a (Obj.putSet es' t')).get? a = some o' /\ o'.ExactSet /\ o'.data = .set es' (ep + 1) t' /\ jw prog w b (h.update a (Obj.putSet es' t')) a ks := by
 have hg : (h.update a (Obj.putSet es' t')).get? a = some { o with data := .set es' (ep + 1) t' } := by
  rw [<- putSet_of es' t' hd]
  exact Heap.get?_update_self (Obj.putSet es' t') ho (by rw [putSet_of es' t' hd]; rfl)
 exact ⟨_, hg, hx, rfl, ⟨_, es', ep + 1, t', is, hg, hx, rfl, g, hf, he, hi, hp⟩⟩
theorem rR {g : Bool -> Sem Unit} (hg : ∀ (b : Bool) (s₁ : Shared) (Q' : Unit -> Shared -> Prop), Q' () s₁ -> wpAny (model prog w) A (g b) Q' E s₁) {o : Obj} {es es1 : Array (Int × Value)} {ep : Nat} {t t2 : SetTable} {is : List Int}
 (ho : s.heap.get? a = some o) (hx : o.ExactSet) (hd : o.data = .set es ep t) (tg : TG b t2) (hf : t2.fits es1.size = true) (he : ElemsOf (intKind prog w) es1.toList) (hi : IntsAre (es1.toList.map (·.2)) is) (hp : is.Perm ks) (hz : es1.size <= sizeLine)
 {wd : Bool} {Q : Option Bool -> Shared -> Prop} (q : ∀ h', Heap.SameBut a s.heap h' -> jw prog w b h' a ks -> Q (some true) { s with heap := h' }) :
 wpAny (model prog w) A (storeSet a es1 t2 >>= fun _ => if (!wd && t2.tooFull) = true then (g (relayAll t2 es1 (SetTable.grown es1.size)).2.2 >>= fun _ => storeSet a (relayAll t2 es1 (SetTable.grown es1.size)).1 (relayAll t2 es1 (SetTable.grown es1.size)).2.1 >>= fun _ => pure (some true)) else pure (some true)) Q E s := by
 refine wpAny_bind (wpAny_storeSet_of ho hd ?_ hz)
 obtain ⟨o1, g1, g2, g3, g4⟩ := t8 (prog := prog) (w := w) ho hx hd tg hf he hi hp
 have sb := Heap.SameBut.update s.heap a (Obj.putSet es1 t2)
 split
 . have pr := relayAll_perm t2 es1 (SetTable.grown es1.size)
   have fr := relayAll_fits t2 es1 (SetTable.grown es1.size)
   have tr := By tg es1 (SetTable.grown es1.size)
   generalize relayAll t2 es1 (SetTable.grown es1.size) = R at pr fr tr
   obtain ⟨es2, t3, gv⟩ := R
   dsimp only at pr fr tr
   refine wpAny_bind (hg _ _ _ (wpAny_bind (wpAny_storeSet_of g1 g3 (wpAny_pure ?_) (by rw [<- Array.length_toList, pr.length_eq, Array.length_toList]; exact hz))))
   obtain ⟨js, j1, j2⟩ := kY (pr.map (·.2)) hi
   obtain ⟨o2, _, _, _, f4⟩ := t8 (prog := prog) (w := w) g1 g2 g3 tr fr (he.perm pr) j1 (j2.trans hp)
   exact q _ (sb.trans (Heap.SameBut.update _ a _)) f4
 . exact wpAny_pure (q _ sb g4)
theorem Bd {k : Int} {tk : Tok} {Q : Bool -> Shared -> Prop} (x : jw prog w b s.heap a ks) (hz : ks.length + 1 < scanBound) (q : ∀ r h', Heap.SameBut a s.heap h' -> jw prog w b h' a (xU ks k) -> Q r { s with heap := h' }) :
 wpAny (model prog w) A (setAddHashed a (.int k tk) ((intKind prog w).hash k)) Q E s := by
 obtain ⟨o, es, ep, t, is, ho, hx, hd, tg, hf, he, hi, hp⟩ := id x
 have hsz : es.size = ks.length := by rw [<- hp.length_eq, <- ik hi, List.length_map, Array.length_toList]
 unfold setAddHashed setAddHashedIn
 refine wpAny_holding (wpAny_bind (wpAny_setState_of ho hd hf ?_))
 dsimp only
 rw [byScan_of (knd := intKind prog w) rfl (by omega) he, if_pos rfl]
 unfold setAddByScan
 refine wpAny_bind (wpAny_bind (wpAny_rule (wpAny_bind (wpAny_setScan_of (intKind_is _ _ _ _) ho hd hf he ?_))))
 cases hr : es.toList.findIdx? (fun e => (intKind prog w).is k e.2) with
 | some j =>
   dsimp only
   obtain ⟨hj, hk, _⟩ := List.findIdx?_eq_some_iff_getElem.mp hr
   have hm : k ∈ ks := hp.mem_iff.mp ((oH (prog := prog) (w := w) hi).mp ⟨_, List.getElem_mem hj, hk⟩)
   refine wpAny_pure (wpAny_pure ?_)
   have := q false s.heap (Heap.SameBut.refl a s.heap) (by unfold xU; rw [if_pos (by simpa using hm)]; exact x)
   cases s; exact this
 | none =>
   dsimp only
   have hm : k ∉ ks := fun hm => by
    obtain ⟨e, e1, e2⟩ := (oH (prog := prog) (w := w) hi).mpr (hp.mem_iff.mpr hm)
    have := List.findIdx?_eq_none_iff.mp hr e e1
    rw [e2] at this; cases this
   have e' : xU ks k = ks ++ [k] := by unfold xU; rw [if_neg (by simpa using hm)]
   rw [e'] at q
   have pr := layNew_perm t es ((intKind prog w).hash k) (.int k tk)
   have fr := layNew_fits t es ((intKind prog w).hash k) (.int k tk)
   have tr := Ho tg es ((intKind prog w).hash k) (.int k tk)
   generalize layNew t es ((intKind prog w).hash k) (.int k tk) = L at pr fr tr
   obtain ⟨es1, t1, wd, gv⟩ := L
   dsimp only at pr fr tr ⊢
   rw [Array.toList_push] at pr
   have gw : ∀ (b : Bool) (s₁ : Shared) (Q' : Unit -> Shared -> Prop), Q' () s₁ -> wpAny (model prog w) A (match b with | true => rule "set.scan.the-table-gave-way" | false => pure ()) Q' E s₁ := fun b s₁ Q' hq => by
    cases b
    . exact wpAny_pure hq
    . exact wpAny_rule hq
   have ZJ : ElemsOf (intKind prog w) es1.toList := (he.push (k := k) (x := .int k tk) (intKind_is _ _ _ _) rfl).perm pr
   have hi1 : IntsAre ((es.toList ++ [((intKind prog w).hash k, Value.int k tk)]).map (·.2)) (is ++ [k]) := by
    rw [List.map_append]; exact ints_app hi (.cons k tk .nil)
   obtain ⟨js, j1, j2⟩ := kY (pr.map (·.2)) hi1
   have hz1 : es1.size <= sizeLine := by
    rw [<- Array.length_toList, pr.length_eq, List.length_append, Array.length_toList, hsz]
    exact fits_of_scanBound (by simpa using hz)
   have jp : js.Perm (ks ++ [k]) := j2.trans (hp.append_right [k])
   refine wpAny_bind (gw _ _ _ ?_)
   split
   . refine wpAny_bind ?_
     rw [hashByValue_scannable 8 rfl]
     refine wpAny_pure ?_
     refine rR (fun b s₁ Q' hq => gw b s₁ Q' hq) ho hx hd (b := b) ?_ ?_ ZJ j1 jp hz1 fun h' sb y => wpAny_pure (q true h' sb y)
     . split
       . exact tr
       . exact zW tr
     . split
       . exact fr
       . exact SetTable.fits_plain_off fr
   . refine wpAny_bind (wpAny_pure ?_)
     rw [if_pos rfl]
     exact rR (fun b s₁ Q' hq => gw b s₁ Q' hq) ho hx hd tr fr ZJ j1 jp hz1 fun h' sb y => wpAny_pure (q true h' sb y)
end
theorem vg : ∀ (ns ks : List Int), (ns.foldl xU ks).length <= ks.length + ns.length
 | [], ks => by simp
 | n :: ns, ks => by
   have h1 := vg ns (xU ks n)
   have h2 : (xU ks n).length <= ks.length + 1 := by unfold xU; split <;> simp
   rw [List.foldl_cons, List.length_cons]; omega
end HH
end
section
namespace HH
open PySem PyProof.Rows PySem.Spec
noncomputable abbrev lJ (w : World) : Bool := w.params.followText "set-order"
noncomputable abbrev fS (b : Bool) : Obj := { cls := .type "set", dict := none, data := .set #[] 0 (.fresh 0 0 b) }
section
variable {prog : Program} {w : World} {A : Around} {E : Value -> Shared -> Prop} {s : Shared}
theorem yu {h : Heap} {a : Addr} (e : h.get? a = some (fS (!lJ w))) : jw prog w (!lJ w) h a [] :=
 ⟨_, #[], 0, _, [], e, ⟨rfl, rfl, rfl⟩, rfl, ⟨rfl, rfl, fun i j hi => by simp [SetTable.fresh] at hi⟩, rfl, fun e he => by simp at he, .nil, .refl _⟩
theorem Bt (a : Value) {Q₁ : Value -> Shared -> Prop} (h : Q₁ (.ref s.heap.objs.size) { s with heap := s.heap.push (fS (!lJ w)) }) : codeAny (model prog w) A (.call (.builtin "set.__new__") ⟨[.type "set", a], []⟩) (wants Q₁ E) s := by
 refine codeAny_of_tree ?_; show wpAny _ A.in1 (do checkBuiltinCall "set.__new__" ⟨[.type "set", a], []⟩; again (.builtin "set.__new__" ⟨[.type "set", a], []⟩)) _ _ s
 refine wpAny_bind (wpAny_of_eq (PySem.F.newCall_set_1 a) (wpAny_pure ⟨plainId_quiet PySem.F.plain_set_new _, codeAny_builtin PySem.F.entry_set_new ?_⟩)); rw [Around.under_plainId PySem.F.plain_set_new _]
 unfold Builtin.«set.__new__» Builtin.Frozenset.newClass; have hsub := sub_set_self
 obtain ⟨hp, g, d, tk, os⟩ := s
 dsimp only; wp_walk
 refine wpAny_askSetting (wpAny_pure ?_); dsimp only
 simp only [newObj]; exact wpAny_bind (wpAny_alloc (wpAny_pure (wpAny_pure h)))
theorem Bo {R : Result -> Shared -> Prop} {I : Addr} {fp wr : List Addr} {G : Array GenState -> Array GenState -> Prop} {P : Nat -> Value -> Prop} {St : Nat -> Shared -> Prop} {b : Bool} {ns : List Int} (W : WalksS prog w A.in1 I fp wr G ns.length P St) (S : Addr) (hSf : S ∉ fp)
 (hval : ∀ i v, P i v -> ∃ t, v = .int (ns.getD i 0) t) (hb : ns.length + 1 < scanBound) :
 ∀ (k i : Nat) (s : Shared), ns.length - i = k -> i <= ns.length -> St i s -> jw prog w b s.heap S (dR (ns.take i)) -> (∀ s', Moved (S :: wr) G s s' -> jw prog w b s'.heap S (dR ns) -> R (.ok (.ret .none)) s') ->
   codeAny (model prog w) A (.builtin "set.update.loop" ⟨[.ref S, .ref I], []⟩) R s := by
 have hSw : S ∉ wr := fun h => hSf (W.sub _ h)
 have sub : ∀ b ∈ wr, b ∈ S :: wr := fun b hb => .tail _ hb
 intro k; induction k with
 | zero =>
   intro i s hk hi hst hS hR
   have hin : i = ns.length := by omega
   subst hin; refine codeAny_builtin PyProof.Rows.F.entry_set_update_loop ?_; rw [Around.under_plainId PyProof.Rows.F.plain_set_update_loop _]
   show wpAny _ A.in1 (pyNext (.ref I) >>= _) _ _ s; refine wpAny_bind (W.done s _ _ hst fun s' hm => ?_)
   show wpAny _ A.in1 (ret Value.none) _ _ s'; rw [List.take_length] at hS
   exact wpAny_pure (hR s' (hm.mono sub) (hS.at' fun o e => hm.heap S o hSw e))
 | succ k ih =>
   intro i s hk hi hst hS hR
   have lt : i < ns.length := by omega
   refine codeAny_builtin PyProof.Rows.F.entry_set_update_loop ?_; rw [Around.under_plainId PyProof.Rows.F.plain_set_update_loop _]
   show wpAny _ A.in1 (pyNext (.ref I) >>= _) _ _ s; refine wpAny_bind (W.item i s _ _ lt hst fun v s' hP hst' hm => ?_)
   obtain ⟨t, rfl⟩ := hval i v hP
   have hS' := hS.at' fun o e => hm.heap S o hSw e
   show wpAny _ A.in1 (holding [Value.int (ns.getD i 0) t] (setAdd S (.int (ns.getD i 0) t)) >>= _) _ _ s'
   refine wpAny_bind (wpAny_holding ?_); unfold setAdd
   refine wpAny_holding (wpAny_bind ((intKind prog w).pyHash (k := ns.getD i 0) (intKind_is _ _ _ _) ?_))
   have hroom : (dR (ns.take i)).length + 1 < scanBound := by
    have := vg (ns.take i) []; unfold dR; rw [List.length_take] at this; simp only [List.length_nil] at this; omega
   refine Bd (s := { s' with toks := s'.toks + 1 }) hS' hroom fun r h' sb hS2 => ?_
   have hSi : jw prog w b h' S (dR (ns.take (i + 1))) := by
    have e : ns.take (i + 1) = ns.take i ++ [ns.getD i 0] := by rw [List.take_add_one]; simp [lt]
    unfold dR; rw [e, List.foldl_append]; exact hS2
   refine wpAny_pure ⟨plainId_quiet PyProof.Rows.F.plain_set_update_loop _, ih (i + 1) _ (by omega) lt (W.frame _ s' _ _ hst' (Nat.le_succ _) fun b hb o e => ?_) hSi fun s'' hm'' hS'' => ?_⟩
   . rw [sb.2 b (fun h : b = S => hSf (by rw [<- h]; exact hb))]; exact e
   . refine hR s'' (Moved.trans W.gtrans ((hm.mono sub).then_heap (Nat.le_succ _) fun b o hb e => ?_) hm'') hS''; rw [sb.2 b (fun h : b = S => hb (by rw [h]; exact .head _))]; exact e
set_option maxHeartbeats 3200000 in
theorem Bg {l : Addr} {its : List Value} {ns : List Int} {Q : Value -> Shared -> Prop} (hh : A.handled = none) (hl : s.heap.IsList l its.toArray) (hi : IntsAre its ns) (hb : ns.length + 1 < scanBound)
 (h : ∀ (h' : Heap) (tk : Nat), jw prog w (!lJ w) h' s.heap.objs.size (dR ns) -> (∀ b o, s.heap.get? b = some o -> h'.get? b = some o) -> Q (.ref s.heap.objs.size) { s with heap := h', toks := tk }) : wpAny (model prog w) A (call (.type "set") [.ref l]) Q E s := by
 obtain ⟨c, tl, hmro⟩ := PySem.F.called_set.mro
 have hmade := PySem.F.called_set.made; have hsub := PySem.F.called_set.sub
 refine wpAny_call (codeAny_of_tree ?_); show wpAny _ _ (callAny (.type "set") _) _ _ _
 refine wpAny_pure ⟨Code.quiet_builtin _ (by decide +kernel), codeAny_builtin PySem.F.entry_type_call ?_⟩; rw [Around.under_plain (weight_type_call_type "set" [.ref l] []) rfl]
 have h1 := PySem.F.called_set.notType; have h2 := PySem.F.called_set.canCreate
 have hct := PySem.F.typeCall_set_1 (.ref l)
 repeat (any_goals (first | assumption | wp_step))
 refine codeAny_mono (Bt (.ref l) (E := E) (Q₁ := fun obj s₁ => obj = .ref s.heap.objs.size /\ s₁ = { s with heap := s.heap.push (fS (!lJ w)) }) ⟨rfl, rfl⟩) fun r s₁ hr => ?_
 cases r with
 | error e => exact hr
 | ok fl =>
   cases fl with
   | ret obj =>
     obtain ⟨rfl, rfl⟩ := hr
     have hS : (s.heap.push (fS (!lJ w))).get? s.heap.objs.size = some (fS (!lJ w)) := Heap.get?_push_size _ rfl
     have hT : Shared.TypeIs { s with heap := s.heap.push (fS (!lJ w)) } (.ref s.heap.objs.size) "set" := ⟨_, hS, rfl⟩
     have hli := PySem.F.called_set.init.lookup; have hbi := PySem.F.called_set.init.bind (.ref s.heap.objs.size)
     repeat (any_goals (first | assumption | wp_step))
     refine codeAny_mono (codeAny_call_builtin (R := wants (fun r s₂ => r = .none /\ ∃ h' tk, s₂ = { s with heap := h', toks := tk } /\ jw prog w (!lJ w) h' s.heap.objs.size (dR ns) /\ (∀ b o, s.heap.get? b = some o -> h'.get? b = some o)) E) PySem.F.called_set.init.plain PySem.F.entry_set_init (check_set_init_1 hT ?_)) fun r₂ s₂ hr₂ => ?_
     . obtain ⟨ol, hol, hcl, nl, hdl⟩ := hl
       obtain ⟨ocls, odict, odata, oslots⟩ := ol
       simp only at hcl hdl; subst hcl; subst hdl
       have hol' : (s.heap.push (fS (!lJ w))).get? l = some { cls := .type "list", dict := odict, data := .seq its.toArray nl, slots := oslots } := Heap.get?_push_of_some _ hol
       have hsls := PySem.F.sub_list_set; have hslf := PySem.F.sub_list_frozenset
       have hne : (Value.type "list" == Value.type "dict") = false := by decide
       have hl1 : (s.heap.push (fS (!lJ w))).IsList l its.toArray := ⟨_, hol', rfl, nl, rfl⟩
       unfold Builtin.«set.__init__» noKeywords Builtin.Frozenset.updateFrom; generalize hPI : pyIter = PI
       wp_walk; subst hPI
       refine wpAny_pyIter_list hl1 (wpAny_bind (wpAny_runValue ?_))
       have hlS : l < s.heap.objs.size := Heap.lt_size hol
       have hh3 : A.in1.in1.in1.handled = none := by simp [hh]
       have hz : (s.heap.push (fS (!lJ w))).objs.size = s.heap.objs.size + 1 := Heap.size_push ..
       have hneI : l ≠ (s.heap.push (fS (!lJ w))).objs.size := by rw [hz]; exact Nat.ne_of_lt (Nat.lt_succ_of_lt hlS)
       have hSf : s.heap.objs.size ∉ [(s.heap.push (fS (!lJ w))).objs.size, l] := by
        rw [hz]; simp only [List.mem_cons, List.not_mem_nil, or_false, not_or]; exact ⟨Nat.ne_of_lt (Nat.lt_succ_self _), Nat.ne_of_gt hlS⟩
       have hln : its.toArray.size = ns.length := by rw [List.size_toArray]; exact ik hi
       have W := (Walks.list (prog := prog) (w := w) hh3 _ l hneI its.toArray).toS
       rw [hln] at W
       refine Bo (b := !lJ w) W s.heap.objs.size hSf (fun i v hv => IntsAre.int_at hi i v (by simpa using hv)) hb (ns.length - 0) 0 _ (by omega) (Nat.zero_le _) ⟨⟨_, Heap.get?_push_size _ rfl, rfl, rfl⟩, hl1.push _⟩ (yu (Heap.get?_push_of_some _ hS)) fun s' hm hS' => ?_
       obtain ⟨h', g', d', tk', os'⟩ := s'
       have eg : g' = s.gens := hm.gens
       have ed : d' = s.drawn := hm.drawn
       have eo : os' = s.os := hm.os
       subst eg; subst ed; subst eo; show wpAny _ _ _ _ _ _
       refine wpAny_pure ?_; show wpAny _ _ (ret Value.none) _ _ _
       refine wpAny_pure ⟨rfl, h', tk', rfl, hS', fun b o e => ?_⟩
       have := Heap.lt_size e
       exact hm.heap b o (by rw [hz]; simp only [List.mem_cons, List.not_mem_nil, or_false, not_or]; exact ⟨Nat.ne_of_lt this, Nat.ne_of_lt (Nat.lt_succ_of_lt this)⟩) (Heap.get?_push_of_some _ (Heap.get?_push_of_some _ e))
     . cases r₂ with
       | error e => exact hr₂
       | ok fl₂ =>
         cases fl₂ with
         | ret r =>
           obtain ⟨rfl, h', tk, rfl, hS', hk'⟩ := hr₂
           repeat (any_goals (first | assumption | wp_step))
           exact h _ _ hS' hk'
         | _ => exact hr₂.elim
   | _ => exact hr.elim
end
end HH
end
section
namespace HH
open PySem PyProof.Rows PySem.Spec
theorem bu : Slot "set_iterator" "__next__" "set_iterator.__next__" := .of (owner := "set_iterator") (n := "__next__") (by rw [typeLookup_type, builtinLookup_eq_fast]; kernel_rfl) (by decide +kernel) (by decide +kernel) (by decide +kernel) (by first | exact .inl (by decide +kernel) | exact .inr (by decide +kernel)) (by rw [isSubtype_type]; kernel_rfl)
theorem dj : entryFor table "set_iterator.__next__" = some Builtin.«set_iterator.__next__» := entryFor_of_tree (by kernel_rfl)
theorem pH : Manifest.owners.lookup (String.ofList ['r', 'o', 't', 'a', 'r', 'e', 't', 'i', '_', 't', 'e', 's'].reverse) = some Manifest.sig_set_iterator := by kernel_rfl
theorem dG (a : Value) : argsOk "set_iterator.__next__" ⟨[a], []⟩ := by unfold argsOk; rw [signature?_of (id := "set_iterator.__next__") (n := ['_', '_', 't', 'x', 'e', 'n', '_', '_']) (o := ['r', 'o', 't', 'a', 'r', 'e', 't', 'i', '_', 't', 'e', 's']) (by kernel_rfl) pH]; kernel_rfl
theorem qU : entryFor table "set.__iter__" = some Builtin.«frozenset.__iter__» := entryFor_alias (id' := "frozenset.__iter__") (by kernel_rfl) rfl (by decide +kernel) (by kernel_rfl)
theorem jd : Slot "set_iterator" "__iter__" "set_iterator.__iter__" := .of (owner := "set_iterator") (n := "__iter__") (by rw [typeLookup_type, builtinLookup_eq_fast]; kernel_rfl) (by decide +kernel) (by decide +kernel) (by decide +kernel) (by first | exact .inl (by decide +kernel) | exact .inr (by decide +kernel)) (by rw [isSubtype_type]; kernel_rfl)
theorem o8 (a : Value) : argsOk "set_iterator.__iter__" ⟨[a], []⟩ := by unfold argsOk; rw [signature?_of (id := "set_iterator.__iter__") (n := ['_', '_', 'r', 'e', 't', 'i', '_', '_']) (o := ['r', 'o', 't', 'a', 'r', 'e', 't', 'i', '_', 't', 'e', 's']) (by kernel_rfl) pH]; kernel_rfl
theorem m8 : entryFor table "set_iterator.__iter__" = some Builtin.«dict_keyiterator.__iter__» := entryFor_alias (id' := "dict_keyiterator.__iter__") (by kernel_rfl) rfl (by decide +kernel) (by kernel_rfl)
theorem qi : typeLookup (.type "set") "__len__" = pure (some (.builtin "set.__len__")) := by rw [typeLookup_type, builtinLookup_eq_fast]; kernel_rfl
end HH
end
section
namespace HH
open PySem PyProof.Rows PySem.Spec
inductive fK (h : Heap) (a : Addr) (es : Array (Int × Value)) (ep : Nat) (t : SetTable) : Prop where
 | mk (o : Obj) (ho : h.get? a = some o) (hx : o.ExactSet) (hd : o.data = .set es ep t) (hf : t.fits es.size = true)
noncomputable def slotAt (t : SetTable) : Nat -> Int
 | 0 => 0
 | i + 1 => (t.place.getD i 0 : Int) + 1
inductive rM (h : Heap) (J a : Addr) (f : Value) (i n ep : Nat) : Prop where
 | mk (o : Obj) (ho : h.get? J = some o) (hc : o.cls = .type "set_iterator") (hd : o.data = .fields #[f, .int i 0, .ref a, .int n 0, .int ep 0])
section
variable {prog : Program} {w : World} {A : Around} {E : Value -> Shared -> Prop} {s : Shared} {a J : Addr} {es : Array (Int × Value)} {ep i : Nat} {t : SetTable} {f : Value}
theorem fK.at' {h h' : Heap} (x : fK h a es ep t) (k : ∀ o, h.get? a = some o -> h'.get? a = some o) : fK h' a es ep t := by
 obtain ⟨o, ho, r1, r2, r3⟩ := x; exact ⟨o, k o ho, r1, r2, r3⟩
theorem rM.at' {h h' : Heap} {n : Nat} (x : rM h J a f i n ep) (k : ∀ o, h.get? J = some o -> h'.get? J = some o) : rM h' J a f i n ep := by
 obtain ⟨o, ho, r1, r2⟩ := x; exact ⟨o, k o ho, r1, r2⟩
theorem rM.ty {n : Nat} (x : rM s.heap J a f i n ep) : s.TypeIs (.ref J) "set_iterator" := by
 obtain ⟨o, ho, r1, r2⟩ := x; exact ⟨o, ho, r1⟩
theorem fK.ty (x : fK s.heap a es ep t) : s.TypeIs (.ref a) "set" := by
 obtain ⟨o, ho, r1, r2⟩ := x; exact ⟨o, ho, r1.1⟩
theorem eZ {Q : (Array (Int × Value) × Nat × SetTable) -> Shared -> Prop} (r : fK s.heap a es ep t) (h : Q (es, ep, t) s) : wpAny (model prog w) A (setState a) Q E s := by
 obtain ⟨o, ho, _, hd, hf⟩ := r; exact wpAny_setState_of ho hd hf h
theorem gD {Q : Array (Int × Value) -> Shared -> Prop} (r : fK s.heap a es ep t) (h : Q es s) : wpAny (model prog w) A (setEntries a) Q E s := by
 obtain ⟨o, ho, _, hd, hf⟩ := r; exact wpAny_setEntries_of ho hd hf h
theorem Uz {α : Type} {m : Sem α} {Q Q' : α -> Shared -> Prop} {M : Model} (h : wpAny M A m Q E s) (hQ : ∀ a s, Q a s -> Q' a s) : wpAny M A m Q' E s := wpAny_mono h hQ fun _ _ x => x
theorem pP {Q : PySem.Fin -> Shared -> Prop} (x : rM s.heap J a f i es.size ep) (r : fK s.heap a es ep t) {slot : Int} {tk : Tok} (hf : f = .int slot tk)
 (h : wpAny (model prog w) A (setNext a slot.toNat i ep) (fun o s' => (∀ x nx, o = some (x, nx) -> wpAny (model prog w) A (setField (.ref J) 0 (rawInt nx) >>= fun _ => setField (.ref J) 1 (rawInt ((i : Int) + 1)) >>= fun _ => ret x) Q E s') /\
  (o = none -> wpAny (model prog w) A (setField (.ref J) 2 .none >>= fun _ => newExc (.type "StopIteration") [] >>= fun e => raiseNew e) Q E s')) E s) :
 wpAny (model prog w) A (Builtin.«set_iterator.__next__» ⟨[.ref J], []⟩) Q E s := by
 obtain ⟨o, ho, hc, hd⟩ := id x
 subst hf
 unfold Builtin.«set_iterator.__next__»
 refine wpAny_bind (wpAny_pure (wpAny_bind (wpAny_fieldsOf ho hd (wpAny_bind (gD r ?_)))))
 dsimp only
 rw [if_neg (by simp), Int.toNat_natCast, Int.toNat_natCast]
 refine wpAny_bind (Uz h fun o s' hq => ?_)
 cases o with
 | none => exact hq.2 rfl
 | some p => obtain ⟨y, nx⟩ := p; exact hq.1 y nx rfl
theorem m5 {Q : PySem.Fin -> Shared -> Prop} (x : rM s.heap J a f i es.size ep) (r : fK s.heap a es ep t) {T : Addr} {os : List Nat} {ot : Obj} {c : Nat} (hf : f = .ref T) (h1 : s.heap.get? T = some ot) (h2 : ot.data = .seq (os.map fun (i : Nat) => rawInt (i : Int)).toArray c)
 (h : (∀ j, os[i]? = some j -> wpAny (model prog w) A (setNextDrawn a j ep) (fun x s' => wpAny (model prog w) A (setField (.ref J) 1 (rawInt ((i : Int) + 1)) >>= fun _ => ret x) Q E s') E s) /\
  (os[i]? = none -> wpAny (model prog w) A (setField (.ref J) 0 (rawInt 0) >>= fun _ => setField (.ref J) 2 .none >>= fun _ => newExc (.type "StopIteration") [] >>= fun e => raiseNew e) Q E s)) :
 wpAny (model prog w) A (Builtin.«set_iterator.__next__» ⟨[.ref J], []⟩) Q E s := by
 obtain ⟨o, ho, hc, hd⟩ := id x
 subst hf
 unfold Builtin.«set_iterator.__next__»
 refine wpAny_bind (wpAny_pure (wpAny_bind (wpAny_fieldsOf ho hd (wpAny_bind (gD r ?_)))))
 dsimp only
 rw [if_neg (by simp), Int.toNat_natCast, Int.toNat_natCast]
 refine wpAny_bind (wpAny_seqItems h1 h2 ?_)
 have e : (os.map fun (i : Nat) => rawInt (i : Int)).toArray[i]? = os[i]?.map fun (j : Nat) => rawInt (j : Int) := by simp
 dsimp only
 rw [e]
 cases q : os[i]? with
 | none => exact h.2 q
 | some j =>
   simp only [Option.map_some, rawInt, Int.toNat_natCast]
   exact wpAny_bind (h.1 j q)
theorem nj {Q : PySem.Fin -> Shared -> Prop} {E : Value -> Shared -> Prop} (hh : A.handled = none) (h : ∀ h' e, (∀ b o, s.heap.get? b = some o -> h'.get? b = some o) -> (h'.get? e).map (·.cls) = some (.type "StopIteration") -> E (.ref e) { s with heap := h' }) :
 wpAny (model prog w) A (newExc (.type "StopIteration") [] >>= fun e => (raiseNew e : Sem PySem.Fin)) Q E s := by
 refine wpAny_bind ?_
 simp only [newExc, newTuple]
 refine wpAny_bind (wpAny_newObj_type ?_ (by size_fits))
 refine wpAny_bind (m := firstArgMember _ _) (wpAny_of_eq (a := Value.none) (by first | rfl | (simp only [firstArgMember]; rfl)) (wpAny_newObj_type ?_ (by size_fits)))
 simp only [raiseNew]
 refine wpAny_bind (wpAny_handled ?_)
 rw [hh]
 refine wpAny_bind (wpAny_pure (wpAny_throw (h _ _ (fun b o e => Heap.get?_push_of_some _ (Heap.get?_push_of_some _ e)) ?_)))
 rw [Heap.get?_push_size _ rfl]; rfl
theorem BK (ht : lJ w = true) {Q : Option (Value × Nat) -> Shared -> Prop} (r : fK s.heap a es ep t) {slot : Nat} (h : Q (((pickOrder (w.params.setOrder a ep) es)[i]?).map fun e => (e.2, slot)) s) : wpAny (model prog w) A (setNext a slot i ep) Q E s := by
 unfold setNext
 refine wpAny_bind (eZ r ?_)
 unfold setsByText
 refine wpAny_bind (wpAny_bind (wpAny_askSetting (wpAny_pure ?_)))
 dsimp only
 rw [if_pos (show (model prog w).w.params.followText "set-order" = true from ht), if_neg (by simp)]
 unfold setWalk
 refine wpAny_bind (wpAny_bind (eZ r ?_))
 unfold setsByText
 refine wpAny_bind (wpAny_bind (wpAny_askSetting (wpAny_pure ?_)))
 dsimp only
 rw [if_pos (show (model prog w).w.params.followText "set-order" = true from ht)]
 refine wpAny_bind (wpAny_askSetting (wpAny_pure (wpAny_pure ?_)))
 exact h
theorem zX (ht : lJ w = false) (hl : t.led = true) (hp : (!t.plain && decide (es.size > 1)) = false) {Q : Option (Value × Nat) -> Shared -> Prop} (r : fK s.heap a es ep t) {slot : Nat}
 (h : Q (match es[SetTable.below t.place slot]?, t.place[SetTable.below t.place slot]? with | some (_, x), some j => some (x, j + 1) | _, _ => none) s) : wpAny (model prog w) A (setNext a slot i ep) Q E s := by
 unfold setNext
 refine wpAny_bind (eZ r ?_)
 unfold setsByText
 refine wpAny_bind (wpAny_bind (wpAny_askSetting (wpAny_pure ?_)))
 dsimp only
 rw [if_neg (by rw [show (model prog w).w.params.followText "set-order" = false from ht]; simp)]
 show wpAny _ _ (if (!t.plain && decide (es.size > 1)) = true then _ else _) _ _ _
 rw [if_neg (by rw [hp]; simp)]
 refine wpAny_bind ?_
 show wpAny _ _ (if (!t.led && !es.isEmpty) = true then _ else _) _ _ _
 rw [if_neg (by rw [hl]; simp)]
 exact wpAny_pure (wpAny_pure h)
theorem J3 {j : Nat} {Q : Value -> Shared -> Prop} {e : Int × Value} (r : fK s.heap a es ep t) (he : es[j]? = some e) (h : Q e.2 s) : wpAny (model prog w) A (setNextDrawn a j ep) Q E s := by
 unfold setNextDrawn
 refine wpAny_bind (eZ r ?_)
 dsimp only
 rw [if_neg (by simp), he]
 exact wpAny_pure h
theorem mz {v : Value} {j n : Nat} {o : Obj} {vs : Array Value} {h : Heap} (ho : h.get? J = some o) (hc : o.cls = .type "set_iterator") (hd : o.data = .fields vs) : ∃ o', (h.update J (Obj.mapFields (·.setIfInBounds j v))).get? J = some o' /\ o'.cls = .type "set_iterator" /\ o'.data = .fields (vs.setIfInBounds j v) :=
 ⟨_, Heap.get?_update_self _ ho (Obj.isFreed_of_fields (Obj.data_mapFields hd _)), (Obj.cls_mapFields ..).trans hc, by rw [Obj.data_mapFields hd]⟩
theorem tD {slot : Int} {nx : Nat} {v : Value} {Q : Option Value -> Shared -> Prop} (x : rM s.heap J a (.int slot 0) i es.size ep) (r : fK s.heap a es ep t)
 (hq : ∀ (A : Around) (E : Value -> Shared -> Prop) (Q : Option (Value × Nat) -> Shared -> Prop), Q (some (v, nx)) s -> wpAny (model prog w) A (setNext a slot.toNat i ep) Q E s)
 (q : ∀ h', rM h' J a (.int (nx : Int) 0) (i + 1) es.size ep -> Heap.SameBut J s.heap h' -> Q (some v) { s with heap := h' }) : wpAny (model prog w) A (pyNext (.ref J)) Q E s := by
 unfold pyNext
 refine wpAny_bind (wpAny_attempt (wpAny_callSpecial?_slot (name := Str.ofString "__next__") x.ty bu (wpAny_call_entry bu x.ty dj ?bd (dG _))))
 refine pP x r rfl (hq _ _ _ ⟨fun y ny e => ?_, fun e => by cases e⟩)
 cases e
 obtain ⟨o, ho, hc, hd⟩ := x
 obtain ⟨o1, p1, p2, p3⟩ := mz (n := 0) (v := rawInt (nx : Int)) (j := 0) ho hc hd
 obtain ⟨o2, q1, q2, q3⟩ := mz (n := 0) (v := rawInt ((i : Int) + 1)) (j := 1) p1 p2 p3
 refine wpAny_bind (wpAny_setField ho hd (by simp) (wpAny_bind (wpAny_setField p1 p3 (by simp) (wpAny_pure ⟨_, rfl, wpAny_pure (q _ ⟨o2, q1, q2, ?_⟩ ?_)⟩))))
 . rw [q3]; simp [rawInt]
 . exact (Heap.SameBut.update _ J _).trans (Heap.SameBut.update _ J _)
theorem wK {slot : Int} {Q : Option Value -> Shared -> Prop} (hh : A.handled = none) (x : rM s.heap J a (.int slot 0) i es.size ep) (r : fK s.heap a es ep t)
 (hq : ∀ (A : Around) (E : Value -> Shared -> Prop) (Q : Option (Value × Nat) -> Shared -> Prop), Q none s -> wpAny (model prog w) A (setNext a slot.toNat i ep) Q E s)
 (q : ∀ h', (∀ b o, b ≠ J -> s.heap.get? b = some o -> h'.get? b = some o) -> Q none { s with heap := h' }) : wpAny (model prog w) A (pyNext (.ref J)) Q E s := by
 unfold pyNext
 refine wpAny_bind (wpAny_attempt (wpAny_callSpecial?_slot (name := Str.ofString "__next__") x.ty bu (wpAny_call_entry bu x.ty dj ?bd (dG _))))
 refine pP x r rfl (hq _ _ _ ⟨fun y ny e => (by cases e), fun _ => ?_⟩)
 obtain ⟨o, ho, hc, hd⟩ := x
 refine wpAny_bind (wpAny_setField ho hd (by simp) (nj hh fun h' e k c => ?_))
 cases he : h'.get? e with
 | none => rw [he] at c; cases c
 | some oe =>
   rw [he] at c
   refine wpAny_bind (wpAny_isInstance (T := "StopIteration") (b := true) ⟨oe, he, by simpa using c⟩ isSubtype_stop ?_)
   exact wpAny_pure (q _ fun b o hb e => k b o ((Heap.get?_update_other _ _ (Ne.symm hb)).trans e))
theorem yw {T : Addr} {os : List Nat} {ot : Obj} {c j : Nat} {v : Int × Value} {Q : Option Value -> Shared -> Prop} (x : rM s.heap J a (.ref T) i es.size ep) (r : fK s.heap a es ep t) (h1 : s.heap.get? T = some ot) (h2 : ot.data = .seq (os.map fun (i : Nat) => rawInt (i : Int)).toArray c)
 (hj : os[i]? = some j) (hv : es[j]? = some v) (q : ∀ h', rM h' J a (.ref T) (i + 1) es.size ep -> Heap.SameBut J s.heap h' -> Q (some v.2) { s with heap := h' }) : wpAny (model prog w) A (pyNext (.ref J)) Q E s := by
 unfold pyNext
 refine wpAny_bind (wpAny_attempt (wpAny_callSpecial?_slot (name := Str.ofString "__next__") x.ty bu (wpAny_call_entry bu x.ty dj ?bd (dG _))))
 refine m5 x r rfl h1 h2 ⟨fun j' e => ?_, fun e => by rw [hj] at e; cases e⟩
 rw [hj] at e; cases e
 obtain ⟨o, ho, hc, hd⟩ := x
 obtain ⟨o1, p1, p2, p3⟩ := mz (n := 0) (v := rawInt ((i : Int) + 1)) (j := 1) ho hc hd
 refine J3 r hv (wpAny_bind (wpAny_setField ho hd (by simp) (wpAny_pure ⟨_, rfl, wpAny_pure (q _ ⟨o1, p1, p2, ?_⟩ (Heap.SameBut.update _ J _))⟩)))
 rw [p3]; simp [rawInt]
theorem Bw {T : Addr} {os : List Nat} {ot : Obj} {c : Nat} {Q : Option Value -> Shared -> Prop} (hh : A.handled = none) (x : rM s.heap J a (.ref T) i es.size ep) (r : fK s.heap a es ep t) (h1 : s.heap.get? T = some ot) (h2 : ot.data = .seq (os.map fun (i : Nat) => rawInt (i : Int)).toArray c)
 (hj : os[i]? = none) (q : ∀ h', (∀ b o, b ≠ J -> s.heap.get? b = some o -> h'.get? b = some o) -> Q none { s with heap := h' }) : wpAny (model prog w) A (pyNext (.ref J)) Q E s := by
 unfold pyNext
 refine wpAny_bind (wpAny_attempt (wpAny_callSpecial?_slot (name := Str.ofString "__next__") x.ty bu (wpAny_call_entry bu x.ty dj ?bd (dG _))))
 refine m5 x r rfl h1 h2 ⟨fun j' e => (by rw [hj] at e; cases e), fun _ => ?_⟩
 obtain ⟨o, ho, hc, hd⟩ := x
 obtain ⟨o1, p1, p2, p3⟩ := mz (n := 0) (v := rawInt 0) (j := 0) ho hc hd
 refine wpAny_bind (wpAny_setField ho hd (by simp) (wpAny_bind (wpAny_setField p1 p3 (by simp) (nj hh fun h' e k c => ?_))))
 cases he : h'.get? e with
 | none => rw [he] at c; cases c
 | some oe =>
   rw [he] at c
   refine wpAny_bind (wpAny_isInstance (T := "StopIteration") (b := true) ⟨oe, he, by simpa using c⟩ isSubtype_stop ?_)
   exact wpAny_pure (q _ fun b o hb e => k b o ((Heap.get?_update_other _ _ (Ne.symm hb)).trans ((Heap.get?_update_other _ _ (Ne.symm hb)).trans e)))
theorem nY {n : Nat} {Q : Value -> Shared -> Prop} (x : rM s.heap J a f i n ep) (h : Q (.ref J) s) : wpAny (model prog w) A (pyIter (.ref J)) Q E s := by
 refine wpAny_pyIter_slot x.ty jd (wpAny_call_entry jd x.ty m8 ?_ (o8 _))
 show wpAny _ _ (ret (.ref J)) _ _ s; exact wpAny_pure ⟨_, rfl, "set_iterator", _, x.ty, bu.lookup, h⟩
theorem nR (g : lW t.place.toList) (hi : i <= t.place.size) : SetTable.below t.place (slotAt t i).toNat = i := by
 obtain ⟨h1, h2, h3⟩ := below_at (j := (slotAt t i).toNat) g
 have up : ∀ k (h : k < t.place.size), k < i -> t.place[k] < (slotAt t i).toNat := fun k h hk => by
  cases i with
  | zero => omega
  | succ i =>
    have hi' : i < t.place.size := by omega
    have e : slotAt t (i + 1) = (t.place[i] : Int) + 1 := by simp [slotAt, Array.getD, hi']
    rw [e]
    by_cases q : k = i
    . subst q; omega
    . have := g k i (by simpa using h) (by simpa using hi') (by omega)
      simp only [Array.getElem_toList] at this
      omega
 have dn : ∀ k (h : k < t.place.size), i <= k -> (slotAt t i).toNat <= t.place[k] := fun k h hk => by
  cases i with
  | zero => simp [slotAt]
  | succ i =>
    have hi' : i < t.place.size := by omega
    have e : slotAt t (i + 1) = (t.place[i] : Int) + 1 := by simp [slotAt, Array.getD, hi']
    rw [e]
    have := g i k (by simpa using hi') (by simpa using h) (by omega)
    simp only [Array.getElem_toList] at this
    omega
 rcases Nat.lt_trichotomy (SetTable.below t.place (slotAt t i).toNat) i with c | c | c
 . have k1 := up _ (by omega) c
   have k2 := h3 _ (by omega) (Nat.le_refl _)
   omega
 . exact c
 . have hi' : i < t.place.size := by omega
   have k1 := dn i hi' (Nat.le_refl _)
   have k2 := h2 i hi' c
   omega
theorem KN (hh : A.handled = none) (ht : lJ w = true) (hne : a ≠ J) : Walks prog w A J [J, a] [J] es.size (fun i v => ((pickOrder (w.params.setOrder a ep) es).toList.map (·.2))[i]? = some v) (fun i h => rM h J a (.int 0 0) i es.size ep /\ fK h a es ep t) where
 sub := fun b hb => by simp at hb; simp [hb]
 frame := fun _ _ _ st hk => ⟨st.1.at' fun o e => hk J (by simp) o e, st.2.at' fun o e => hk a (by simp) o e⟩
 item := fun i s Q E hi st hQ => by
  have hz : (pickOrder (w.params.setOrder a ep) es).size = es.size := by rw [<- Array.length_toList, (jj _ es).length_eq, Array.length_toList]
  have e : (pickOrder (w.params.setOrder a ep) es)[i]? = some ((pickOrder (w.params.setOrder a ep) es)[i]'(by omega)) := Array.getElem?_eq_getElem _
  refine tD (nx := 0) (v := ((pickOrder (w.params.setOrder a ep) es)[i]'(by omega)).2) st.1 st.2 (fun A E Q q => BK ht st.2 (by rw [e]; exact q)) fun h' x sb => ?_
  exact hQ _ h' s.toks (by rw [List.getElem?_map, Array.getElem?_toList, e]; rfl) ⟨x, st.2.at' fun o e => (sb.2 a hne).trans e⟩ fun b o hb e => (sb.2 b fun z => hb (by simp [z])).trans e
 done := fun s Q E st hQ => by
  have hz : (pickOrder (w.params.setOrder a ep) es).size = es.size := by rw [<- Array.length_toList, (jj _ es).length_eq, Array.length_toList]
  refine wK hh st.1 st.2 (fun A E Q q => BK ht st.2 (by rw [Array.getElem?_eq_none (by omega)]; exact q)) fun h' k => ?_
  exact hQ h' s.toks fun b o hb e => k b o (fun z => hb (by simp [z])) e
 self := fun _ _ _ _ st hQ => nY st.1 hQ
theorem HJ (hh : A.handled = none) (ht : lJ w = false) (hl : t.led = true) (hp : (!t.plain && decide (es.size > 1)) = false) (g : lW t.place.toList) (hz : t.place.size = es.size) (hne : a ≠ J) :
 Walks prog w A J [J, a] [J] es.size (fun i v => (es.toList.map (·.2))[i]? = some v) (fun i h => rM h J a (.int (slotAt t i) 0) i es.size ep /\ fK h a es ep t) where
 sub := fun b hb => by simp at hb; simp [hb]
 frame := fun _ _ _ st hk => ⟨st.1.at' fun o e => hk J (by simp) o e, st.2.at' fun o e => hk a (by simp) o e⟩
 item := fun i s Q E hi st hQ => by
  have hb := nR g (i := i) (by omega)
  have hi' : i < t.place.size := by omega
  refine tD (nx := t.place[i] + 1) (v := es[i].2) st.1 st.2 (fun A E Q q => zX ht hl hp st.2 (by rw [hb, Array.getElem?_eq_getElem hi, Array.getElem?_eq_getElem hi']; exact q)) fun h' x sb => ?_
  refine hQ _ h' s.toks (by simp [hi]) ⟨?_, st.2.at' fun o e => (sb.2 a hne).trans e⟩ fun b o hb e => (sb.2 b fun z => hb (by simp [z])).trans e
  have e : slotAt t (i + 1) = ((t.place[i] + 1 : Nat) : Int) := by simp [slotAt, Array.getD, hi']
  rw [e]; exact x
 done := fun s Q E st hQ => by
  have hb := nR g (i := es.size) (by omega)
  refine wK hh st.1 st.2 (fun A E Q q => zX ht hl hp st.2 (by rw [hb, Array.getElem?_eq_none (Nat.le_refl _)]; exact q)) fun h' k => ?_
  exact hQ h' s.toks fun b o hb e => k b o (fun z => hb (by simp [z])) e
 self := fun _ _ _ _ st hQ => nY st.1 hQ
theorem K3 {T : Addr} {os : List Nat} {ot : Obj} {c : Nat} (h2 : ot.data = .seq (os.map fun (i : Nat) => rawInt (i : Int)).toArray c) (hh : A.handled = none) (ho : os.Perm (List.range es.size)) (hne : a ≠ J) (hT : T ≠ J) :
 Walks prog w A J [J, a, T] [J] es.size (fun i v => (os.map fun j => (es.getD j (0, .none)).2)[i]? = some v) (fun i h => rM h J a (.ref T) i es.size ep /\ fK h a es ep t /\ h.get? T = some ot) where
 sub := fun b hb => by simp at hb; simp [hb]
 frame := fun _ _ _ st hk => ⟨st.1.at' fun o e => hk J (by simp) o e, st.2.1.at' fun o e => hk a (by simp) o e, hk T (by simp) _ st.2.2⟩
 item := fun i s Q E hi st hQ => by
  have hl : os.length = es.size := by rw [ho.length_eq, List.length_range]
  have e : os[i]? = some (os[i]'(by omega)) := List.getElem?_eq_getElem _
  have hj : os[i]'(by omega) < es.size := List.mem_range.mp (ho.mem_iff.mp (List.getElem_mem _))
  refine yw st.1 st.2.1 st.2.2 h2 e (Array.getElem?_eq_getElem hj) fun h' x sb => ?_
  exact hQ _ h' s.toks (by rw [List.getElem?_map, e]; simp [Array.getD, hj]) ⟨x, st.2.1.at' fun o e => (sb.2 a hne).trans e, (sb.2 T hT).trans st.2.2⟩ fun b o hb e => (sb.2 b fun z => hb (by simp [z])).trans e
 done := fun s Q E st hQ => by
  have hl : os.length = es.size := by rw [ho.length_eq, List.length_range]
  refine Bw hh st.1 st.2.1 st.2.2 h2 (List.getElem?_eq_none (by omega)) fun h' k => ?_
  exact hQ h' s.toks fun b o hb e => k b o (fun z => hb (by simp [z])) e
 self := fun _ _ _ _ st hQ => nY st.1 hQ
end
end HH
end
section
namespace HH
open PySem PyProof.Rows PySem.Spec
section
variable {prog : Program} {w : World} {A : Around} {E : Value -> Shared -> Prop} {s : Shared} {a J : Addr} {es : Array (Int × Value)} {ep i : Nat} {t : SetTable} {f : Value}
theorem vD {src : Source} {n : Nat} {Q : Nat -> Shared -> Prop} (hn : n ≠ 0) (h : ∀ i d, i < n -> Q i { s with drawn := d }) : wpAny (model prog w) A (choose src n) Q E s :=
 fun _ _ _ => ⟨hn, h _ _ (Nat.mod_lt _ (Nat.pos_of_ne_zero hn))⟩
theorem tV {α : Type} : ∀ (n : Nat) (xs : List α) {s : Shared} {Q : List α -> Shared -> Prop}, xs.length = n -> (∀ l d, l.Perm xs -> Q l { s with drawn := d }) -> wpAny (model prog w) A (drawOrder n xs) Q E s
 | 0, xs, s, Q, hl, h => by
   unfold drawOrder
   refine wpAny_pure ?_
   have := h [] s.drawn (by rw [List.length_eq_zero_iff.mp hl])
   cases s; exact this
 | n + 1, [], s, Q, hl, h => by cases hl
 | n + 1, x :: xs, s, Q, hl, h => by
   unfold drawOrder
   refine wpAny_bind (vD (by simp) fun i d hi => ?_)
   rw [List.getElem?_eq_getElem hi]
   refine wpAny_bind (tV n ((x :: xs).eraseIdx i) (by rw [List.length_eraseIdx, if_pos hi]; simpa using hl) fun l d' p => wpAny_pure ?_)
   refine h _ d' ((p.cons _).trans ?_)
   rw [List.eraseIdx_eq_take_drop_succ]
   have e : x :: xs = (x :: xs).take i ++ (x :: xs)[i] :: (x :: xs).drop (i + 1) := by rw [List.getElem_cons_drop, List.take_append_drop]
   conv => rhs; rw [e]
   exact List.perm_middle.symm
inductive Gw (prog : Program) (w : World) (h h' : Heap) (a : Addr) (es : Array (Int × Value)) (J : Addr) : Prop where
 | mk (fp : List Addr) (its : List Value) (St : Nat -> Heap -> Prop) (hp : its.Perm (es.toList.map (·.2))) (k : ∀ b o, h.get? b = some o -> h'.get? b = some o) (W : ∀ A : Around, A.handled = none -> Walks prog w A J fp [J] es.size (fun i v => its[i]? = some v) St)
   (st : St 0 h') (hJ : h.objs.size <= J) (hf : ∀ b ∈ fp, b = a \/ h.objs.size <= b)
theorem pq {f : Value} {Q : Value -> Shared -> Prop} (r : fK s.heap a es ep t) (q : rM (s.heap.push { cls := .type "set_iterator", data := .fields #[f, .int 0 0, .ref a, .int es.size 0, .int ep 0] }) s.heap.objs.size a f 0 es.size ep -> Q (.ref s.heap.objs.size) { s with heap := s.heap.push { cls := .type "set_iterator", data := .fields #[f, .int 0 0, .ref a, .int es.size 0, .int ep 0] } }) :
 wpAny (model prog w) A (setEpoch a >>= fun ep => newFields "set_iterator" [f, rawInt 0, Value.ref a, rawInt (es.size : Int), rawInt (ep : Int)] >>= fun r => ret r)
  (fun fin s' => ∃ v, fin = Fin.done (Flow.ret v) /\ ∃ T' r, s'.TypeIs v T' /\ typeLookup (Value.type T') (Str.ofString "__next__") = pure (some r) /\ Q v s') E s := by
 obtain ⟨o, ho, _, hd, hf⟩ := id r
 refine wpAny_bind (wpAny_setEpoch_of ho hd hf (wpAny_bind ?_))
 unfold newFields
 refine wpAny_newObj_type (wpAny_pure ⟨_, rfl, "set_iterator", _, ⟨_, Heap.get?_push_size _ rfl, rfl⟩, bu.lookup, ?_⟩)
 exact q ⟨_, Heap.get?_push_size _ rfl, rfl, rfl⟩
theorem Be {Q : Value -> Shared -> Prop} (r : fK s.heap a es ep t) (hl : t.led = !lJ w) (g : lW t.place.toList) (hz : es.size <= sizeLine) (q : ∀ h' J d, Gw prog w s.heap h' a es J -> Q (.ref J) { s with heap := h', drawn := d }) : wpAny (model prog w) A (pyIter (.ref a)) Q E s := by
 have hlt : a < s.heap.objs.size := by obtain ⟨o, ho, _⟩ := r; exact Heap.lt_size ho
 have hps : t.place.size = es.size := by
  obtain ⟨o, ho, _, _, hf⟩ := r
  simp only [SetTable.fits, Bool.and_eq_true, beq_iff_eq] at hf; exact hf.1
 refine wpAny_pyIter_slot r.ty PySem.F.slot_set_iter (wpAny_call_entry PySem.F.slot_set_iter r.ty qU ?bd (PySem.F.args_set_iter_1 _))
 unfold Builtin.«frozenset.__iter__» Builtin.Frozenset.slot0 Builtin.Frozenset.addrOf
 refine wpAny_bind (wpAny_bind (wpAny_pure (wpAny_pure ?_)))
 unfold Builtin.Frozenset.sizeOf
 refine wpAny_bind (wpAny_bind (gD r (wpAny_pure ?_)))
 unfold setDrawn
 refine wpAny_bind (wpAny_bind (eZ r ?_))
 unfold setsByText
 refine wpAny_bind (wpAny_bind (wpAny_askSetting (wpAny_pure (wpAny_pure ?_))))
 show wpAny _ _ (if (!lJ w && (!t.plain && decide (es.size > 1))) = true then _ else _) _ _ _
 by_cases c : (!lJ w && (!t.plain && decide (es.size > 1))) = true
 . rw [if_pos c]
   refine wpAny_bind (tV es.size _ List.length_range fun os d po => wpAny_bind (wpAny_newTuple ?_ (by rw [List.length_map, po.length_eq, List.length_range]; exact hz)))
   refine pq (es := es) (s := { s with heap := _, drawn := d }) (r.at' fun o e => Heap.get?_push_of_some _ e) fun x => ?_
   refine q _ _ d ⟨_, _, _, ?_, fun b o e => Heap.get?_push_of_some _ (Heap.get?_push_of_some _ e), fun A hh => K3 (T := s.heap.objs.size) (c := 0) rfl hh po ?_ ?_, ⟨x, (r.at' fun o e => Heap.get?_push_of_some _ (Heap.get?_push_of_some _ e)), Heap.get?_push_of_some _ (Heap.get?_push_size _ rfl)⟩, ?_, ?_⟩
   . have := po.map fun j => (es.getD j (0, Value.none)).2
     refine this.trans (.of_eq ?_)
     refine List.ext_getElem (by simp) fun i h1 h2 => ?_
     simp at h1
     simp [Array.getD, h1]
   . rw [Heap.size_push]; exact Nat.ne_of_lt (Nat.lt_succ_of_lt hlt)
   . rw [Heap.size_push]; exact Nat.ne_of_lt (Nat.lt_succ_self _)
   . rw [Heap.size_push]; exact Nat.le_succ _
   . intro b hb
     rw [Heap.size_push] at hb
     simp only [List.mem_cons, List.not_mem_nil, or_false] at hb
     rcases hb with rfl | rfl | rfl
     . exact .inr (Nat.le_succ _)
     . exact .inl rfl
     . exact .inr (Nat.le_refl _)
 . rw [if_neg c]
   refine wpAny_bind (wpAny_pure (pq (es := es) r fun x => ?_))
   have kp : ∀ b o, s.heap.get? b = some o -> (s.heap.push { cls := .type "set_iterator", data := .fields #[rawInt 0, .int 0 0, .ref a, .int es.size 0, .int ep 0] }).get? b = some o := fun b o e => Heap.get?_push_of_some _ e
   have q' := q (s.heap.push { cls := .type "set_iterator", data := .fields #[rawInt 0, .int 0 0, .ref a, .int es.size 0, .int ep 0] }) s.heap.objs.size s.drawn
   refine (show Gw prog w s.heap (s.heap.push { cls := .type "set_iterator", data := .fields #[rawInt 0, .int 0 0, .ref a, .int es.size 0, .int ep 0] }) a es s.heap.objs.size -> _ from fun z => by have := q' z; cases s; exact this) ?_
   have hf : ∀ b ∈ [s.heap.objs.size, a], b = a \/ s.heap.objs.size <= b := fun b hb => by
    simp only [List.mem_cons, List.not_mem_nil, or_false] at hb
    rcases hb with rfl | rfl
    . exact .inr (Nat.le_refl _)
    . exact .inl rfl
   cases ht : lJ w with
   | true => exact ⟨_, _, _, (jj (w.params.setOrder a ep) es).map (·.2), kp, fun A hh => KN hh ht (Nat.ne_of_lt hlt), ⟨x, r.at' fun o e => kp a o e⟩, Nat.le_refl _, hf⟩
   | false =>
     rw [ht] at c hl
     exact ⟨_, _, _, .refl _, kp, fun A hh => HJ hh ht hl (by simpa using c) g hps (Nat.ne_of_lt hlt), ⟨x, r.at' fun o e => kp a o e⟩, Nat.le_refl _, hf⟩
theorem zu (hT : s.TypeIs (.ref a) "set") {Q : Bool -> Shared -> Prop} (h : Q false s) : wpAny (model prog w) A (Builtin.List.listLengthHint (.ref a)) Q E s := by
 unfold Builtin.List.listLengthHint; refine wpAny_bind (wpAny_specialOf hT qi ?_)
 generalize hid : ("set.__len__" : String) = id0; wp_delta
 rw [show splitId id0 = some ("set", "__len__") from by subst hid; decide +kernel]; subst hid
 refine wpAny_bind (wpAny_isInstance (T := "set") (b := true) hT (by rw [isSubtype_type]; kernel_rfl) ?_)
 refine wpAny_ite_split (fun z => absurd z (by decide)) (fun _ => wpAny_ite_split (fun _ => wpAny_bind (wpAny_typeOf hT (wpAny_pure h))) (fun z => absurd (by decide +kernel) z))
theorem u9 {acc : Array Value} {its : List Value} (h : ItemsOf (fun i v => its[i]? = some v) acc its.length) : acc.toList = its := by
 refine List.ext_getElem? fun i => ?_
 rw [Array.getElem?_toList]
 cases q : acc[i]? with
 | none => rw [Array.getElem?_eq_none_iff, h.1] at q; rw [List.getElem?_eq_none q]
 | some v => exact (h.2 i v q).symm
theorem vz {R : Result -> Shared -> Prop} (hh : A.handled = none) (r : fK s.heap a es ep t) (hl : t.led = !lJ w) (g : lW t.place.toList) (hz : es.size <= sizeLine) (S : Addr) (ZK : S ≠ a) (res : Value) (c₀ : Nat) (hS : s.heap.get? S = some { cls := .type "list", data := .seq #[] c₀ })
 (hR : ∀ h' tk d acc c', (∀ b o, b ≠ S -> s.heap.get? b = some o -> h'.get? b = some o) -> h'.get? S = some { cls := .type "list", dict := none, data := .seq acc c', slots := #[] } -> acc.toList.Perm (es.toList.map (·.2)) -> R (.ok (.ret res)) { s with heap := h', toks := tk, drawn := d }) :
 wpAny (model prog w) A.in1 (Builtin.List.listExtendWith (.ref S) (.ref a) res) (fun fin s' => match fin with | .done f => R (.ok f) s' | .again c' => c'.quiet = true /\ codeAny (model prog w) A c' R s') (fun e s' => R (.error e) s') s := by
 unfold Builtin.List.listExtendWith; refine wpAny_bind (wpAny_typeOf (T := "set") r.ty ?_)
 have h1 : Builtin.List.listSameRef (.ref S) (.ref a) = false := by simp [Builtin.List.listSameRef, ZK]
 have h2 : (Value.type "set" == Value.type "list") = false := by decide
 have h3 : (Value.type "set" == Value.type "tuple") = false := by decide
 simp only [h1, h2, h3, Bool.or_false, Bool.false_eq_true, if_false]
 refine wpAny_bind (Be r hl g hz fun h' J d x => ?_)
 obtain ⟨fp, its, St, hp, k, W, st, hJ, hf⟩ := x
 have hlen : its.length = es.size := by rw [hp.length_eq, List.length_map, Array.length_toList]
 have hSl := Heap.lt_size hS
 have hSf : S ∉ fp := fun z => by
  rcases hf S z with e | e
  . exact ZK e
  . exact absurd hSl (Nat.not_lt.mpr e)
 have hSJ : S ≠ J := fun e => absurd hSl (Nat.not_lt.mpr (e ▸ hJ))
 have key : ∀ (h1 : Heap) (c₁ tk : Nat), St 0 h1 -> (∀ b o, b ≠ S -> s.heap.get? b = some o -> h1.get? b = some o) -> h1.get? S = some { cls := .type "list", data := .seq #[] c₁ } -> codeAny (model prog w) A (.builtin "list.extend.loop" ⟨[.ref S, .ref J, res], []⟩) R { s with heap := h1, toks := tk, drawn := d } := by
  intro h1 c₁ tk hst hk hS₁
  refine codeAny_extend_loopS (W A.in1 hh).toS hz S hSf res es.size 0 _ #[] c₁ rfl (Nat.zero_le _) hst hS₁ (ItemsOf.nil _) fun s' acc' c' hm hS' hacc => ?_
  rw [Moved.eq_with hm]
  rw [<- hlen] at hacc
  refine hR s'.heap s'.toks d acc' c' (fun b o hb e => hm.heap b o (fun z => ?_) (hk b o hb e)) hS' (by rw [u9 hacc]; exact hp)
  rcases List.mem_cons.mp z with e' | z
  . exact hb e'
  . rw [List.mem_singleton.mp z] at e; exact absurd (Heap.lt_size e) (Nat.not_lt.mpr hJ)
 have hS₁ := k S _ hS
 refine wpAny_bind (wpAny_holding (zu (s := { s with heap := h', drawn := d }) (by obtain ⟨o, ho, hx, _⟩ := r; exact ⟨o, k _ _ ho, hx.1⟩) ?_))
 refine wpAny_ite_split (fun _ => ?_) (fun _ => wpAny_pure ⟨plainId_quiet PySem.F.plain_extend_loop _, key _ c₀ _ st (fun b o _ e => k b o e) hS₁⟩)
 refine wpAny_bind (wpAny_rule (wpAny_bind ?_)); show wpAny _ _ (updateSeq S (·.push .none) >>= fun _ => updateSeq S (·.pop)) _ _ _
 refine wpAny_bind (wpAny_updateSeq hS₁ rfl ?_)
 have hS₂ := Heap.get?_update_self (Obj.mapSeq (·.push Value.none)) hS₁ rfl
 refine wpAny_updateSeq (hz := by seq_fits) hS₂ rfl ?_
 have hS₃ := Heap.get?_update_self (Obj.mapSeq (·.pop)) hS₂ rfl
 refine wpAny_pure ⟨plainId_quiet PySem.F.plain_extend_loop _, key _ _ _ ((W A hh).frame 0 _ _ st fun b hb o e => ?_) (fun b o hb e => ?_) hS₃⟩
 . have hbS : b ≠ S := fun h => hSf (h ▸ hb)
   exact (Heap.get?_update_other _ _ (Ne.symm hbS)).trans ((Heap.get?_update_other _ _ (Ne.symm hbS)).trans e)
 . exact (Heap.get?_update_other _ _ (Ne.symm hb)).trans ((Heap.get?_update_other _ _ (Ne.symm hb)).trans (k b o e))
theorem sJ {Q : List Value -> Shared -> Prop} (hh : A.handled = none) (r : fK s.heap a es ep t) (hl : t.led = !lJ w) (g : lW t.place.toList) (hz : es.size <= sizeLine)
 (hQ : ∀ h' tk d its, (∀ b o, s.heap.get? b = some o -> h'.get? b = some o) -> s.heap.objs.size < h'.objs.size -> its.Perm (es.toList.map (·.2)) -> Q its { s with heap := h', toks := tk, drawn := d }) : wpAny (model prog w) A (collect (.ref a)) Q E s := by
 have hlt : a < s.heap.objs.size := by obtain ⟨o, ho, _⟩ := r; exact Heap.lt_size ho
 unfold collect; refine wpAny_bind (wpAny_runValue (codeAny_builtin PySem.F.entry_proto_collect ?_))
 rw [Around.under_plainId PySem.F.plain_proto_collect _]; show wpAny _ A.in1 (newList [] >>= fun l => again (.builtin "list.__iadd__" ⟨[l, .ref a], []⟩)) _ _ s
 refine wpAny_bind (wpAny_newObj_type (wpAny_pure ⟨plainId_quiet PySem.F.plain_list_iadd _, codeAny_builtin PySem.F.entry_list_iadd ?_⟩))
 rw [Around.under_plainId PySem.F.plain_list_iadd _]; show wpAny _ A.in1 (Builtin.List.listExtendWith (.ref s.heap.objs.size) (.ref a) (.ref s.heap.objs.size)) _ _ _
 refine vz (A := A) (R := fun r s' => match r with
  | .ok (.ret v) => wpAny (model prog w) A (match v with
   | .ref a => do
     let o <- load a
     match o.data with
      | .seq xs _ => pure xs.toList
      | _ => unsupported "internal:collect"
   | _ => unsupported "internal:collect") Q E s'
  | .ok _ => False
  | .error e => E e s') (s := { s with heap := s.heap.push { cls := .type "list", data := .seq #[] } }) hh (r.at' fun o e => Heap.get?_push_of_some _ e) hl g hz s.heap.objs.size (Nat.ne_of_gt hlt) _ 0 (Heap.get?_push_size _ rfl) (fun h' tk d acc c' hk hS hacc => ?_)
 exact wpAny_bind (wpAny_load hS (wpAny_pure (hQ h' tk d acc.toList (fun b o e => hk b o (Nat.ne_of_lt (Heap.lt_size e)) (Heap.get?_push_of_some _ e)) (Heap.lt_size hS) hacc)))
end
end HH
end
section
namespace HH
open PySem L2 PySem.Spec PyProof.Rows PySem.Calls PySem.W
theorem Ht {X : Cx} {pins : List (Addr × Obj)} {σ : L2.St} {H : Hp} {s : Shared} (I : L2.Inv X pins σ H s) (d : Drawn) : L2.Inv X pins σ H { s with drawn := d } :=
 ⟨I.ok, I.os, I.bare, I.base, I.loc, I.cell, I.free, I.iy, I.pin, I.hok, I.len⟩
noncomputable def sI (X : Cx) (l : Addr) (ks : List Int) : Heap -> Prop := fun h => jw X.prog X.w (!lJ X.w) h l ks
noncomputable def Wt (X : Cx) : List V -> Hp -> VK -> Prop := fun xs H Q => ∃ p ns, xs = [.ref p] /\ fU X.K H p (List.map V.int ns) /\ ns.length < 4095 /\ ∀ l, H l = none -> Q (.ref l) (upd H l (.ext (sI X l (dR ns))))
noncomputable def Va (X : Cx) : List V -> Hp -> VK -> Prop := fun xs H Q => ∃ l ks, xs = [.ref l] /\ H l = some (.ext (sI X l ks)) /\ ks.length <= 4095 /\ ∀ q, H q = none -> Q (.ref q) (upd H q (.lst (((gG (ks.map D.int)).map cB).map V.int)))
section
variable {X : Cx} {c : Call} {a : Expr} {pa : P} {pos : Pos}
theorem Py (hc : X.calm = true) : cR X (.type "set") (Wt X) := by
 rintro pins s σ H xs us Q I r ⟨p, ns, rfl, hq, hn, k⟩
 obtain ⟨u, rfl, rx⟩ := r.one
 cases rx
 obtain ⟨its, rv, pl, hz⟩ := I.list hq
 refine Bg (I.ok.hd hc) pl.isList (intsAre_of rv) (by unfold scanBound; omega) fun h' tk hs kp => ?_
 refine ⟨.ref s.heap.objs.size, _, I.laid (t' := tk) (o := .ext (sI X s.heap.objs.size (dR ns))) (h' := h') kp (Nat.le_refl _) ⟨hs, ?_, fun h1 h2 z k => jw.at' z k⟩, rfl, k _ (I.hok.fresh (Nat.le_refl _))⟩
 obtain ⟨o, _, _, _, _, ho, _⟩ := hs
 exact ⟨o, ho⟩
theorem sE {ks : List Int} (h : ks.length <= 16777216) : sortable (ks.map D.int) = true := by
 simp only [sortable, List.length_map, Bool.and_eq_true, Bool.or_eq_true, decide_eq_true_eq]
 refine ⟨h, .inl ?_⟩
 rw [List.all_eq_true]; intro x hx; obtain ⟨i, _, rfl⟩ := List.mem_map.mp hx; rfl
theorem Bl {js ks : List Int} (h : js.length <= 16777216) (p : js.Perm ks) : gG (js.map D.int) = gG (ks.map D.int) := by
 have sk := sE (ks := ks) (by rw [<- p.length_eq]; exact h)
 exact jN sk ((fC _).trans (p.map D.int)) (gP _)
theorem CK (hc : X.calm = true) : cR X (.builtin "sorted") (Va X) := by
 rintro pins s σ H xs us Q I r ⟨l, ks, rfl, hq, hn, k⟩
 obtain ⟨u, rfl, rx⟩ := r.one
 cases rx
 obtain ⟨⟨o, es, ep, t, is, ho, hx, hd, tg, hf, he, hi, hp⟩, _, _⟩ := (show di X.prog X.w H s.heap l (.ext (sI X l ks)) from I.hok l _ hq)
 have hes : es.size = ks.length := by rw [<- hp.length_eq, <- ik hi, List.length_map, Array.length_toList]
 refine Calls.call_function_entry kind_sorted plain_sorted entry_sorted (args_sorted1 _) ?_
 unfold Builtin.«sorted»
 refine wpAny_bind (m := checkCount "sorted" 1 1 _) (wpAny_pure ?_)
 refine wpAny_bind (sJ (A := X.A.in1) (I.ok.hd hc) ⟨o, ho, hx, hd, hf⟩ tg.1 tg.2.2 (by rw [hes, sizeLine_eq]; omega) fun h1 tk d its kp hsz pi => ?_)
 obtain ⟨js, ij, jp⟩ := kY pi hi
 have jk := jp.trans hp
 have hla : its.length = ks.length := by rw [ik ij, jk.length_eq]
 refine wpAny_bind (wpAny_newList ?_ (by rw [sizeLine_eq]; omega))
 have hsz := Nat.le_of_lt hsz
 generalize hG : (h1.push { cls := .type "list", data := .seq its.toArray } : Heap) = H2
 have ho2 : H2.get? h1.objs.size = some (seqObj "list" its.toArray 0) := by rw [<- hG]; exact Heap.get?_push_size _ rfl
 have uG : ∀ b o, s.heap.get? b = some o -> H2.get? b = some o := fun b o e => by rw [<- hG]; exact Heap.get?_push_of_some _ (kp b o e)
 have hne : ∀ b o, s.heap.get? b = some o -> b ≠ h1.objs.size := fun b o e => Nat.ne_of_lt (Heap.lt_size (kp b o e))
 show wpAny _ _ _ _ _ { s with heap := H2, toks := tk, drawn := d }
 refine wpAny_bind (wpAny_holding (wpAny_call_entry slot_list_sort ⟨_, ho2, rfl⟩ entry_list_sort ?body (args_list_sort _)))
 case body =>
  refine pX (s := { s with heap := H2, toks := tk, drawn := d }) (κ := oneType') ho2 (sE (ks := js) (by rw [jk.length_eq]; omega)) (by omega) (zg ij) xH (fun h' k' C hC h2 => ?_) (fun h' k' u v d e hd he C hC => xn hd he hC) fun h' cc p k' p1 p2 e => ?_
  . match its, ij, h2 with
    | v1 :: v2 :: rest, ij, _ =>
      rw [keyKind_ints ij]
      exact wpAny_pure hC
  . refine ⟨_, rfl, wpAny_pure ⟨_, rfl, ?_⟩⟩
    have kk : ∀ b o, s.heap.get? b = some o -> h'.get? b = some o := fun b o z => k' b o (hne b o z) (uG b o z)
    have e2 : pick V.non p (js.map V.int) = ((gG (ks.map D.int)).map cB).map V.int := by
     rw [<- Bl (by rw [jk.length_eq]; omega) jk, <- p2]
     have hpm : ∀ i ∈ p, i < js.length := fun i h => by
      have := List.mem_range.mp (p1.mem_iff.mp h); rw [ik ij] at this; exact this
     unfold pick
     rw [List.map_map, List.map_map]
     refine List.map_congr_left fun i h => ?_
     have := hpm i h
     simp [this, cB]
    refine ⟨.ref h1.objs.size, _, Ht (I.laid (t' := tk) (o := .lst (pick .non p (js.map V.int))) (h' := h') kk hsz ⟨by rw [j6 p1, hla, sizeLine_eq]; omega, pick .none p its, cc, tu (kj ij), e⟩) d, rfl, ?_⟩
    rw [e2]
    exact k _ (I.hok.fresh hsz)
theorem Ec {x y : Str} {p' p2 pos2 : Pos} (hx : x = "sorted") (hy : y = "set") (hc : X.calm = true) (hg : Gl X x) (hm : X.mg x = none) (hg2 : Gl X y) (hm2 : X.mg y = none) (ha : SX X c a pa) (hs : starEach [a] X.env = (false, eval a X.env) :: starEach [] X.env := by rfl) :
 SX X c (.Call (.Name x p') [.Call (.Name y p2) [a] [] pos2] [] pos) (.blt .sset [pa]) := by
 subst hx; subst hy
 obtain ⟨ta, h1, h3⟩ := ha.fV
 refine ⟨fY (cW (CK hc) hg hm boot_sorted (bV (lr (Py hc) hg2 hm2 (by decide +kernel) (bV h1 eY hs) (he := hs)) eY)) ?_, fun i h => by cases h⟩
 rintro σ H Q ⟨F, ρ, r, ρ', g, e, k⟩
 rw [HH.ev] at e
 obtain ⟨d, ρ1, e1, e2⟩ := aq e
 have zz := aM e2; clear e2; obtain ⟨e2, e3⟩ := zz
 subst e3
 refine h3 g e1 fun v F' H' st pv => ?_
 cases d with
 | lst ds =>
   obtain ⟨⟨hn, ho⟩, he⟩ := bH (show (if ds.length < 4095 /\ ds.all dC = true then some (R.own (gG ((dR (ds.map cB)).map D.int))) else none) = some r from e2)
   subst he
   obtain ⟨p, ys, rfl, hq, rs⟩ := pv.lst st.gs.sub
   rw [all_ints ho] at rs
   have ey := dJ rs
   subst ey
   have hdl : (dR (ds.map cB)).length <= 4095 := by
    have := vg (ds.map cB) []
    unfold dR
    simp only [List.length_nil, List.length_map] at this
    omega
   refine ⟨p, ds.map cB, rfl, hq, by rw [List.length_map]; exact hn, fun l hl => ⟨l, dR (ds.map cB), rfl, bI .., hdl, fun q hq2 => ?_⟩⟩
   have x1 : Ext F' H' F' (upd H' l (.ext (sI X l (dR (ds.map cB))))) := ⟨aP.dh hl, .refl _, fun b o e => aP.dh hl b o (st.gs.sub b o e), fun _ a b => absurd a b⟩
   refine vH (K := X.K) (F := F') x1.sub (ds := gG ((dR (ds.map cB)).map D.int)) ?_ hq2 fun w F2 H2 x2 rn => ?_
   . have e4 : gG ((dR (ds.map cB)).map D.int) = ((gG ((dR (ds.map cB)).map D.int)).map cB).map D.int := all_ints (by
      rw [List.all_eq_true]; intro x hx
      obtain ⟨i, _, rfl⟩ := List.mem_map.mp ((fC _).mem_iff.mp hx); rfl)
     rw [e4]
     have := pR (K := X.K) (F := F') ((gG ((dR (ds.map cB)).map D.int)).map cB)
     rw [<- e4] at this ⊢
     exact this
   . have x3 : Ext F' H' F2 H2 := ⟨x1.hs.trans x2.hs, x2.fs, x2.sub, fun b n n' => by
      have := x2.gr b n n'
      by_cases eb : b = l
      . subst eb; rw [hl]; rfl
      . rw [aN eb] at this; exact this⟩
     have rn2 : cA X.K F2 H2 H' w (.own (gG ((dR (ds.map cB)).map D.int))) := by
      obtain ⟨b, xs, q1, q2, q3, q4, q5⟩ := rn
      refine ⟨b, xs, q1, q2, q3, q4, ?_⟩
      cases z : H' b with
      | none => rfl
      | some o => rw [x1.hs b o z] at q5; cases q5
     exact k w F2 H2 (st.trans (x3.stp st.gs)) (.later st (rn2.qL st.gs))
 | _ => cases e2
end
end HH
end
section
set_option maxHeartbeats 4000000
namespace T
open PySem L2 PySem.Spec PyProof.Rows HH
theorem hc : true = true := rfl
theorem oi {α : Type} {a : α} {p : Prop} : a = a \/ p := .inl rfl
theorem aY {X : Cx} {c : Call} {a : Expr} {es : List Expr} {pa : P} {ps : List P} (ha : SX X c a pa) (hr : SG X c es ps) (h : Vh a = true) : SG X c (a :: es) (pa :: ps) := Dv ha hr (gJ h)
theorem cV {X : Cx} {c : Call} {a : Expr} {es : List Expr} {pa : P} {ps : List P} (ha : SX X c a pa) (hr : SA X c es ps) (h : Vh a = true) : SA X c (a :: es) (pa :: ps) := wL ha hr (gJ h)
variable {Pg : Program} {w : World} {K : PySem.W.Frag} {mg : Str -> Option Value} {base : Heap} {f : Addr} {fd : FuncData} {k n : Nat} {c : Call} {cl : Nat -> Addr}
noncomputable def top (i : Nat) : Stmt := PySem.Challenge.pw_hourhaul_k14_till_and_turned.main.body.getD i (.Pass ⟨0, 0, 0, 0⟩)
noncomputable abbrev s0 := top 1
noncomputable def b0 : List S := [
 .ret (.bin .add (.var 1) (.idx (.idx (.idx (.var 0) (.con (.int 1))) (.var 2)) (.con (.int 3))))]
noncomputable def f0 : Fd := ⟨3, 3, b0⟩
theorem sc0 : aR ["net", "hour", "way"] ["net", "hour", "way"] (aD s0) := ⟨rfl, rfl, rfl, by decide +kernel, rfl, by decide +kernel, by decide +kernel⟩
include cl in
theorem d0 (Fu : jE K "hour_out" "hour_out" s0 f fd) :
 cF Pg w K mg base iZ (k + 1) f fd ["net", "hour", "way"] (jF K 3 (fun args => enter c n f0 args)) := by
 refine cG Fu sc0 rfl rfl fun cdv A outer s H E hr => ?_
 have nd := sc0.nd
 refine aj ?_ ?_
 . (with_reducible refine aX ?_); exact az aU (sv 1) (aA (aA (aA (sv 0) ak) (sv 2)) ak)
 exact au
noncomputable abbrev s1 := top 2
noncomputable def b1 : List S := [
 .ret (.blt .sorted [.comp (.var 1) 1 [3] true (some (.cmp .le (.call 0 [.var 0, .idx (.var 3) (.con (.int 0)), .idx (.var 3) (.con (.int 1))]) (.var 2))) (.var 3)])]
noncomputable def f1 : Fd := ⟨3, 3, b1⟩
theorem X6 : aR ["net", "plan", "hour"] ["net", "plan", "hour"] (aD s1) := ⟨rfl, rfl, rfl, by decide +kernel, rfl, by decide +kernel, by decide +kernel⟩
include cl in
theorem d1 (Fu : jE K "plan_till" "plan_till" s1 f fd) (bC : mg "sorted" = none) (jD : aC Pg w K mg base k c 0 "hour_out" 3) :
 cF Pg w K mg base iZ (k + 1) f fd ["net", "plan", "hour"] (jF K 3 (fun args => enter c n f1 args)) := by
 refine cG Fu X6 rfl rfl fun cdv A outer s H E hr => ?_
 have nd := X6.nd
 refine aj ?_ ?_
 . (with_reducible refine aX ?_); exact gj rfl (by rfl) bC (eO (N' := ["net", "plan", "hour", "triple"]) hc (xX rfl (by rfl)) (bR (sv 1)) (fun _ _ _ _ _ => aF (i := 3) (show (["net", "plan", "hour", "triple"] : List Str).Nodup by decide +kernel) rfl (Or.inl rfl) (Or.inr rfl)) (cM (Nat.le_refl _)) (fun _ _ _ _ _ => gR (aZ nT (dU jD hr (aY (sv 0) (aY (aA (sv 3) ak) (aY (aA (sv 3) ak) aG rfl) rfl) rfl)) (sv 2) (aV _))) (fun _ _ _ _ _ => (sv 3)))
 exact au
noncomputable abbrev s2 := top 3
noncomputable def b2 : List S := [
 .ret (.blt .sorted [.comp (.var 2) 3 [3, 4, 5] false none (.tup [.bin .sub (.var 1) (.call 0 [.var 0, .var 3, .var 4]), .var 4, .var 5])])]
noncomputable def f2 : Fd := ⟨3, 3, b2⟩
theorem Yu : aR ["net", "last", "plan"] ["net", "last", "plan"] (aD s2) := ⟨rfl, rfl, rfl, by decide +kernel, rfl, by decide +kernel, by decide +kernel⟩
include cl in
theorem d2 (Fu : jE K "turned_plan" "turned_plan" s2 f fd) (bC : mg "sorted" = none) (jD : aC Pg w K mg base k c 0 "hour_out" 3) :
 cF Pg w K mg base iZ (k + 1) f fd ["net", "last", "plan"] (jF K 3 (fun args => enter c n f2 args)) := by
 refine cG Fu Yu rfl rfl fun cdv A outer s H E hr => ?_
 have nd := Yu.nd
 refine aj ?_ ?_
 . (with_reducible refine aX ?_); exact gj rfl (by rfl) bC (eO (N' := ["net", "last", "plan", "hour", "way", "loads"]) hc (xX rfl (by rfl)) (bR (sv 2)) (fun _ _ _ _ _ => fO hc (aH (aF (i := 3) (show (["net", "last", "plan", "hour", "way", "loads"] : List Str).Nodup by decide +kernel) rfl (Or.inl rfl) (Or.inr rfl)) (aH (aF (i := 4) (show (["net", "last", "plan", "hour", "way", "loads"] : List Str).Nodup by decide +kernel) rfl (Or.inl rfl) (Or.inr rfl)) (aH (aF (i := 5) (show (["net", "last", "plan", "hour", "way", "loads"] : List Str).Nodup by decide +kernel) rfl (Or.inl rfl) (Or.inr rfl)) dH)))) (qD rfl (fu (show 3 <= 3 by decide) (fu (show 3 <= 4 by decide) (fu (show 3 <= 5 by decide) rz)))) (fun _ _ _ _ _ => iR) (fun _ _ _ _ _ => (cg (cV (az eE (sv 1) (dU jD hr (aY (sv 0) (aY (sv 3) (aY (sv 4) aG rfl) rfl) rfl))) (cV (sv 4) (cV (sv 5) aL rfl) rfl) rfl))))
 exact au
noncomputable abbrev s3 := top 5
noncomputable def b3 : List S := [
 .ret (.lst [.blt .max2 [.con (.int 0), .bin .sub (.var 0) (.bin .pow (.con (.int 10)) (.con (.int 18)))], .bin .mod (.var 0) (.bin .pow (.con (.int 10)) (.con (.int 18))), .con (.int 0)])]
noncomputable def f3 : Fd := ⟨1, 1, b3⟩
theorem X7 : aR ["cell"] ["cell"] (aD s3) := ⟨rfl, rfl, rfl, by decide +kernel, rfl, by decide +kernel, by decide +kernel⟩
include cl in
theorem d3 (Fu : jE K "_law_pool" "_law_pool" s3 f fd) (BW : mg "max" = none) :
 cF Pg w K mg base iZ (k + 1) f fd ["cell"] (jF K 1 (fun args => enter c n f3 args)) := by
 refine cG Fu X7 rfl rfl fun cdv A outer s H E hr => ?_
 have nd := X7.nd
 refine aj ?_ ?_
 . (with_reducible refine aX ?_); exact bT (cV (Dk rfl hc (by rfl) BW (cV ak (cV (az eE (sv 0) (az my ak ak)) aL rfl) rfl)) (cV (az eG (sv 0) (az my ak ak)) (cV ak aL rfl) rfl) rfl)
 exact au
noncomputable abbrev s4 := top 6
noncomputable def b4 : List S := [
 .ifs (.cmp .gt (.idx (.var 0) (.con (.int 0))) (.con (.int 0))) [.asg 2 (.bin .mod (.idx (.var 0) (.con (.int 0))) (.var 1)), .yO 0 (.con (.int 0)) (.bin .fdiv (.idx (.var 0) (.con (.int 0))) (.var 1)), .ret (.var 2)] [], 
 .yO 0 (.con (.int 2)) (.bin .add (.idx (.var 0) (.con (.int 2))) (.con (.int 1))), 
 .asg 3 (.bin .mod (.bin .add (.idx (.var 0) (.con (.int 1))) (.bin .mul (.con (.int 7919)) (.idx (.var 0) (.con (.int 2))))) (.con (.int 1000000007))), 
 .asg 4 (.bin .mod (.bin .mul (.bin .add (.var 3) (.con (.int 11))) (.bin .add (.var 3) (.con (.int 48271)))) (.con (.int 998244353))), 
 .ret (.bin .mod (.bin .fdiv (.bin .mod (.bin .mul (.var 4) (.var 4)) (.con (.int 2147483647))) (.con (.int 8))) (.var 1))]
noncomputable def f4 : Fd := ⟨2, 5, b4⟩
theorem Yh : aR ["pool", "base", "digit", "mixed", "stir"] ["pool", "base"] (aD s4) := ⟨rfl, rfl, rfl, by decide +kernel, rfl, by decide +kernel, by decide +kernel⟩
include cl in
theorem d4 (Fu : jE K "_law_next" "_law_next" s4 f fd) :
 cF Pg w K mg base iZ (k + 1) f fd ["pool", "base"] (jF K 2 (fun args => enter c n f4 args)) := by
 refine cG Fu Yh rfl rfl fun cdv A outer s H E hr => ?_
 have nd := Yh.nd
 refine aj ?_ ?_
 . (with_reducible refine cX ?_ ?_ ?_); exact aZ fj (aA (sv 0) ak) ak (aV _); (· (with_reducible refine aj ?_ ?_); (· (with_reducible refine aK (i := 2) ?_ ?_ ?_ ?_ ?_ ?_); exact nd; exact rfl; exact oi; rotate_left; rfl; exact oi; exact az eG (aA (sv 0) ak) (sv 1)); (· (with_reducible refine aj ?_ ?_); exact mq (k := 0) rfl (by first | exact Or.inl rfl | exact Or.inr (Or.inl rfl)) ak (az uf (aA (sv 0) ak) (sv 1)); (· (with_reducible refine aj ?_ ?_); (· (with_reducible refine aX ?_); exact sv 2); exact au))); exact au
 with_reducible refine aj ?_ ?_
 . exact (mq (k := 0) rfl (by first | exact Or.inl rfl | exact Or.inr (Or.inl rfl)) ak (az aU (aA (sv 0) ak) ak))
 with_reducible refine aj ?_ ?_
 . (with_reducible refine aK (i := 3) ?_ ?_ ?_ ?_ ?_ ?_); exact nd; exact rfl; exact oi; rotate_left; rfl; exact oi; exact az eG (az aU (aA (sv 0) ak) (az dF ak (aA (sv 0) ak))) ak
 with_reducible refine aj ?_ ?_
 . (with_reducible refine aK (i := 4) ?_ ?_ ?_ ?_ ?_ ?_); exact nd; exact rfl; exact oi; rotate_left; rfl; exact oi; exact az eG (az dF (az aU (sv 3) ak) (az aU (sv 3) ak)) ak
 with_reducible refine aj ?_ ?_
 . (with_reducible refine aX ?_); exact az eG (az uf (az eG (az dF (sv 4) (sv 4)) ak) ak) (sv 1)
 exact au
noncomputable abbrev s5 := top 7
noncomputable def b5 : List S := [
 .asg 2 (.blt .list [.slice (.var 0) (.con .non) (.var 1)]), 
 .gV (.v5 (.var 1) (.blt .len [.var 0])) [3] true [.yO 2 (.bin .mod (.var 3) (.var 1)) (.bin .add (.bin .mul (.idx (.var 2) (.bin .mod (.var 3) (.var 1))) (.con (.int 31))) (.idx (.var 0) (.var 3)))], 
 .ret (.var 2)]
noncomputable def f5 : Fd := ⟨2, 4, b5⟩
theorem YJ : aR ["script", "most", "cells", "k"] ["script", "most"] (aD s5) := ⟨rfl, rfl, rfl, by decide +kernel, rfl, by decide +kernel, by decide +kernel⟩
include cl in
theorem d5 (Fu : jE K "_law_cells" "_law_cells" s5 f fd) (gn : mg "len" = none) (dY : mg "list" = none) (bG : mg "range" = none) :
 cF Pg w K mg base iZ (k + 1) f fd ["script", "most"] (jF K 2 (fun args => enter c n f5 args)) := by
 refine cG Fu YJ rfl rfl fun cdv A outer s H E hr => ?_
 have nd := YJ.nd
 refine aj ?_ ?_
 . (with_reducible refine aK (i := 2) ?_ ?_ ?_ ?_ ?_ ?_); exact nd; exact rfl; exact oi; rotate_left; rfl; exact oi; exact rm rfl (by rfl) dY (nW (sv 0) rF (qZ (sv 1)))
 with_reducible refine aj ?_ ?_
 . (with_reducible refine cY (i := 3) ?_ ?_ ?_ ?_ ?_ ?_ ?_ ?_ ?_); exact PassesOwn.never; exact hc; exact nd; exact rfl; exact oi; exact CW rfl (by rfl) bG (sv 1) (mX rfl (by rfl) gn (sv 0)); (· (with_reducible refine aj ?_ ?_); exact mq (k := 2) rfl (by first | exact Or.inl rfl | exact Or.inr (Or.inl rfl)) (az eG (sv 3) (sv 1)) (az aU (az dF (aA (sv 2) (az eG (sv 3) (sv 1))) ak) (aA (sv 0) (sv 3))); exact au); (· intro _; rfl); exact Or.inl rfl
 with_reducible refine aj ?_ ?_
 . (with_reducible refine aX ?_); exact sv 2
 exact au
noncomputable abbrev s6 := top 8
noncomputable def b6 : List S := [
 .asg 3 (.call 4 [.var 0, .var 1]), 
 .asg 4 (.bin .mod (.bin .add (.bin .add (.var 3) (.con (.int 1))) (.call 4 [.var 0, .bin .sub (.var 1) (.con (.int 1))])) (.var 1)), 
 .ifs (.and (.cmp .lt (.bin .add (.var 2) (.con (.int 1))) (.var 1)) (.cmp .gt (.call 4 [.var 0, .con (.int 3)]) (.con (.int 0)))) [.par 3 4 (.var 2) (.bin .add (.var 2) (.con (.int 1)))] [.ifs (.and (.cmp .gt (.var 3) (.var 4)) (.cmp .gt (.call 4 [.var 0, .con (.int 3)]) (.con (.int 0)))) [.par 3 4 (.var 4) (.var 3)] []], 
 .asg 5 (.idx (.lst [.con (.int 1), .con (.int 2), .con (.int 3), .con (.int 5), .con (.int 0), .con (.int 1), .con (.int 4), .bin .add (.con (.int 1)) (.call 4 [.var 0, .con (.int 9)])]) (.call 4 [.var 0, .con (.int 8)])), 
 .ret (.tup [.var 3, .var 4, .var 5, .idx (.lst [.con (.int 1), .con (.int 1), .con (.int 1), .con (.int 2), .con (.int 2), .con (.int 3), .con (.int 1), .con (.int 4)]) (.call 4 [.var 0, .con (.int 8)])])]
noncomputable def f6 : Fd := ⟨3, 6, b6⟩
theorem YK : aR ["pool", "many", "k", "begin", "end", "room"] ["pool", "many", "k"] (aD s6) := ⟨rfl, rfl, rfl, by decide +kernel, rfl, by decide +kernel, by decide +kernel⟩
include cl in
theorem d6 (Fu : jE K "_law_way" "_law_way" s6 f fd) (aB : aC Pg w K mg base k c 4 "_law_next" 2) :
 cF Pg w K mg base iZ (k + 1) f fd ["pool", "many", "k"] (jF K 3 (fun args => enter c n f6 args)) := by
 refine cG Fu YK rfl rfl fun cdv A outer s H E hr => ?_
 have nd := YK.nd
 refine aj ?_ ?_
 . (with_reducible refine aK (i := 3) ?_ ?_ ?_ ?_ ?_ ?_); exact nd; exact rfl; exact oi; rotate_left; rfl; exact oi; exact dU aB hr (aY (sv 0) (aY (sv 1) aG rfl) rfl)
 with_reducible refine aj ?_ ?_
 . (with_reducible refine aK (i := 4) ?_ ?_ ?_ ?_ ?_ ?_); exact nd; exact rfl; exact oi; rotate_left; rfl; exact oi; exact az eG (az aU (az aU (sv 3) ak) (dU aB hr (aY (sv 0) (aY (az eE (sv 1) ak) aG rfl) rfl))) (sv 1)
 with_reducible refine aj ?_ ?_
 . (with_reducible refine cX ?_ ?_ ?_); exact SW.st (ji (aZ (uY (cL hr)) (az aU (sv 2) ak) (sv 1) (aV _)) (iB (aZ fj (dU aB hr (aY (sv 0) (aY ak aG rfl) rfl)) ak (aV _)))); (· (with_reducible refine aj ?_ ?_); exact zr (i := 3) (j := 4) hc nd rfl rfl (by decide) rfl rfl (sv 2) (az aU (sv 2) ak); exact au); (· (with_reducible refine aj ?_ ?_); (· (with_reducible refine cX ?_ ?_ ?_); exact SW.st (ji (aZ fj (sv 3) (sv 4) (aV _)) (iB (aZ fj (dU aB hr (aY (sv 0) (aY ak aG rfl) rfl)) ak (aV _)))); (· (with_reducible refine aj ?_ ?_); exact zr (i := 3) (j := 4) hc nd rfl rfl (by decide) rfl rfl (sv 4) (sv 3); exact au); exact au); exact au)
 with_reducible refine aj ?_ ?_
 . (with_reducible refine aK (i := 5) ?_ ?_ ?_ ?_ ?_ ?_); exact nd; exact rfl; exact oi; rotate_left; rfl; exact oi; exact aA (bT (fM [1, 2, 3, 5, 0, 1, 4] rfl (cV (az aU ak (dU aB hr (aY (sv 0) (aY ak aG rfl) rfl))) aL rfl))) (dU aB hr (aY (sv 0) (aY ak aG rfl) rfl))
 with_reducible refine aj ?_ ?_
 . (with_reducible refine aX ?_); exact cg (cV (sv 3) (cV (sv 4) (cV (sv 5) (cV (aA (bT (fM [1, 1, 1, 2, 2, 3, 1, 4] rfl aL)) (dU aB hr (aY (sv 0) (aY ak aG rfl) rfl))) aL rfl) rfl) rfl) rfl)
 exact au
noncomputable abbrev s7 := top 9
noncomputable def b7 : List S := [
 .asg 1 (.idx (.lst [.con (.int 3), .con (.int 4), .con (.int 3), .con (.int 4), .con (.int 2), .con (.int 5), .con (.int 6), .con (.int 4)]) (.call 4 [.var 0, .con (.int 8)])), 
 .asg 2 (.idx (.lst [.con (.int 5), .con (.int 3), .con (.int 4), .con (.int 6), .con (.int 2), .con (.int 7), .con (.int 8), .con (.int 10), .con (.int 12), .con (.int 1), .con (.int 0), .con (.int 5)]) (.call 4 [.var 0, .con (.int 12)])), 
 .ret (.tup [.var 1, .blt .tuple [.comp (.v5 (.con (.int 0)) (.var 2)) 1 [3] true none (.call 6 [.var 0, .var 1, .var 3])]])]
noncomputable def f7 : Fd := ⟨1, 3, b7⟩
theorem YZ : aR ["pool", "many", "count"] ["pool"] (aD s7) := ⟨rfl, rfl, rfl, by decide +kernel, rfl, by decide +kernel, by decide +kernel⟩
include cl in
theorem d7 (Fu : jE K "_law_net" "_law_net" s7 f fd) (bG : mg "range" = none) (eU : mg "tuple" = none) (aB : aC Pg w K mg base k c 4 "_law_next" 2) (v8 : aC Pg w K mg base k c 6 "_law_way" 3) :
 cF Pg w K mg base iZ (k + 1) f fd ["pool"] (jF K 1 (fun args => enter c n f7 args)) := by
 refine cG Fu YZ rfl rfl fun cdv A outer s H E hr => ?_
 have nd := YZ.nd
 refine aj ?_ ?_
 . (with_reducible refine aK (i := 1) ?_ ?_ ?_ ?_ ?_ ?_); exact nd; exact rfl; exact Or.inr rfl; rotate_left; rfl; exact oi; exact aA (bT (fM [3, 4, 3, 4, 2, 5, 6, 4] rfl aL)) (dU aB hr (aY (sv 0) (aY ak aG rfl) rfl))
 with_reducible refine aj ?_ ?_
 . (with_reducible refine aK (i := 2) ?_ ?_ ?_ ?_ ?_ ?_); exact nd; exact rfl; exact oi; rotate_left; rfl; exact oi; exact aA (bT (fM [5, 3, 4, 6, 2, 7, 8, 10, 12, 1, 0, 5] rfl aL)) (dU aB hr (aY (sv 0) (aY ak aG rfl) rfl))
 with_reducible refine aj ?_ ?_
 . (with_reducible refine aX ?_); exact cg (cV (sv 1) (cV (uB rfl (by rfl) eU (eO (N' := ["pool", "many", "count", "k"]) hc (xX rfl (by rfl)) (iI rfl (by rfl) bG (sv 2)) (fun _ _ _ _ _ => aF (i := 3) (show (["pool", "many", "count", "k"] : List Str).Nodup by decide +kernel) rfl (Or.inl rfl) (Or.inr rfl)) (cM (Nat.le_refl _)) (fun _ _ _ _ _ => iR) (fun _ _ _ _ _ => (dU v8 hr (aY (sv 0) (aY (sv 1) (aY (sv 3) aG rfl) rfl) rfl))))) aL rfl) rfl)
 exact au
noncomputable abbrev s8 := top 10
noncomputable def b8 : List S := [
 .ret (.bin .add (.idx (.var 1) (.con (.int 0))) (.idx (.idx (.idx (.var 0) (.con (.int 1))) (.idx (.var 1) (.con (.int 1)))) (.con (.int 3))))]
noncomputable def f8 : Fd := ⟨2, 2, b8⟩
theorem Yx : aR ["net", "triple"] ["net", "triple"] (aD s8) := ⟨rfl, rfl, rfl, by decide +kernel, rfl, by decide +kernel, by decide +kernel⟩
include cl in
theorem d8 (Fu : jE K "_law_out" "_law_out" s8 f fd) :
 cF Pg w K mg base iZ (k + 1) f fd ["net", "triple"] (jF K 2 (fun args => enter c n f8 args)) := by
 refine cG Fu Yx rfl rfl fun cdv A outer s H E hr => ?_
 have nd := Yx.nd
 refine aj ?_ ?_
 . (with_reducible refine aX ?_); exact az aU (aA (sv 1) ak) (aA (aA (aA (sv 0) ak) (aA (sv 1) ak)) ak)
 exact au
noncomputable abbrev s9 := top 11
noncomputable def b9 : List S := [
 .asg 4 (.comp (.var 1) 1 [5] true (some (.cmp .eq (.idx (.idx (.idx (.var 0) (.con (.int 1))) (.idx (.var 5) (.con (.int 1)))) (.con (.int 1))) (.var 2))) (.var 5)), 
 .ret (.blt .sum [.comp (.var 4) 1 [5] true (some (.cmp .le (.call 8 [.var 0, .var 5]) (.var 3))) (.idx (.var 5) (.con (.int 2)))])]
noncomputable def f9 : Fd := ⟨4, 5, b9⟩
theorem Yd : aR ["net", "plan", "place", "hour", "here"] ["net", "plan", "place", "hour"] (aD s9) := ⟨rfl, rfl, rfl, by decide +kernel, rfl, by decide +kernel, by decide +kernel⟩
include cl in
theorem d9 (Fu : jE K "_law_come" "_law_come" s9 f fd) (kE : mg "sum" = none) (cQ : aC Pg w K mg base k c 8 "_law_out" 2) :
 cF Pg w K mg base iZ (k + 1) f fd ["net", "plan", "place", "hour"] (jF K 4 (fun args => enter c n f9 args)) := by
 refine cG Fu Yd rfl rfl fun cdv A outer s H E hr => ?_
 have nd := Yd.nd
 refine aj ?_ ?_
 . exact (mL (i := 4) (N' := ["net", "plan", "place", "hour", "here", "triple"]) hc nd rfl (Or.inl rfl) (xX rfl (by rfl)) (bR (sv 1)) (fun _ _ _ _ _ => aF (i := 5) (show (["net", "plan", "place", "hour", "here", "triple"] : List Str).Nodup by decide +kernel) rfl (Or.inl rfl) (Or.inr rfl)) (cM (Nat.le_refl _)) (fun _ _ _ _ _ => gR (aZ (jl (cL hr)) (aA (aA (aA (sv 0) ak) (aA (sv 5) ak)) ak) (sv 2) (aV _))) (fun _ _ _ _ _ => (sv 5)) (by rfl) (by intro _; rfl) (Or.inl rfl))
 with_reducible refine aj ?_ ?_
 . (with_reducible refine aX ?_); exact uZ rfl hc (by rfl) kE (eO (N' := ["net", "plan", "place", "hour", "here", "triple"]) hc (xX rfl (by rfl)) (bR (sv 4)) (fun _ _ _ _ _ => aF (i := 5) (show (["net", "plan", "place", "hour", "here", "triple"] : List Str).Nodup by decide +kernel) rfl (Or.inl rfl) (Or.inr rfl)) (cM (Nat.le_refl _)) (fun _ _ _ _ _ => gR (aZ nT (dU cQ hr (aY (sv 0) (aY (sv 5) aG rfl) rfl)) (sv 3) (aV _))) (fun _ _ _ _ _ => (aA (sv 5) ak)))
 exact au
noncomputable abbrev gU := top 12
noncomputable def b10 : List S := [
 .asg 4 (.comp (.var 1) 1 [5] true (some (.cmp .eq (.idx (.idx (.idx (.var 0) (.con (.int 1))) (.idx (.var 5) (.con (.int 1)))) (.con (.int 0))) (.var 2))) (.var 5)), 
 .ret (.blt .sum [.comp (.var 4) 1 [5] true (some (.cmp .le (.idx (.var 5) (.con (.int 0))) (.var 3))) (.idx (.var 5) (.con (.int 2)))])]
noncomputable def TF : Fd := ⟨4, 5, b10⟩
theorem Q7 : aR ["net", "plan", "place", "hour", "here"] ["net", "plan", "place", "hour"] (aD gU) := ⟨rfl, rfl, rfl, by decide +kernel, rfl, by decide +kernel, by decide +kernel⟩
include cl in
theorem d10 (Fu : jE K "_law_left" "_law_left" gU f fd) (kE : mg "sum" = none) :
 cF Pg w K mg base iZ (k + 1) f fd ["net", "plan", "place", "hour"] (jF K 4 (fun args => enter c n TF args)) := by
 refine cG Fu Q7 rfl rfl fun cdv A outer s H E hr => ?_
 have nd := Q7.nd
 refine aj ?_ ?_
 . exact (mL (i := 4) (N' := ["net", "plan", "place", "hour", "here", "triple"]) hc nd rfl (Or.inl rfl) (xX rfl (by rfl)) (bR (sv 1)) (fun _ _ _ _ _ => aF (i := 5) (show (["net", "plan", "place", "hour", "here", "triple"] : List Str).Nodup by decide +kernel) rfl (Or.inl rfl) (Or.inr rfl)) (cM (Nat.le_refl _)) (fun _ _ _ _ _ => gR (aZ (jl (cL hr)) (aA (aA (aA (sv 0) ak) (aA (sv 5) ak)) ak) (sv 2) (aV _))) (fun _ _ _ _ _ => (sv 5)) (by rfl) (by intro _; rfl) (Or.inl rfl))
 with_reducible refine aj ?_ ?_
 . (with_reducible refine aX ?_); exact uZ rfl hc (by rfl) kE (eO (N' := ["net", "plan", "place", "hour", "here", "triple"]) hc (xX rfl (by rfl)) (bR (sv 4)) (fun _ _ _ _ _ => aF (i := 5) (show (["net", "plan", "place", "hour", "here", "triple"] : List Str).Nodup by decide +kernel) rfl (Or.inl rfl) (Or.inr rfl)) (cM (Nat.le_refl _)) (fun _ _ _ _ _ => gR (aZ nT (aA (sv 5) ak) (sv 3) (aV _))) (fun _ _ _ _ _ => (aA (sv 5) ak)))
 exact au
noncomputable abbrev uO := top 13
noncomputable def b11 : List S := [
 .asg 4 (.lst []), 
 .gV (.v5 (.con (.int 0)) (.var 2)) [5] true [.gV (.v5 (.con (.int 0)) (.blt .len [.idx (.var 1) (.con (.int 1))])) [6] true [.NB [7, 8, 9, 10] (.idx (.idx (.var 1) (.con (.int 1))) (.var 6)), .asg 11 (.var 9), .ifs (.cmp .gt (.var 7) (.con (.int 0))) [.asg 12 (.call 9 [.var 1, .var 4, .var 7, .var 5]), .asg 12 (.bin .sub (.var 12) (.call 10 [.var 1, .var 4, .var 7, .var 5])), .asg 11 (.blt .min2 [.var 9, .var 12])] [], .ifs (.or (.cmp .gt (.bin .add (.var 5) (.var 10)) (.var 2)) (.cmp .eq (.blt .len [.var 4]) (.var 3))) [.asg 11 (.con (.int 0))] [], .ifs (.and (.cmp .gt (.var 11) (.con (.int 0))) (.cmp .gt (.call 4 [.var 0, .con (.int 3)]) (.con (.int 0)))) [.asg 13 (.bin .mul (.call 4 [.var 0, .con (.int 2)]) (.call 4 [.var 0, .var 11])), .app 4 (.tup [.var 5, .var 6, .bin .sub (.var 11) (.var 13)])] []]], 
 .ret (.var 4)]
noncomputable def f11 : Fd := ⟨4, 14, b11⟩
theorem Pb : aR ["pool", "net", "last", "most", "found", "hour", "way", "begin", "end", "room", "hours", "free", "stock", "less"] ["pool", "net", "last", "most"] (aD uO) := ⟨rfl, rfl, rfl, by decide +kernel, rfl, by decide +kernel, by decide +kernel⟩
include cl in
theorem d11 (Fu : jE K "_law_plan" "_law_plan" uO f fd) (gn : mg "len" = none) (qe : mg "min" = none) (bG : mg "range" = none) (uH : aC Pg w K mg base k c 9 "_law_come" 4) (uI : aC Pg w K mg base k c 10 "_law_left" 4) (aB : aC Pg w K mg base k c 4 "_law_next" 2) :
 cF Pg w K mg base iZ (k + 1) f fd ["pool", "net", "last", "most"] (jF K 4 (fun args => enter c n f11 args)) := by
 refine cG Fu Pb rfl rfl fun cdv A outer s H E hr => ?_
 have nd := Pb.nd
 refine aj ?_ ?_
 . (with_reducible refine aK (i := 4) ?_ ?_ ?_ ?_ ?_ ?_); exact nd; exact rfl; exact oi; rotate_left; rfl; exact oi; exact bT aL
 with_reducible refine aj ?_ ?_
 . (with_reducible refine cY (i := 5) ?_ ?_ ?_ ?_ ?_ ?_ ?_ ?_ ?_); exact PassesOwn.never; exact hc; exact nd; exact rfl; exact oi; exact iI rfl (by rfl) bG (sv 2); (· (with_reducible refine aj ?_ ?_); (· (with_reducible refine cY (i := 6) ?_ ?_ ?_ ?_ ?_ ?_ ?_ ?_ ?_); exact PassesOwn.never; exact hc; exact nd; exact rfl; exact oi; exact iI rfl (by rfl) bG (mX rfl (by rfl) gn (aA (sv 1) ak)); (· (with_reducible refine aj ?_ ?_); exact qO (aA (aA (sv 1) ak) (sv 6)) (fO hc (aH (aF (i := 7) nd rfl (Or.inl rfl) (Or.inl rfl)) (aH (aF (i := 8) nd rfl (Or.inl rfl) (Or.inl rfl)) (aH (aF (i := 9) nd rfl (Or.inl rfl) (Or.inl rfl)) (aH (aF (i := 10) nd rfl (Or.inl rfl) (Or.inl rfl)) dH))))) (jm rfl (bf _ _ (bf _ _ (bf _ _ (bf _ _ gH 10) 9) 8) 7)); (· (with_reducible refine aj ?_ ?_); (· (with_reducible refine aK (i := 11) ?_ ?_ ?_ ?_ ?_ ?_); exact nd; exact rfl; exact oi; rotate_left; rfl; exact oi; exact sv 9); (· (with_reducible refine aj ?_ ?_); (· (with_reducible refine cX ?_ ?_ ?_); exact aZ fj (sv 7) ak (aV _); (· (with_reducible refine aj ?_ ?_); (· (with_reducible refine aK (i := 12) ?_ ?_ ?_ ?_ ?_ ?_); exact nd; exact rfl; exact oi; rotate_left; rfl; exact oi; exact dU uH hr (aY (sv 1) (aY (sv 4) (aY (sv 7) (aY (sv 5) aG rfl) rfl) rfl) rfl)); (· (with_reducible refine aj ?_ ?_); (· (with_reducible refine aK (i := 12) ?_ ?_ ?_ ?_ ?_ ?_); exact nd; exact rfl; exact oi; rotate_left; rfl; exact oi; exact az eE (sv 12) (dU uI hr (aY (sv 1) (aY (sv 4) (aY (sv 7) (aY (sv 5) aG rfl) rfl) rfl) rfl))); (· (with_reducible refine aj ?_ ?_); (· (with_reducible refine aK (i := 11) ?_ ?_ ?_ ?_ ?_ ?_); exact nd; exact rfl; exact oi; rotate_left; rfl; exact oi; exact Cy rfl hc (by rfl) qe (cV (sv 9) (cV (sv 12) aL rfl) rfl)); exact au))); exact au); (· (with_reducible refine aj ?_ ?_); (· (with_reducible refine cX ?_ ?_ ?_); exact SW.st (sS (aZ fj (az aU (sv 5) (sv 10)) (sv 2) (aV _)) (m9 (aZ (jl (cL hr)) (mX rfl (by rfl) gn (sv 4)) (sv 3) (aV _)))); (· (with_reducible refine aj ?_ ?_); (· (with_reducible refine aK (i := 11) ?_ ?_ ?_ ?_ ?_ ?_); exact nd; exact rfl; exact oi; rotate_left; rfl; exact oi; exact ak); exact au); exact au); (· (with_reducible refine aj ?_ ?_); (· (with_reducible refine cX ?_ ?_ ?_); exact SW.st (ji (aZ fj (sv 11) ak (aV _)) (iB (aZ fj (dU aB hr (aY (sv 0) (aY ak aG rfl) rfl)) ak (aV _)))); (· (with_reducible refine aj ?_ ?_); (· (with_reducible refine aK (i := 13) ?_ ?_ ?_ ?_ ?_ ?_); exact nd; exact rfl; exact oi; rotate_left; rfl; exact oi; exact az dF (dU aB hr (aY (sv 0) (aY ak aG rfl) rfl)) (dU aB hr (aY (sv 0) (aY (sv 11) aG rfl) rfl))); (· (with_reducible refine aj ?_ ?_); exact bM (k := 4) rfl (by first | exact Or.inl rfl | exact Or.inr (Or.inl rfl)) (cg (cV (sv 5) (cV (sv 6) (cV (az eE (sv 11) (sv 13)) aL rfl) rfl) rfl)); exact au)); exact au); exact au))))); (· intro _; rfl); exact oi); exact au); (· intro _; rfl); exact Or.inl rfl
 with_reducible refine aj ?_ ?_
 . (with_reducible refine aX ?_); exact sv 4
 exact au
noncomputable abbrev s12 := top 14
noncomputable def b12 : List S := [
 .ifs (.cmp .gt (.call 4 [.var 0, .con (.int 4)]) (.con (.int 0))) [.ret (.tup [.var 1, .var 2, .var 3])] [], 
 .asg 4 (.bin .add (.con (.int 1)) (.call 4 [.var 0, .con (.int 250000)])), 
 .asg 5 (.bin .add (.con (.int 1)) (.call 4 [.var 0, .bin .pow (.con (.int 10)) (.con (.int 8))])), 
 .asg 6 (.lst []), 
 .gV (.idx (.var 1) (.con (.int 1))) [7, 8, 9, 10] false [.app 6 (.tup [.var 7, .var 8, .bin .mul (.var 9) (.var 5), .bin .mul (.var 10) (.var 4)])], 
 .asg 11 (.lst []), 
 .gV (.var 2) [12, 13, 14] false [.app 11 (.tup [.bin .mul (.var 12) (.var 4), .var 13, .bin .mul (.var 14) (.var 5)])], 
 .ret (.tup [.tup [.idx (.var 1) (.con (.int 0)), .blt .tuple [.var 6]], .var 11, .bin .mul (.var 3) (.var 4)])]
noncomputable def Sy : Fd := ⟨4, 15, b12⟩
theorem QV : aR ["pool", "net", "plan", "last", "by", "more", "ways", "begin", "end", "room", "hours", "triples", "at", "way", "loads"] ["pool", "net", "plan", "last"] (aD s12) := ⟨rfl, rfl, rfl, by decide +kernel, rfl, by decide +kernel, by decide +kernel⟩
include cl in
theorem d12 (Fu : jE K "_law_grown" "_law_grown" s12 f fd) (eU : mg "tuple" = none) (aB : aC Pg w K mg base k c 4 "_law_next" 2) :
 cF Pg w K mg base iZ (k + 1) f fd ["pool", "net", "plan", "last"] (jF K 4 (fun args => enter c n Sy args)) := by
 refine cG Fu QV rfl rfl fun cdv A outer s H E hr => ?_
 have nd := QV.nd
 refine aj ?_ ?_
 . (with_reducible refine cX ?_ ?_ ?_); exact aZ fj (dU aB hr (aY (sv 0) (aY ak aG rfl) rfl)) ak (aV _); (· (with_reducible refine aj ?_ ?_); (· (with_reducible refine aX ?_); exact cg (cV (sv 1) (cV (sv 2) (cV (sv 3) aL rfl) rfl) rfl)); exact au); exact au
 with_reducible refine aj ?_ ?_
 . (with_reducible refine aK (i := 4) ?_ ?_ ?_ ?_ ?_ ?_); exact nd; exact rfl; exact oi; rotate_left; rfl; exact oi; exact az aU ak (dU aB hr (aY (sv 0) (aY ak aG rfl) rfl))
 with_reducible refine aj ?_ ?_
 . (with_reducible refine aK (i := 5) ?_ ?_ ?_ ?_ ?_ ?_); exact nd; exact rfl; exact oi; rotate_left; rfl; exact oi; exact az aU ak (dU aB hr (aY (sv 0) (aY (az my ak ak) aG rfl) rfl))
 with_reducible refine aj ?_ ?_
 . (with_reducible refine aK (i := 6) ?_ ?_ ?_ ?_ ?_ ?_); exact nd; exact rfl; exact oi; rotate_left; rfl; exact oi; exact bT aL
 with_reducible refine aj ?_ ?_
 . exact (qP PassesOwn.never hc (bR (aA (sv 1) ak)) (fO hc (aH (aF (i := 7) nd rfl (Or.inl rfl) (Or.inl rfl)) (aH (aF (i := 8) nd rfl (Or.inl rfl) (Or.inl rfl)) (aH (aF (i := 9) nd rfl (Or.inl rfl) (Or.inl rfl)) (aH (aF (i := 10) nd rfl (Or.inl rfl) (Or.inl rfl)) dH))))) (jm rfl (bf _ _ (bf _ _ (bf _ _ (bf _ _ gH 10) 9) 8) 7)) (by (with_reducible refine aj ?_ ?_); exact bM (k := 6) rfl (by first | exact Or.inl rfl | exact Or.inr (Or.inl rfl)) (cg (cV (sv 7) (cV (sv 8) (cV (az dF (sv 9) (sv 5)) (cV (az dF (sv 10) (sv 4)) aL rfl) rfl) rfl) rfl)); exact au))
 with_reducible refine aj ?_ ?_
 . (with_reducible refine aK (i := 11) ?_ ?_ ?_ ?_ ?_ ?_); exact nd; exact rfl; exact oi; rotate_left; rfl; exact oi; exact bT aL
 with_reducible refine aj ?_ ?_
 . exact (qP PassesOwn.never hc (bR (sv 2)) (fO hc (aH (aF (i := 12) nd rfl (Or.inl rfl) (Or.inl rfl)) (aH (aF (i := 13) nd rfl (Or.inl rfl) (Or.inl rfl)) (aH (aF (i := 14) nd rfl (Or.inl rfl) (Or.inl rfl)) dH)))) (jm rfl (bf _ _ (bf _ _ (bf _ _ gH 14) 13) 12)) (by (with_reducible refine aj ?_ ?_); exact bM (k := 11) rfl (by first | exact Or.inl rfl | exact Or.inr (Or.inl rfl)) (cg (cV (az dF (sv 12) (sv 4)) (cV (sv 13) (cV (az dF (sv 14) (sv 5)) aL rfl) rfl) rfl)); exact au))
 with_reducible refine aj ?_ ?_
 . (with_reducible refine aX ?_); exact cg (cV (cg (cV (aA (sv 1) ak) (cV (uB rfl (by rfl) eU (sv 6)) aL rfl) rfl)) (cV (sv 11) (cV (az dF (sv 3) (sv 4)) aL rfl) rfl) rfl)
 exact au
noncomputable abbrev qj := top 15
noncomputable def b13 : List S := [
 .ifs (.or (.not (.inst [.list] (.var 0))) (.cmp .ne (.var 0) (.var 1))) [.ret (.con (.bl false))] [], 
 .gV (.var 0) [2] true [.ifs (.or (.not (.inst [.tuple] (.var 2))) (.blt .any [.comp (.var 2) 1 [3] true none (.inst [.bool] (.var 3))])) [.ret (.con (.bl false))] []], 
 .ret (.con (.bl true))]
noncomputable def RP : Fd := ⟨2, 3, b13⟩
theorem Q8 : aR ["found", "due", "triple"] ["found", "due"] (aD qj) := ⟨rfl, rfl, rfl, by decide +kernel, rfl, by decide +kernel, by decide +kernel⟩
include cl in
theorem d13 (Fu : jE K "_law_plan_like" "_law_plan_like" qj f fd) (BX : mg "any" = none) (v9 : mg "bool" = none) (dm : mg "isinstance" = none) (dY : mg "list" = none) (eU : mg "tuple" = none) :
 cF Pg w K mg base iZ (k + 1) f fd ["found", "due"] (jF K 2 (fun args => enter c n RP args)) := by
 refine cG Fu Q8 rfl rfl fun cdv A outer s H E hr => ?_
 have nd := Q8.nd
 refine aj ?_ ?_
 . (with_reducible refine cX ?_ ?_ ?_); exact SW.st (sS (lG (jt (mW .list rfl (by rfl) dm (sv 0) (by rfl) dY (by kernel_rfl) (by decide) (by rfl)))) (m9 (aZ (kW (cL hr)) (sv 0) (sv 1) (aV _)))); (· (with_reducible refine aj ?_ ?_); (· (with_reducible refine aX ?_); exact jV); exact au); exact au
 with_reducible refine aj ?_ ?_
 . (with_reducible refine cY (i := 2) ?_ ?_ ?_ ?_ ?_ ?_ ?_ ?_ ?_); exact PassesOwn.never; exact hc; exact nd; exact rfl; exact oi; exact bR (sv 0); (· (with_reducible refine aj ?_ ?_); (· (with_reducible refine cX ?_ ?_ ?_); exact SW.st (sS (lG (jt (mW .tuple rfl (by rfl) dm (sv 2) (by rfl) eU (by kernel_rfl) (by decide) (by rfl)))) (m9 (jt (Hr rfl hc (by rfl) BX (eO (N' := ["found", "due", "triple", "number"]) hc (xX rfl (by rfl)) (bR (sv 2)) (fun _ _ _ _ _ => aF (i := 3) (show (["found", "due", "triple", "number"] : List Str).Nodup by decide +kernel) rfl (Or.inl rfl) (Or.inr rfl)) (cM (Nat.le_refl _)) (fun _ _ _ _ _ => iR) (fun _ _ _ _ _ => (mW .bool rfl (by rfl) dm (sv 3) (by rfl) v9 (by kernel_rfl) (by decide) (by rfl)))))))); (· (with_reducible refine aj ?_ ?_); (· (with_reducible refine aX ?_); exact jV); exact au); exact au); exact au); (· intro _; rfl); exact Or.inl rfl
 with_reducible refine aj ?_ ?_
 . (with_reducible refine aX ?_); exact jV
 exact au
noncomputable abbrev Ms := top 17
noncomputable def b14 : List S := [
 .asg 4 (.comp (.var 1) 1 [5] true (some (.cmp .eq (.slice (.var 5) (.con .non) (.con (.int 2))) (.tup [.var 2, .var 3]))) (.idx (.var 5) (.con (.int 2)))), 
 .ret (.bin .sub (.idx (.idx (.idx (.var 0) (.con (.int 1))) (.var 3)) (.con (.int 2))) (.blt .sum [.var 4]))]
noncomputable def RT : Fd := ⟨4, 5, b14⟩
theorem O9 : aR ["net", "plan", "hour", "way", "gone"] ["net", "plan", "hour", "way"] (aD Ms) := ⟨rfl, rfl, rfl, by decide +kernel, rfl, by decide +kernel, by decide +kernel⟩
include cl in
theorem d14 (Fu : jE K "_law_free" "_law_free" Ms f fd) (kE : mg "sum" = none) :
 cF Pg w K mg base iZ (k + 1) f fd ["net", "plan", "hour", "way"] (jF K 4 (fun args => enter c n RT args)) := by
 refine cG Fu O9 rfl rfl fun cdv A outer s H E hr => ?_
 have nd := O9.nd
 refine aj ?_ ?_
 . exact (mL (i := 4) (N' := ["net", "plan", "hour", "way", "gone", "one"]) hc nd rfl (Or.inl rfl) (xX rfl (by rfl)) (bR (sv 1)) (fun _ _ _ _ _ => aF (i := 5) (show (["net", "plan", "hour", "way", "gone", "one"] : List Str).Nodup by decide +kernel) rfl (Or.inl rfl) (Or.inr rfl)) (cM (Nat.le_refl _)) (fun _ _ _ _ _ => gR (aZ (jl (cL hr)) (nW (sv 5) rF (qZ ak)) (cg (cV (sv 2) (cV (sv 3) aL rfl) rfl)) (aV _))) (fun _ _ _ _ _ => (aA (sv 5) ak)) (by rfl) (by intro _; rfl) (Or.inl rfl))
 with_reducible refine aj ?_ ?_
 . (with_reducible refine aX ?_); exact az eE (aA (aA (aA (sv 0) ak) (sv 3)) ak) (uZ rfl hc (by rfl) kE (sv 4))
 exact au
noncomputable abbrev Vj := top 18
noncomputable def b15 : List S := [
 .asg 5 (.lst []), 
 .gV (.v5 (.con (.int 0)) (.blt .len [.idx (.var 0) (.con (.int 1))])) [6] true [.NB [7, 8, 9, 10] (.idx (.idx (.var 0) (.con (.int 1))) (.var 6)), .ifs (.and (.cmp .eq (.var 7) (.var 4)) (.and (.cmp .gt (.var 8) (.con (.int 0))) (.cmp .le (.bin .add (.var 3) (.var 10)) (.var 1)))) [.ifs (.cmp .gt (.call 14 [.var 0, .var 2, .var 3, .var 6]) (.con (.int 0))) [.app 5 (.var 6)] []] []], 
 .ret (.var 5)]
noncomputable def Sq : Fd := ⟨5, 11, b15⟩
theorem Pz : aR ["net", "last", "plan", "hour", "here", "found", "way", "begin", "end", "room", "hours"] ["net", "last", "plan", "hour", "here"] (aD Vj) := ⟨rfl, rfl, rfl, by decide +kernel, rfl, by decide +kernel, by decide +kernel⟩
include cl in
theorem d15 (Fu : jE K "_law_open" "_law_open" Vj f fd) (gn : mg "len" = none) (bG : mg "range" = none) (iz : aC Pg w K mg base k c 14 "_law_free" 4) :
 cF Pg w K mg base iZ (k + 1) f fd ["net", "last", "plan", "hour", "here"] (jF K 5 (fun args => enter c n Sq args)) := by
 refine cG Fu Pz rfl rfl fun cdv A outer s H E hr => ?_
 have nd := Pz.nd
 refine aj ?_ ?_
 . (with_reducible refine aK (i := 5) ?_ ?_ ?_ ?_ ?_ ?_); exact nd; exact rfl; exact oi; rotate_left; rfl; exact oi; exact bT aL
 with_reducible refine aj ?_ ?_
 . (with_reducible refine cY (i := 6) ?_ ?_ ?_ ?_ ?_ ?_ ?_ ?_ ?_); exact PassesOwn.never; exact hc; exact nd; exact rfl; exact oi; exact iI rfl (by rfl) bG (mX rfl (by rfl) gn (aA (sv 0) ak)); (· (with_reducible refine aj ?_ ?_); exact qO (aA (aA (sv 0) ak) (sv 6)) (fO hc (aH (aF (i := 7) nd rfl (Or.inl rfl) (Or.inl rfl)) (aH (aF (i := 8) nd rfl (Or.inl rfl) (Or.inl rfl)) (aH (aF (i := 9) nd rfl (Or.inl rfl) (Or.inl rfl)) (aH (aF (i := 10) nd rfl (Or.inl rfl) (Or.inl rfl)) dH))))) (jm rfl (bf _ _ (bf _ _ (bf _ _ (bf _ _ gH 10) 9) 8) 7)); (· (with_reducible refine aj ?_ ?_); (· (with_reducible refine cX ?_ ?_ ?_); exact SW.st (ji (aZ (jl (cL hr)) (sv 7) (sv 4) (aV _)) (ji (aZ fj (sv 8) ak (aV _)) (iB (aZ nT (az aU (sv 3) (sv 10)) (sv 1) (aV _))))); (· (with_reducible refine aj ?_ ?_); (· (with_reducible refine cX ?_ ?_ ?_); exact aZ fj (dU iz hr (aY (sv 0) (aY (sv 2) (aY (sv 3) (aY (sv 6) aG rfl) rfl) rfl) rfl)) ak (aV _); (· (with_reducible refine aj ?_ ?_); exact bM (k := 5) rfl (by first | exact Or.inl rfl | exact Or.inr (Or.inl rfl)) (sv 6); exact au); exact au); exact au); exact au); exact au)); (· intro _; rfl); exact Or.inl rfl
 with_reducible refine aj ?_ ?_
 . (with_reducible refine aX ?_); exact sv 5
 exact au
noncomputable abbrev UT := top 19
noncomputable def b16 : List S := [
 .asg 4 (.con (.int 0)), 
 .asg 5 (.con (.int 0)), 
 .asg 6 (.lst []), 
 .gV (.v5 (.con (.int 0)) (.con (.int 9))) [7] true [.asg 5 (.bin .add (.var 5) (.idx (.lst [.con (.int 0), .con (.int 0), .con (.int 1), .con (.int 0), .con (.int 2), .con (.int 1)]) (.call 4 [.var 0, .con (.int 6)]))), .asg 8 (.call 15 [.var 1, .var 2, .var 3, .var 5, .var 4]), .ifs (.and (.cmp .ne (.var 8) (.lst [])) (.cmp .lt (.var 4) (.bin .sub (.idx (.var 1) (.con (.int 0))) (.con (.int 1))))) [.asg 9 (.idx (.var 8) (.call 4 [.var 0, .blt .len [.var 8]])), .app 6 (.tup [.var 5, .var 9]), .asg 5 (.bin .add (.var 5) (.idx (.idx (.idx (.var 1) (.con (.int 1))) (.var 9)) (.con (.int 3)))), .asg 4 (.idx (.idx (.idx (.var 1) (.con (.int 1))) (.var 9)) (.con (.int 1)))] []], 
 .ifs (.cmp .lt (.var 4) (.bin .sub (.idx (.var 1) (.con (.int 0))) (.con (.int 1)))) [.ret (.lst [])] [], 
 .asg 10 (.blt .BR [.comp (.var 6) 2 [12, 13] false none (.call 14 [.var 1, .var 3, .var 12, .var 13])]), 
 .asg 11 (.bin .add (.con (.int 1)) (.call 4 [.var 0, .var 10])), 
 .ret (.comp (.var 6) 2 [12, 13] false none (.tup [.var 12, .var 13, .var 11]))]
noncomputable def R3 : Fd := ⟨4, 12, b16⟩
theorem O3 : aR ["pool", "net", "last", "plan", "here", "hour", "found", "turn", "some", "way", "least", "loads"] ["pool", "net", "last", "plan"] (aD UT) := ⟨rfl, rfl, rfl, by decide +kernel, rfl, by decide +kernel, by decide +kernel⟩
include cl in
theorem d16 (Fu : jE K "_law_journey" "_law_journey" UT f fd) (gn : mg "len" = none) (qe : mg "min" = none) (bG : mg "range" = none) (iz : aC Pg w K mg base k c 14 "_law_free" 4) (aB : aC Pg w K mg base k c 4 "_law_next" 2) (uJ : aC Pg w K mg base k c 15 "_law_open" 5) :
 cF Pg w K mg base iZ (k + 1) f fd ["pool", "net", "last", "plan"] (jF K 4 (fun args => enter c n R3 args)) := by
 refine cG Fu O3 rfl rfl fun cdv A outer s H E hr => ?_
 have nd := O3.nd
 refine aj ?_ ?_
 . (with_reducible refine aK (i := 4) ?_ ?_ ?_ ?_ ?_ ?_); exact nd; exact rfl; exact oi; rotate_left; rfl; exact oi; exact ak
 with_reducible refine aj ?_ ?_
 . (with_reducible refine aK (i := 5) ?_ ?_ ?_ ?_ ?_ ?_); exact nd; exact rfl; exact oi; rotate_left; rfl; exact oi; exact ak
 with_reducible refine aj ?_ ?_
 . (with_reducible refine aK (i := 6) ?_ ?_ ?_ ?_ ?_ ?_); exact nd; exact rfl; exact oi; rotate_left; rfl; exact oi; exact bT aL
 with_reducible refine aj ?_ ?_
 . (with_reducible refine cY (i := 7) ?_ ?_ ?_ ?_ ?_ ?_ ?_ ?_ ?_); exact PassesOwn.never; exact hc; exact nd; exact rfl; exact oi; exact iI rfl (by rfl) bG ak; (· (with_reducible refine aj ?_ ?_); (· (with_reducible refine aK (i := 5) ?_ ?_ ?_ ?_ ?_ ?_); exact nd; exact rfl; exact oi; rotate_left; rfl; exact oi; exact az aU (sv 5) (aA (bT (fM [0, 0, 1, 0, 2, 1] rfl aL)) (dU aB hr (aY (sv 0) (aY ak aG rfl) rfl)))); (· (with_reducible refine aj ?_ ?_); (· (with_reducible refine aK (i := 8) ?_ ?_ ?_ ?_ ?_ ?_); exact nd; exact rfl; exact oi; rotate_left; rfl; exact oi; exact dU uJ hr (aY (sv 1) (aY (sv 2) (aY (sv 3) (aY (sv 5) (aY (sv 4) aG rfl) rfl) rfl) rfl) rfl)); (· (with_reducible refine aj ?_ ?_); (· (with_reducible refine cX ?_ ?_ ?_); exact SW.st (ji (aZ (kW (cL hr)) (sv 8) (bT aL) (aV _)) (iB (aZ (uY (cL hr)) (sv 4) (az eE (aA (sv 1) ak) ak) (aV _)))); (· (with_reducible refine aj ?_ ?_); (· (with_reducible refine aK (i := 9) ?_ ?_ ?_ ?_ ?_ ?_); exact nd; exact rfl; exact oi; rotate_left; rfl; exact oi; exact aA (sv 8) (dU aB hr (aY (sv 0) (aY (mX rfl (by rfl) gn (sv 8)) aG rfl) rfl))); (· (with_reducible refine aj ?_ ?_); exact bM (k := 6) rfl (by first | exact Or.inl rfl | exact Or.inr (Or.inl rfl)) (cg (cV (sv 5) (cV (sv 9) aL rfl) rfl)); (· (with_reducible refine aj ?_ ?_); (· (with_reducible refine aK (i := 5) ?_ ?_ ?_ ?_ ?_ ?_); exact nd; exact rfl; exact oi; rotate_left; rfl; exact oi; exact az aU (sv 5) (aA (aA (aA (sv 1) ak) (sv 9)) ak)); (· (with_reducible refine aj ?_ ?_); (· (with_reducible refine aK (i := 4) ?_ ?_ ?_ ?_ ?_ ?_); exact nd; exact rfl; exact oi; rotate_left; rfl; exact oi; exact aA (aA (aA (sv 1) ak) (sv 9)) ak); exact au)))); exact au); exact au))); (· intro _; rfl); exact Or.inl rfl
 with_reducible refine aj ?_ ?_
 . (with_reducible refine cX ?_ ?_ ?_); exact aZ (uY (cL hr)) (sv 4) (az eE (aA (sv 1) ak) ak) (aV _); (· (with_reducible refine aj ?_ ?_); (· (with_reducible refine aX ?_); exact bT aL); exact au); exact au
 with_reducible refine aj ?_ ?_
 . (with_reducible refine aK (i := 10) ?_ ?_ ?_ ?_ ?_ ?_); exact nd; exact rfl; exact oi; rotate_left; rfl; exact oi; exact Et rfl hc (by rfl) qe (eO (N' := ["pool", "net", "last", "plan", "here", "hour", "found", "turn", "some", "way#9", "least", "loads", "at", "way"]) hc (xX rfl (by rfl)) (bR (sv 6)) (fun _ _ _ _ _ => fO hc (aH (aF (i := 12) (show (["pool", "net", "last", "plan", "here", "hour", "found", "turn", "some", "way#9", "least", "loads", "at", "way"] : List Str).Nodup by decide +kernel) rfl (Or.inl rfl) (Or.inr rfl)) (aH (aF (i := 13) (show (["pool", "net", "last", "plan", "here", "hour", "found", "turn", "some", "way#9", "least", "loads", "at", "way"] : List Str).Nodup by decide +kernel) rfl (Or.inl rfl) (Or.inr rfl)) dH))) (qD rfl (fu (show 12 <= 12 by decide) (fu (show 12 <= 13 by decide) rz))) (fun _ _ _ _ _ => iR) (fun _ _ _ _ _ => (dU iz hr (aY (sv 1) (aY (sv 3) (aY (sv 12) (aY (sv 13) aG rfl) rfl) rfl) rfl))))
 with_reducible refine aj ?_ ?_
 . (with_reducible refine aK (i := 11) ?_ ?_ ?_ ?_ ?_ ?_); exact nd; exact rfl; exact Or.inr rfl; rotate_left; rfl; exact oi; exact az aU ak (dU aB hr (aY (sv 0) (aY (sv 10) aG rfl) rfl))
 with_reducible refine aj ?_ ?_
 . (with_reducible refine aX ?_); exact eO (N' := ["pool", "net", "last", "plan", "here", "hour", "found", "turn", "some", "way#9", "least", "loads", "at", "way"]) hc (xX rfl (by rfl)) (bR (sv 6)) (fun _ _ _ _ _ => fO hc (aH (aF (i := 12) (show (["pool", "net", "last", "plan", "here", "hour", "found", "turn", "some", "way#9", "least", "loads", "at", "way"] : List Str).Nodup by decide +kernel) rfl (Or.inl rfl) (Or.inr rfl)) (aH (aF (i := 13) (show (["pool", "net", "last", "plan", "here", "hour", "found", "turn", "some", "way#9", "least", "loads", "at", "way"] : List Str).Nodup by decide +kernel) rfl (Or.inl rfl) (Or.inr rfl)) dH))) (qD rfl (fu (show 12 <= 12 by decide) (fu (show 12 <= 13 by decide) rz))) (fun _ _ _ _ _ => iR) (fun _ _ _ _ _ => (cg (cV (sv 12) (cV (sv 13) (cV (sv 11) aL rfl) rfl) rfl)))
 exact au
noncomputable abbrev Ur := top 20
noncomputable def b17 : List S := [
 .asg 1 (.lst []), 
 .gV (.blt .sorted [.var 0]) [2, 3, 4] false [.ifs (.and (.cmp .ne (.var 1) (.lst [])) (.cmp .eq (.slice (.idx (.var 1) (.neg (.con (.int 1)))) (.con .non) (.con (.int 2))) (.tup [.var 2, .var 3]))) [.yO 1 (.neg (.con (.int 1))) (.tup [.var 2, .var 3, .bin .add (.idx (.idx (.var 1) (.neg (.con (.int 1)))) (.con (.int 2))) (.var 4)])] [.app 1 (.tup [.var 2, .var 3, .var 4])]], 
 .ret (.var 1)]
noncomputable def RV : Fd := ⟨1, 5, b17⟩
theorem Ou : aR ["triples", "found", "at", "way", "loads"] ["triples"] (aD Ur) := ⟨rfl, rfl, rfl, by decide +kernel, rfl, by decide +kernel, by decide +kernel⟩
include cl in
theorem d17 (Fu : jE K "_law_joined" "_law_joined" Ur f fd) (bC : mg "sorted" = none) :
 cF Pg w K mg base iZ (k + 1) f fd ["triples"] (jF K 1 (fun args => enter c n RV args)) := by
 refine cG Fu Ou rfl rfl fun cdv A outer s H E hr => ?_
 have nd := Ou.nd
 refine aj ?_ ?_
 . (with_reducible refine aK (i := 1) ?_ ?_ ?_ ?_ ?_ ?_); exact nd; exact rfl; exact oi; rotate_left; rfl; exact oi; exact bT aL
 with_reducible refine aj ?_ ?_
 . exact (qP PassesOwn.never hc (bR (gj rfl (by rfl) bC (sv 0))) (fO hc (aH (aF (i := 2) nd rfl (Or.inl rfl) (Or.inl rfl)) (aH (aF (i := 3) nd rfl (Or.inl rfl) (Or.inl rfl)) (aH (aF (i := 4) nd rfl (Or.inl rfl) (Or.inl rfl)) dH)))) (jm rfl (bf _ _ (bf _ _ (bf _ _ gH 4) 3) 2)) (by (with_reducible refine aj ?_ ?_); (· (with_reducible refine cX ?_ ?_ ?_); exact SW.st (ji (aZ (kW (cL hr)) (sv 1) (bT aL) (aV _)) (iB (aZ (jl (cL hr)) (nW (aA (sv 1) (oK ak)) rF (qZ ak)) (cg (cV (sv 2) (cV (sv 3) aL rfl) rfl)) (aV _)))); (· (with_reducible refine aj ?_ ?_); exact mq (k := 1) rfl (by first | exact Or.inl rfl | exact Or.inr (Or.inl rfl)) (oK ak) (cg (cV (sv 2) (cV (sv 3) (cV (az aU (aA (aA (sv 1) (oK ak)) ak) (sv 4)) aL rfl) rfl) rfl)); exact au); (· (with_reducible refine aj ?_ ?_); exact bM (k := 1) rfl (by first | exact Or.inl rfl | exact Or.inr (Or.inl rfl)) (cg (cV (sv 2) (cV (sv 3) (cV (sv 4) aL rfl) rfl) rfl)); exact au)); exact au))
 with_reducible refine aj ?_ ?_
 . (with_reducible refine aX ?_); exact sv 1
 exact au
noncomputable abbrev Uy := top 21
noncomputable def b18 : List S := [
 .asg 3 (.lst []), 
 .gV (.v5 (.con (.int 0)) (.bin .add (.con (.int 1)) (.call 4 [.var 0, .con (.int 5)]))) [4] true [.asg 3 (.bin .add (.var 3) (.call 16 [.var 0, .var 1, .var 2, .var 3]))], 
 .ret (.call 17 [.var 3])]
noncomputable def R0 : Fd := ⟨3, 5, b18⟩
theorem Ra : aR ["pool", "net", "last", "found", "turn"] ["pool", "net", "last"] (aD Uy) := ⟨rfl, rfl, rfl, by decide +kernel, rfl, by decide +kernel, by decide +kernel⟩
include cl in
theorem d18 (Fu : jE K "_law_clean_plan" "_law_clean_plan" Uy f fd) (bG : mg "range" = none) (pg : aC Pg w K mg base k c 17 "_law_joined" 1) (oO : aC Pg w K mg base k c 16 "_law_journey" 4) (aB : aC Pg w K mg base k c 4 "_law_next" 2) :
 cF Pg w K mg base iZ (k + 1) f fd ["pool", "net", "last"] (jF K 3 (fun args => enter c n R0 args)) := by
 refine cG Fu Ra rfl rfl fun cdv A outer s H E hr => ?_
 have nd := Ra.nd
 refine aj ?_ ?_
 . (with_reducible refine aK (i := 3) ?_ ?_ ?_ ?_ ?_ ?_); exact nd; exact rfl; exact oi; rotate_left; rfl; exact oi; exact bT aL
 with_reducible refine aj ?_ ?_
 . (with_reducible refine cY (i := 4) ?_ ?_ ?_ ?_ ?_ ?_ ?_ ?_ ?_); exact PassesOwn.never; exact hc; exact nd; exact rfl; exact oi; exact iI rfl (by rfl) bG (az aU ak (dU aB hr (aY (sv 0) (aY ak aG rfl) rfl))); (· (with_reducible refine aj ?_ ?_); (· (with_reducible refine aK (i := 3) ?_ ?_ ?_ ?_ ?_ ?_); exact nd; exact rfl; exact oi; rotate_left; rfl; exact oi; exact az aU (sv 3) (dU oO hr (aY (sv 0) (aY (sv 1) (aY (sv 2) (aY (sv 3) aG rfl) rfl) rfl) rfl))); exact au); (· intro _; rfl); exact Or.inl rfl
 with_reducible refine aj ?_ ?_
 . (with_reducible refine aX ?_); exact dU pg hr (aY (sv 3) aG rfl)
 exact au
noncomputable abbrev V3 := top 22
noncomputable def b19 : List S := [
 .asg 3 (.comp (.var 1) 1 [6] true (some (.cmp .le (.call 8 [.var 0, .var 6]) (.var 2))) (.var 6)), 
 .asg 4 (.blt .list [.var 1]), 
 .asg 5 (.call 1 [.var 0, .var 4, .var 2]), 
 .ifs (.or (.not (.call 13 [.var 5, .var 3])) (.cmp .ne (.var 4) (.var 1))) [.ret (.con (.bl false))] [], 
 .app 5 (.tup [.con (.int 0), .con (.int 0), .con (.int 1)]), 
 .ret (.and (.cmp .eq (.var 4) (.var 1)) (.call 13 [.call 1 [.var 0, .var 4, .var 2], .var 3]))]
noncomputable def S8 : Fd := ⟨3, 6, b19⟩
theorem Qs : aR ["net", "plan", "hour", "due", "handed", "found"] ["net", "plan", "hour"] (aD V3) := ⟨rfl, rfl, rfl, by decide +kernel, rfl, by decide +kernel, by decide +kernel⟩
include cl in
theorem d19 (Fu : jE K "_law_till_right" "_law_till_right" V3 f fd) (dY : mg "list" = none) (cQ : aC Pg w K mg base k c 8 "_law_out" 2) (bU : aC Pg w K mg base k c 13 "_law_plan_like" 2) (lU : aC Pg w K mg base k c 1 "plan_till" 3) :
 cF Pg w K mg base iZ (k + 1) f fd ["net", "plan", "hour"] (jF K 3 (fun args => enter c n S8 args)) := by
 refine cG Fu Qs rfl rfl fun cdv A outer s H E hr => ?_
 have nd := Qs.nd
 refine aj ?_ ?_
 . exact (mL (i := 3) (N' := ["net", "plan", "hour", "due", "handed", "found", "triple"]) hc nd rfl (Or.inl rfl) (xX rfl (by rfl)) (bR (sv 1)) (fun _ _ _ _ _ => aF (i := 6) (show (["net", "plan", "hour", "due", "handed", "found", "triple"] : List Str).Nodup by decide +kernel) rfl (Or.inl rfl) (Or.inr rfl)) (cM (Nat.le_refl _)) (fun _ _ _ _ _ => gR (aZ nT (dU cQ hr (aY (sv 0) (aY (sv 6) aG rfl) rfl)) (sv 2) (aV _))) (fun _ _ _ _ _ => (sv 6)) (by rfl) (by intro _; rfl) (Or.inl rfl))
 with_reducible refine aj ?_ ?_
 . (with_reducible refine aK (i := 4) ?_ ?_ ?_ ?_ ?_ ?_); exact nd; exact rfl; exact oi; rotate_left; rfl; exact oi; exact rm rfl (by rfl) dY (sv 1)
 with_reducible refine aj ?_ ?_
 . (with_reducible refine aK (i := 5) ?_ ?_ ?_ ?_ ?_ ?_); exact nd; exact rfl; exact oi; rotate_left; rfl; exact oi; exact dU lU hr (aY (sv 0) (aY (sv 4) (aY (sv 2) aG rfl) rfl) rfl)
 with_reducible refine aj ?_ ?_
 . (with_reducible refine cX ?_ ?_ ?_); exact SW.st (sS (lG (jt (dU bU hr (aY (sv 5) (aY (sv 3) aG rfl) rfl)))) (m9 (aZ (kW (cL hr)) (sv 4) (sv 1) (aV _)))); (· (with_reducible refine aj ?_ ?_); (· (with_reducible refine aX ?_); exact jV); exact au); exact au
 with_reducible refine aj ?_ ?_
 . exact (bM (k := 5) rfl (by first | exact Or.inl rfl | exact Or.inr (Or.inl rfl)) (cg (fM [0, 0, 1] rfl aL)))
 with_reducible refine aj ?_ ?_
 . (with_reducible refine aX ?_); exact Ip (J9 (jl (cL hr)) (sv 4) (sv 1) (aV _)) (Er (dU bU hr (aY (dU lU hr (aY (sv 0) (aY (sv 4) (aY (sv 2) aG rfl) rfl) rfl)) (aY (sv 3) aG rfl) rfl)))
 exact au
noncomputable abbrev VF := top 23
noncomputable def b20 : List S := [
 .asg 3 (.lst []), 
 .gV (.var 2) [4] true [.app 3 (.tup [.bin .sub (.var 1) (.call 8 [.var 0, .var 4]), .idx (.var 4) (.con (.int 1)), .idx (.var 4) (.con (.int 2))])], 
 .asg 5 (.blt .list [.var 2]), 
 .asg 6 (.call 2 [.var 0, .var 1, .var 5]), 
 .ifs (.or (.not (.call 13 [.var 6, .blt .sorted [.var 3]])) (.cmp .ne (.var 5) (.var 2))) [.ret (.con (.bl false))] [], 
 .app 6 (.tup [.con (.int 0), .con (.int 0), .con (.int 1)]), 
 .ifs (.cmp .ne (.var 5) (.var 2)) [.ret (.con (.bl false))] [], 
 .ret (.call 13 [.call 2 [.var 0, .var 1, .var 5], .blt .sorted [.var 3]])]
noncomputable def Tw : Fd := ⟨3, 7, b20⟩
theorem QT : aR ["net", "last", "plan", "due", "triple", "handed", "found"] ["net", "last", "plan"] (aD VF) := ⟨rfl, rfl, rfl, by decide +kernel, rfl, by decide +kernel, by decide +kernel⟩
include cl in
theorem d20 (Fu : jE K "_law_turned_right" "_law_turned_right" VF f fd) (dY : mg "list" = none) (bC : mg "sorted" = none) (cQ : aC Pg w K mg base k c 8 "_law_out" 2) (bU : aC Pg w K mg base k c 13 "_law_plan_like" 2) (jg : aC Pg w K mg base k c 2 "turned_plan" 3) :
 cF Pg w K mg base iZ (k + 1) f fd ["net", "last", "plan"] (jF K 3 (fun args => enter c n Tw args)) := by
 refine cG Fu QT rfl rfl fun cdv A outer s H E hr => ?_
 have nd := QT.nd
 refine aj ?_ ?_
 . (with_reducible refine aK (i := 3) ?_ ?_ ?_ ?_ ?_ ?_); exact nd; exact rfl; exact oi; rotate_left; rfl; exact oi; exact bT aL
 with_reducible refine aj ?_ ?_
 . (with_reducible refine cY (i := 4) ?_ ?_ ?_ ?_ ?_ ?_ ?_ ?_ ?_); exact PassesOwn.never; exact hc; exact nd; exact rfl; exact oi; exact bR (sv 2); (· (with_reducible refine aj ?_ ?_); exact bM (k := 3) rfl (by first | exact Or.inl rfl | exact Or.inr (Or.inl rfl)) (cg (cV (az eE (sv 1) (dU cQ hr (aY (sv 0) (aY (sv 4) aG rfl) rfl))) (cV (aA (sv 4) ak) (cV (aA (sv 4) ak) aL rfl) rfl) rfl)); exact au); (· intro _; rfl); exact Or.inl rfl
 with_reducible refine aj ?_ ?_
 . (with_reducible refine aK (i := 5) ?_ ?_ ?_ ?_ ?_ ?_); exact nd; exact rfl; exact oi; rotate_left; rfl; exact oi; exact rm rfl (by rfl) dY (sv 2)
 with_reducible refine aj ?_ ?_
 . (with_reducible refine aK (i := 6) ?_ ?_ ?_ ?_ ?_ ?_); exact nd; exact rfl; exact oi; rotate_left; rfl; exact oi; exact dU jg hr (aY (sv 0) (aY (sv 1) (aY (sv 5) aG rfl) rfl) rfl)
 with_reducible refine aj ?_ ?_
 . (with_reducible refine cX ?_ ?_ ?_); exact SW.st (sS (lG (jt (dU bU hr (aY (sv 6) (aY (gj rfl (by rfl) bC (sv 3)) aG rfl) rfl)))) (m9 (aZ (kW (cL hr)) (sv 5) (sv 2) (aV _)))); (· (with_reducible refine aj ?_ ?_); (· (with_reducible refine aX ?_); exact jV); exact au); exact au
 with_reducible refine aj ?_ ?_
 . exact (bM (k := 6) rfl (by first | exact Or.inl rfl | exact Or.inr (Or.inl rfl)) (cg (fM [0, 0, 1] rfl aL)))
 with_reducible refine aj ?_ ?_
 . (with_reducible refine cX ?_ ?_ ?_); exact aZ (kW (cL hr)) (sv 5) (sv 2) (aV _); (· (with_reducible refine aj ?_ ?_); (· (with_reducible refine aX ?_); exact jV); exact au); exact au
 with_reducible refine aj ?_ ?_
 . (with_reducible refine aX ?_); exact dU bU hr (aY (dU jg hr (aY (sv 0) (aY (sv 1) (aY (sv 5) aG rfl) rfl) rfl)) (aY (gj rfl (by rfl) bC (sv 3)) aG rfl) rfl)
 exact au
noncomputable abbrev Vf := top 24
noncomputable def b21 : List S := [
 .gV (.bin .add (.lst [.con (.int 0)]) (.call 5 [.var 0, .con (.int 12)])) [1] true [.asg 2 (.call 3 [.var 1]), .asg 3 (.call 7 [.var 2]), .asg 4 (.bin .add (.con (.int 1)) (.call 4 [.var 2, .con (.int 8)])), .asg 5 (.call 11 [.var 2, .var 3, .var 4, .con (.int 40)]), .NB [6, 5, 7] (.call 12 [.var 2, .var 3, .var 5, .var 4]), .asg 8 (.lst [.neg (.con (.int 1)), .var 7, .bin .add (.var 7) (.bin .pow (.con (.int 10)) (.con (.int 15)))]), .gV (.var 5) [9] true [.K9 8 (.comp (.lst [.neg (.con (.int 1)), .con (.int 0), .con (.int 1)]) 1 [11] true none (.bin .add (.call 8 [.var 6, .var 9]) (.var 11)))], .gV (.blt .sset [.var 8]) [10] true [.ifs (.not (.call 19 [.var 6, .var 5, .var 10])) [.ret (.con (.bl false))] []], .asg 5 (.call 18 [.var 2, .var 3, .var 4]), .NB [6, 5, 7] (.call 12 [.var 2, .var 3, .var 5, .var 4]), .ifs (.not (.call 20 [.var 6, .var 7, .var 5])) [.ret (.con (.bl false))] []], 
 .ret (.con (.bl true))]
noncomputable def Th : Fd := ⟨1, 11, b21⟩
theorem Q4 : aR ["script", "cell", "pool", "first", "hours", "plan", "net", "last", "asked", "triple", "hour"] ["script"] (aD Vf) := ⟨rfl, rfl, rfl, by decide +kernel, rfl, by decide +kernel, by decide +kernel⟩
include cl in
theorem Y6 (Fu : jE K "law" "law" Vf f fd) (xR : mg "set" = none) (bC : mg "sorted" = none) (rJ : aC Pg w K mg base k c 5 "_law_cells" 2) (kI : aC Pg w K mg base k c 18 "_law_clean_plan" 3) (kJ : aC Pg w K mg base k c 12 "_law_grown" 4) (wg : aC Pg w K mg base k c 7 "_law_net" 1) (aB : aC Pg w K mg base k c 4 "_law_next" 2) (cQ : aC Pg w K mg base k c 8 "_law_out" 2) (uK : aC Pg w K mg base k c 11 "_law_plan" 4) (uL : aC Pg w K mg base k c 3 "_law_pool" 1) (kO : aC Pg w K mg base k c 19 "_law_till_right" 3) (iW : aC Pg w K mg base k c 20 "_law_turned_right" 3) :
 cF Pg w K mg base iZ (k + 1) f fd ["script"] (jF K 1 (fun args => enter c n Th args)) := by
 refine cG Fu Q4 rfl rfl fun cdv A outer s H E hr => ?_
 have nd := Q4.nd
 refine aj ?_ ?_
 . (with_reducible refine cY (i := 1) ?_ ?_ ?_ ?_ ?_ ?_ ?_ ?_ ?_); exact PassesOwn.never; exact hc; exact nd; exact rfl; exact oi; exact bR (az aU (bT (cV ak aL rfl)) (dU rJ hr (aY (sv 0) (aY ak aG rfl) rfl))); (· (with_reducible refine aj ?_ ?_); (· (with_reducible refine aK (i := 2) ?_ ?_ ?_ ?_ ?_ ?_); exact nd; exact rfl; exact oi; rotate_left; rfl; exact oi; exact dU uL hr (aY (sv 1) aG rfl)); (· (with_reducible refine aj ?_ ?_); (· (with_reducible refine aK (i := 3) ?_ ?_ ?_ ?_ ?_ ?_); exact nd; exact rfl; exact oi; rotate_left; rfl; exact oi; exact dU wg hr (aY (sv 2) aG rfl)); (· (with_reducible refine aj ?_ ?_); (· (with_reducible refine aK (i := 4) ?_ ?_ ?_ ?_ ?_ ?_); exact nd; exact rfl; exact oi; rotate_left; rfl; exact oi; exact az aU ak (dU aB hr (aY (sv 2) (aY ak aG rfl) rfl))); (· (with_reducible refine aj ?_ ?_); (· (with_reducible refine aK (i := 5) ?_ ?_ ?_ ?_ ?_ ?_); exact nd; exact rfl; exact oi; rotate_left; rfl; exact oi; exact dU uK hr (aY (sv 2) (aY (sv 3) (aY (sv 4) (aY ak aG rfl) rfl) rfl) rfl)); (· (with_reducible refine aj ?_ ?_); exact qO (dU kJ hr (aY (sv 2) (aY (sv 3) (aY (sv 5) (aY (sv 4) aG rfl) rfl) rfl) rfl)) (fO hc (aH (aF (i := 6) nd rfl (Or.inr rfl) (Or.inl rfl)) (aH (aF (i := 5) nd rfl (Or.inl rfl) (Or.inl rfl)) (aH (aF (i := 7) nd rfl (Or.inl rfl) (Or.inl rfl)) dH)))) (jm rfl (bf _ _ (bf _ _ (bf _ _ gH 7) 5) 6)); (· (with_reducible refine aj ?_ ?_); (· (with_reducible refine aK (i := 8) ?_ ?_ ?_ ?_ ?_ ?_); exact nd; exact rfl; exact oi; rotate_left; rfl; exact oi; exact bT (cV (oK ak) (cV (sv 7) (cV (az aU (sv 7) (az my ak ak)) aL rfl) rfl) rfl)); (· (with_reducible refine aj ?_ ?_); (· (with_reducible refine cY (i := 9) ?_ ?_ ?_ ?_ ?_ ?_ ?_ ?_ ?_); exact PassesOwn.never; exact hc; exact nd; exact rfl; exact Or.inr rfl; exact bR (sv 5); (· (with_reducible refine aj ?_ ?_); exact Jz (k := 8) rfl (by first | exact Or.inl rfl | exact Or.inr (Or.inl rfl)) (eO (N' := ["script", "cell", "pool", "first", "hours", "plan", "net", "last", "asked", "triple", "hour", "step"]) hc (xX rfl (by rfl)) (bR (bT (cV (oK ak) (cV ak (cV ak aL rfl) rfl) rfl))) (fun _ _ _ _ _ => aF (i := 11) (show (["script", "cell", "pool", "first", "hours", "plan", "net", "last", "asked", "triple", "hour", "step"] : List Str).Nodup by decide +kernel) rfl (Or.inl rfl) (Or.inr rfl)) (cM (Nat.le_refl _)) (fun _ _ _ _ _ => iR) (fun _ _ _ _ _ => (az aU (dU cQ hr (aY (sv 6) (aY (sv 9) aG rfl) rfl)) (sv 11)))); exact au); (· intro _; rfl); exact oi); (· (with_reducible refine aj ?_ ?_); (· (with_reducible refine cY (i := 10) ?_ ?_ ?_ ?_ ?_ ?_ ?_ ?_ ?_); exact PassesOwn.never; exact hc; exact nd; exact rfl; exact oi; exact bR (Ec rfl rfl hc (by rfl) bC (by rfl) xR (sv 8)); (· (with_reducible refine aj ?_ ?_); (· (with_reducible refine cX ?_ ?_ ?_); exact lG (jt (dU kO hr (aY (sv 6) (aY (sv 5) (aY (sv 10) aG rfl) rfl) rfl))); (· (with_reducible refine aj ?_ ?_); (· (with_reducible refine aX ?_); exact jV); exact au); exact au); exact au); (· intro _; rfl); exact oi); (· (with_reducible refine aj ?_ ?_); (· (with_reducible refine aK (i := 5) ?_ ?_ ?_ ?_ ?_ ?_); exact nd; exact rfl; exact oi; rotate_left; rfl; exact oi; exact dU kI hr (aY (sv 2) (aY (sv 3) (aY (sv 4) aG rfl) rfl) rfl)); (· (with_reducible refine aj ?_ ?_); exact qO (dU kJ hr (aY (sv 2) (aY (sv 3) (aY (sv 5) (aY (sv 4) aG rfl) rfl) rfl) rfl)) (fO hc (aH (aF (i := 6) nd rfl (Or.inr rfl) (Or.inl rfl)) (aH (aF (i := 5) nd rfl (Or.inl rfl) (Or.inl rfl)) (aH (aF (i := 7) nd rfl (Or.inl rfl) (Or.inl rfl)) dH)))) (jm rfl (bf _ _ (bf _ _ (bf _ _ gH 7) 5) 6)); (· (with_reducible refine aj ?_ ?_); (· (with_reducible refine cX ?_ ?_ ?_); exact lG (jt (dU iW hr (aY (sv 6) (aY (sv 7) (aY (sv 5) aG rfl) rfl) rfl))); (· (with_reducible refine aj ?_ ?_); (· (with_reducible refine aX ?_); exact jV); exact au); exact au); exact au))))))))))); (· intro _; rfl); exact Or.inl rfl
 with_reducible refine aj ?_ ?_
 . (with_reducible refine aX ?_); exact jV
 exact au
end T
end
section
namespace T
open PySem L2 PySem.Spec PyProof.Rows HH
noncomputable def Γ : Tab := fun i => [f0, f1, f2, f3, f4, f5, f6, f7, f8, f9, TF, f11, Sy, RP, RT, Sq, R3, RV, R0, S8, Tw, Th][i]?
end T
end
section
namespace T
open HH
noncomputable abbrev big : Int := 1606938044258990275541962092341162602522202993782792835301376
theorem aW {w n : Nat} {x y z m : Int} {Q : R -> List Sl -> Prop} (h0 : 0 < m) (h2 : m < big) (k : ∀ d x z : Int, 0 <= d -> d < m -> Q (.val (.int d)) [.own true [.int x, .int y, .int z], .val false (.int m)]) :
 (run Γ w (n + 1) 4 [.own true [.int x, .int y, .int z], .val false (.int m)]).sat Q := by
 have h3 : m < 1606938044258990275541962092341162602522202993782792835301376 := h2
 refine bA (d := f4) rfl rfl (by decide) ?_
 first|apply aa|apply ao
 simp [f4]
 constructor
 . intro _
   first|apply aa|apply ao
   simp [h0]
   apply aa
   simp [h0, h3, ju]
   apply aa
   simp
   exact k _ _ _ (Int.emod_nonneg _ (by omega)) (Int.emod_lt_of_pos _ h0)
 . intro _
   first|apply aa|apply ao
   simp [ju]
   apply aa
   simp
   generalize hq : (y + 7919 * (z + 1)) % 1000000007 = q
   have q0 : 0 <= q /\ q < 1000000007 := by omega
   have q1 : -18446744073709551616 < q + 11 /\ q + 11 < 18446744073709551616 := by omega
   first|apply aa|apply ao
   simp [q1]
   generalize hs : (q + 11) * (q + 48271) % 998244353 = st
   have q2 : -18446744073709551616 < st /\ st < 18446744073709551616 := by omega
   first|apply aa|apply ao
   simp [q2, h0]
   exact k _ _ _ (Int.emod_nonneg _ (by omega)) (Int.emod_lt_of_pos _ h0)
theorem Af {w n : Nat} {x : Int} {Q : R -> List Sl -> Prop} (k : ∀ a b c : Int, Q (.own [.int a, .int b, .int c]) [.val false (.int x)]) : (run Γ w (n + 1) 3 [.val false (.int x)]).sat Q := by
 refine bA (d := f3) rfl rfl (by decide) ?_
 first|apply aa|apply ao
 simp [f3]
 exact k _ _ _
end T
end
section
namespace T
open HH
theorem vZ {cs : List Int} {k m : Nat} {x : Int} (hm : 0 < m) (hl : cs.length = m) : ∃ c : Int, at' (cs.map D.int) ((k : Int) % (m : Int)) = some (.int c) /\ ju (cs.map D.int).length ((k : Int) % (m : Int)) = some (k % m) := by
 have h : k % m < cs.length := by rw [hl]; exact Nat.mod_lt _ hm
 rw [show (k : Int) % (m : Int) = ((k % m : Nat) : Int) by simp]
 exact ⟨cs[k % m], za (by simp [h]), Kc (by simpa using h)⟩
inductive JC (ns : List Int) (m : Nat) (_ : Nat) (ρ : List Sl) : Prop where
 | mk (cs : List Int) (s : Sl) (q0 : ρ = [.val false (.lst (ns.map D.int)), .val false (.int m), .own false (cs.map D.int), s]) (q1 : fr s = true) (q2 : cs.length = min m ns.length)
theorem yt {w n m : Nat} {ns : List Int} {Q : R -> List Sl -> Prop} (hm : 0 < m) (hm2 : m <= 63) (hn : ns.length <= 63) (k : ∀ cs : List Int, cs.length <= m -> Q (.own (cs.map D.int)) [.val false (.lst (ns.map D.int)), .val false (.int m)]) :
 (run Γ w (n + 1) 5 [.val false (.lst (ns.map D.int)), .val false (.int m)]).sat Q := by
 refine bA (d := f5) rfl rfl (by decide) ?_
 first|apply aa|apply ao
 simp [f5, Lx, part, vM]
 apply aa
 simp
 refine ⟨by omega, ?_⟩
 refine fW (JC ns m) ?_ ?_ ⟨ns.take m, .bj, ?_, rfl, by simp⟩
 . rintro i _ hi ⟨cs, s, rfl, hs, hl⟩
   have hl2 : cs.length = m := by omega
   obtain ⟨c, e1, e2⟩ := vZ (cs := cs) (k := i) (x := 0) hm hl2
   obtain ⟨x, hx⟩ : ∃ x : Int, at' (ns.map D.int) ((m : Int) + (i : Int)) = some (.int x) := by
    rw [show (m : Int) + (i : Int) = ((m + i : Nat) : Int) by simp]
    exact ⟨ns[m + i]'(by omega), za (by simp)⟩
   simp [hs]
   apply aa
   rw [List.length_map] at e2
   simp [hm, e1, e2, hx]
   exact ⟨cs.set (i % m) (c * 31 + x), .val false (.int (m + i)), by simp, rfl, by simpa using hl⟩
 . rintro _ ⟨cs, s, rfl, hs, hl⟩
   first|apply aa|apply ao
   simp
   exact k cs (by omega)
 . simp [cut, cH, List.map_take]
theorem vA {w n m : Nat} {M : Int} {ns : List Int} {Q : R -> List Sl -> Prop} (hM : M = (m : Int)) (hm : 0 < m) (hm2 : m <= 63) (hn : ns.length <= 63) (k : ∀ cs : List Int, cs.length <= m -> Q (.own (cs.map D.int)) [.val false (.lst (ns.map D.int)), .val false (.int M)]) :
 (run Γ w (n + 1) 5 [.val false (.lst (ns.map D.int)), .val false (.int M)]).sat Q := by
 subst hM; exact yt hm hm2 hn k
end T
end
section
namespace T
open HH
structure Wy where
 (s t r h : Int)
noncomputable def Wy.d (w : Wy) : D := .tup [.int w.s, .int w.t, .int w.r, .int w.h]
structure Wy.Ok (m : Int) (w : Wy) : Prop where
 s0 : 0 <= w.s
 s1 : w.s < m
 t0 : 0 <= w.t
 t1 : w.t < m
 ne : w.s ≠ w.t
 r0 : 0 <= w.r
 r1 : w.r <= 1000000000
 h0 : 1 <= w.h
 h1 : w.h <= 1000000
theorem other {a b m : Int} (h1 : 0 <= a) (h2 : a < m) (h3 : 0 <= b) (h4 : b < m - 1) : 0 <= (a + 1 + b) % m /\ (a + 1 + b) % m < m /\ (a + 1 + b) % m ≠ a := by
 by_cases h : a + 1 + b < m
 . rw [Int.emod_eq_of_lt (by omega) h]; omega
 . have e : (a + 1 + b) % m = a + 1 + b - m := by
    rw [<- Int.sub_emod_right, Int.emod_eq_of_lt (by omega) (by omega)]
   rw [e]; omega
theorem Wr (w : Wy) : cN 7 w.d = true := rfl
theorem wY {ds : List D} {k : Nat} (h : ∀ d ∈ ds, cN k d = true) : cN (k + 1) (.lst ds) = true := by rw [cN]; exact List.all_eq_true.mpr h
theorem Bp {ds : List D} {k : Nat} (h : ∀ d ∈ ds, cN k d = true) : cN (k + 1) (.tup ds) = true := by rw [cN]; exact List.all_eq_true.mpr h
noncomputable def bK (m : Int) (ws : List Wy) : D := .tup [.int m, .tup (ws.map Wy.d)]
structure jf (m : Int) (ws : List Wy) : Prop where
 m0 : 2 <= m
 m1 : m <= 6
 len : ws.length <= 12
 ok : ∀ w ∈ ws, w.Ok m
@[simp] theorem YQ {m : Int} {ws : List Wy} : uM (bK m ws) (.int 0) = some (.val (.int m)) := rfl
@[simp] theorem YG {m : Int} {ws : List Wy} : uM (bK m ws) (.int 1) = some (.val (.tup (ws.map Wy.d))) := rfl
end T
end
section
namespace T
open HH
theorem tR {ns : List Int} {i lo hi : Int} (h0 : 0 <= i) (h1 : i < (ns.length : Int)) (k : ∀ x ∈ ns, lo <= x /\ x <= hi) : ∃ r, at' (ns.map D.int) i = some (.int r) /\ lo <= r /\ r <= hi := by
 have hk : i.toNat < ns.length := by omega
 refine ⟨ns[i.toNat], ?_, k _ (List.getElem_mem hk)⟩
 rw [mU h0 (by simpa using h1)]
 simp [hk]
theorem mV {a : Int} (h : a <= 1000000000000000000000) : a < big := by show _ < (1606938044258990275541962092341162602522202993782792835301376 : Int); omega
noncomputable abbrev Po (b : Bool) (x y z : Int) : Sl := .own b [.int x, .int y, .int z]
theorem CQ {w n : Nat} {x y z m p : Int} {Q : R -> List Sl -> Prop} (h0 : 2 <= m) (h2 : m <= 6) (p0 : 0 <= p)
 (k : ∀ (v : Wy) (x z : Int), v.Ok m -> v.r <= 9 -> v.h <= 4 -> Q (.val v.d) [.own true [.int x, .int y, .int z], .val false (.int m), .val false (.int p)]) :
 (run Γ w (n + 2) 6 [.own true [.int x, .int y, .int z], .val false (.int m), .val false (.int p)]).sat Q := by
 refine bA (d := f6) rfl rfl (by decide) ?_
 first|apply aa|apply ao
 simp [f6]
 refine aW (by omega) (mV (by omega)) fun a x z ha1 ha2 => ?_
 simp
 apply aa
 simp
 refine aW (by omega) (mV (by omega)) fun b x z hb1 hb2 => ?_
 obtain ⟨t0, t1, tn⟩ := other ha1 ha2 hb1 hb2
 simp [show 0 < m by omega]
 generalize (a + 1 + b) % m = t at *
 refine qt (fun ρ => ∃ x z s t, ρ = [.own true [.int x, .int y, .int z], .val false (.int m), .val false (.int p), .val false (.int s), .val false (.int t), .bj] /\ 0 <= s /\ s < m /\ 0 <= t /\ t < m /\ s ≠ t) ?_ ?_
 . by_cases hp : p + 1 < m
   . simp [hp]
     refine aW (by decide) (by decide) fun c x z _ _ => ?_
     simp
     refine ⟨fun _ => ?_, fun _ => ?_⟩
     . first|apply aa|apply ao
       simp
       exact ⟨_, _, _, _, ⟨⟨rfl, rfl⟩, rfl, rfl⟩, by omega⟩
     . first|apply aa|apply ao
       by_cases hab : t < a
       . simp [hab]
         refine aW (by decide) (by decide) fun c x z _ _ => ?_
         simp
         refine ⟨fun _ => ?_, fun _ => ?_⟩
         . first|apply aa|apply ao
           simp
           exact ⟨_, _, _, _, ⟨⟨rfl, rfl⟩, rfl, rfl⟩, by omega⟩
         . exact ⟨_, _, _, _, ⟨⟨rfl, rfl⟩, rfl, rfl⟩, by omega⟩
       . simp [hab]
         exact ⟨_, _, _, _, ⟨⟨rfl, rfl⟩, rfl, rfl⟩, by omega⟩
   . simp [hp]
     first|apply aa|apply ao
     by_cases hab : t < a
     . simp [hab]
       refine aW (by decide) (by decide) fun c x z _ _ => ?_
       simp
       refine ⟨fun _ => ?_, fun _ => ?_⟩
       . first|apply aa|apply ao
         simp
         exact ⟨_, _, _, _, ⟨⟨rfl, rfl⟩, rfl, rfl⟩, by omega⟩
       . exact ⟨_, _, _, _, ⟨⟨rfl, rfl⟩, rfl, rfl⟩, by omega⟩
     . simp [hab]
       exact ⟨_, _, _, _, ⟨⟨rfl, rfl⟩, rfl, rfl⟩, by omega⟩
 rintro _ ⟨x, z, s, t, rfl, s0, s1, t0, t1, ne⟩
 first|apply aa|apply ao
 simp
 refine aW (by decide) (by decide) fun c x z c0 c1 => ?_
 simp
 refine aW (by decide) (by decide) fun d x z d0 d1 => ?_
 obtain ⟨r, e, r0, r1⟩ := tR (ns := [1, 2, 3, 5, 0, 1, 4, 1 + c]) (lo := 0) (hi := 9) d0 (by simpa using d1) (by simp; omega)
 simp only [List.map_cons, List.map_nil] at e
 simp [e]
 apply aa
 simp
 refine aW (by decide) (by decide) fun d x z d0 d1 => ?_
 obtain ⟨h, e, h0', h1⟩ := tR (ns := [1, 1, 1, 2, 2, 3, 1, 4]) (lo := 1) (hi := 4) d0 (by simpa using d1) (by simp)
 simp only [List.map_cons, List.map_nil] at e
 simp [e]
 exact k ⟨s, t, r, h⟩ x z ⟨s0, s1, t0, t1, ne, r0, by show r <= _; omega, h0', by show h <= _; omega⟩ r1 h1
inductive FN (y m c : Int) (ρ : List Sl) : Prop where
 | mk (x z : Int) (s : Sl) (q0 : ρ = [.own true [.int x, .int y, .int z], .val false (.int m), .val false (.int c), s]) (q1 : fr s = true)
noncomputable def YB (m : Int) (d : D) : Prop := ∃ v : Wy, d = v.d /\ v.Ok m /\ v.r <= 9 /\ v.h <= 4
theorem Y0 {m : Int} : ∀ {xs : List D}, (∀ x ∈ xs, YB m x) -> ∃ ws : List Wy, xs = ws.map Wy.d /\ ∀ v ∈ ws, v.Ok m /\ v.r <= 9 /\ v.h <= 4
 | [], _ => ⟨[], rfl, by simp⟩
 | x :: xs, h => by
   obtain ⟨v, rfl, h1⟩ := h x (by simp)
   obtain ⟨ws, rfl, h2⟩ := Y0 (m := m) (xs := xs) fun y hy => h y (by simp [hy])
   exact ⟨v :: ws, rfl, fun u hu => by
    rcases List.mem_cons.mp hu with rfl | hu
    . exact h1
    . exact h2 u hu⟩
theorem DY {w n : Nat} {x y z : Int} {Q : R -> List Sl -> Prop} (k : ∀ (m : Int) (ws : List Wy) (x z : Int), jf m ws -> (∀ v ∈ ws, v.r <= 9 /\ v.h <= 4) -> Q (.val (bK m ws)) [.own true [.int x, .int y, .int z]]) :
 (run Γ w (n + 3) 7 [.own true [.int x, .int y, .int z]]).sat Q := by
 refine bA (d := f7) rfl rfl (by decide) ?_
 first|apply aa|apply ao
 simp [f7]
 refine aW (by decide) (by decide) fun d x z d0 d1 => ?_
 obtain ⟨m, e, m0, m1⟩ := tR (ns := [3, 4, 3, 4, 2, 5, 6, 4]) (lo := 2) (hi := 6) d0 (by simpa using d1) (by simp)
 simp only [List.map_cons, List.map_nil] at e
 simp [e]
 apply aa
 simp
 refine aW (by decide) (by decide) fun d x z d0 d1 => ?_
 obtain ⟨c, e, c0, c1⟩ := tR (ns := [5, 3, 4, 6, 2, 7, 8, 10, 12, 1, 0, 5]) (lo := 0) (hi := 12) d0 (by simpa using d1) (by simp)
 simp only [List.map_cons, List.map_nil] at e
 simp [e]
 apply aa
 simp
 refine ⟨by omega, fun _ => ?_, by show _ <= 16777216; omega⟩
 refine pY (FN y m c) (YB m) ⟨x, z, .bj, rfl, rfl⟩ ?_ ?_
 . rintro d hd _ ⟨x, z, s, rfl, hs⟩
   obtain ⟨j, _, rfl⟩ := List.mem_map.mp hd
   simp [hs]
   refine CQ m0 m1 (by omega) fun v x z hv hr hh => ?_
   simp
   exact ⟨⟨v, rfl, hv, hr, hh⟩, _, _, _, rfl, rfl⟩
 . rintro xs _ ⟨x, z, s, rfl, hs⟩ hl hx
   obtain ⟨ws, rfl, hw⟩ := Y0 hx
   simp at hl
   simp
   exact k m ws x z ⟨m0, m1, by omega, fun v hv => (hw v hv).1⟩ fun v hv => (hw v hv).2
end T
end
section
namespace T
open HH
@[simp] theorem YT {α β : Type} {a : α} {ρ : List Sl} {f : α -> List Sl -> Res β} : (Res.ok a ρ).bind f = f a ρ := rfl
@[simp] theorem O1 {α β : Type} {f : α -> List Sl -> Res β} : (Res.stuck : Res α).bind f = .stuck := rfl
@[simp] theorem CG {α : Type} {a : α} {ρ : List Sl} : lift (some a) ρ = .ok a ρ := rfl
@[simp] theorem Tq {c : Call} {n k : Nat} {ρ : List Sl} : ex c n (.La k) ρ = .stuck := by rw [ex]
theorem Q6 {ws : List Wy} {k : Int} (h0 : 0 <= k) (h1 : k < (ws.length : Int)) : ∃ v, ws[k.toNat]? = some v /\ v ∈ ws /\ at' (ws.map Wy.d) k = some v.d := by
 have hk : k.toNat < ws.length := by omega
 refine ⟨ws[k.toNat], by simp [hk], List.getElem_mem hk, ?_⟩
 rw [mU h0 (by simpa using h1)]; simp [hk]
theorem QB {v : Wy} : uM v.d (.int 0) = some (.val (.int v.s)) := by simp [Wy.d]
theorem Je {v : Wy} : uM v.d (.int 1) = some (.val (.int v.t)) := by simp [Wy.d]
theorem Vx {v : Wy} : uM v.d (.int 2) = some (.val (.int v.r)) := by simp [Wy.d]
theorem Hn {v : Wy} : uM v.d (.int 3) = some (.val (.int v.h)) := by simp [Wy.d]
end T
end
section
namespace T
open HH
noncomputable def sm {α : Type} (f : α -> Int) : List α -> Int
 | [] => 0
 | a :: l => f a + sm f l
section
variable {α β : Type} {f g : α -> Int} {l k : List α}
@[simp] theorem W4 : sm f [] = 0 := rfl
@[simp] theorem bW {a : α} : sm f (a :: l) = f a + sm f l := rfl
theorem jy : sm f (l ++ k) = sm f l + sm f k := by
 induction l with
 | nil => simp
 | cons a l ih => simp [ih]; omega
theorem fG (h : ∀ a ∈ l, f a = g a) : sm f l = sm g l := by
 induction l with
 | nil => rfl
 | cons a l ih => rw [bW, bW, h a (by simp), ih fun b hb => h b (by simp [hb])]
theorem En (h : l.Perm k) : sm f l = sm f k := by
 induction h with
 | nil => rfl
 | cons a _ ih => simp [ih]
 | swap a b l => simp; omega
 | trans _ _ h1 h2 => rw [h1, h2]
theorem Wd : sm (fun a => f a + g a) l = sm f l + sm g l := by
 induction l with
 | nil => rfl
 | cons a l ih => simp only [bW, ih]; omega
theorem Jj : sm (fun a => f a - g a) l = sm f l - sm g l := by
 induction l with
 | nil => rfl
 | cons a l ih => simp only [bW, ih]; omega
theorem u6 {c : Int} : sm (fun a => f a * c) l = sm f l * c := by
 induction l with
 | nil => simp
 | cons a l ih => simp only [bW, ih, Int.add_mul]
theorem Gr (h : ∀ a ∈ l, f a <= g a) : sm f l <= sm g l := by
 induction l with
 | nil => simp
 | cons a l ih =>
   have h1 := h a (by simp)
   have h2 := ih fun b hb => h b (by simp [hb])
   simp only [bW]; omega
theorem wk (h : ∀ a ∈ l, f a = 0) : sm f l = 0 := by
 induction l with
 | nil => rfl
 | cons a l ih => rw [bW, h a (by simp), ih fun b hb => h b (by simp [hb])]; rfl
theorem qK {q : β -> α} {l : List β} : sm f (l.map q) = sm (fun b => f (q b)) l := by
 induction l with
 | nil => rfl
 | cons a l ih => simp only [List.map_cons, bW, ih]
theorem Wb {l : List Int} : l.sum = sm (fun i => i) l := by
 induction l with
 | nil => rfl
 | cons a l ih => simp [ih]
end
structure Tr where
 (h w l : Int)
noncomputable def Tr.d (x : Tr) : D := .tup [.int x.h, .int x.w, .int x.l]
noncomputable def yp : D -> Tr
 | .tup [.int h, .int w, .int l] => ⟨h, w, l⟩
 | _ => ⟨0, 0, 0⟩
@[simp] theorem UW {h w l : Int} : yp (.tup [.int h, .int w, .int l]) = ⟨h, w, l⟩ := rfl
@[simp] theorem VJ {x : Tr} : yp x.d = x := rfl
@[simp] theorem Vg {i : Int} : cB (.int i) = i := rfl
noncomputable def wy (ws : List Wy) (k : Int) : Wy := (ws[k.toNat]?).getD ⟨0, 0, 0, 0⟩
noncomputable def wG (ws : List Wy) (x : Tr) : Prop := 0 <= x.w /\ x.w < (ws.length : Int)
theorem fB {ws : List Wy} {k : Int} (h0 : 0 <= k) (h1 : k < (ws.length : Int)) : at' (ws.map Wy.d) k = some (wy ws k).d /\ wy ws k ∈ ws := by
 obtain ⟨v, h2, h3, h4⟩ := Q6 h0 h1
 have : wy ws k = v := by unfold wy; rw [h2]; rfl
 rw [this]; exact ⟨h4, h3⟩
theorem Dp {x : Tr} : uM x.d (.int 0) = some (.val (.int x.h)) := by simp [Tr.d]
theorem vX {x : Tr} : uM x.d (.int 1) = some (.val (.int x.w)) := by simp [Tr.d]
theorem zP {x : Tr} : uM x.d (.int 2) = some (.val (.int x.l)) := by simp [Tr.d]
noncomputable def dM (ws : List Wy) (x : Tr) : Int := x.h + (wy ws x.w).h
noncomputable def Ce (ws : List Wy) (p : Int) (P : Int -> Bool) (x : Tr) : Int := if (wy ws x.w).t = p /\ P (dM ws x) = true then x.l else 0
noncomputable def Dd (ws : List Wy) (p : Int) (P : Int -> Bool) (x : Tr) : Int := if (wy ws x.w).s = p /\ P x.h = true then x.l else 0
noncomputable def iu (t : Int) : Int -> Bool := fun k => decide (k <= t)
noncomputable def on' (t : Int) : Int -> Bool := fun k => decide (t <= k)
noncomputable def come (ws : List Wy) (pl : List Tr) (p t : Int) : Int := sm (Ce ws p (iu t)) pl
noncomputable def left (ws : List Wy) (pl : List Tr) (p t : Int) : Int := sm (Dd ws p (iu t)) pl
noncomputable def stP (ws : List Wy) (pl : List Tr) (p : Int) (P : Int -> Bool) : Int := sm (fun x => Ce ws p P x - Dd ws p P x) pl
theorem Jh {ws : List Wy} {pl : List Tr} {p t : Int} : stP ws pl p (iu t) = come ws pl p t - left ws pl p t := Jj
noncomputable def LS (s : Sl) (ds : List D) : Prop := (∃ b, s = .own b ds) \/ ∃ b, s = .val b (.lst ds)
theorem nF {ρ : List Sl} {k : Nat} {s : Sl} {ds : List D} {e : Ev} (h : ρ[k]? = some s) (hs : LS s ds) : ∃ s', srcOf (some k) e ρ = .ok ds (ρ.set k s') /\ ∀ ρ', ρ'[k]? = some s' -> bh ρ (some k) ρ' = ρ'.set k s := by
 have hk := (List.getElem?_eq_some_iff.mp h).1
 rcases hs with ⟨b, rfl⟩ | ⟨b, rfl⟩
 . exact ⟨.lent ds, by unfold srcOf; simp only [h], fun ρ' _ => by unfold bh; simp only [h]⟩
 . refine ⟨.val b (.lst ds), ?_, fun ρ' h' => ?_⟩
   . unfold srcOf; simp only [h, lE, CG]
     obtain ⟨h1, h2⟩ := List.getElem?_eq_some_iff.mp h
     rw [<- h2, List.set_getElem_self]
   . unfold bh; simp only [h]
     obtain ⟨h1, h2⟩ := List.getElem?_eq_some_iff.mp h'
     rw [<- h2, List.set_getElem_self]
noncomputable def LT (s : Sl) (ds : List D) : Prop := LS s ds \/ s = .lent ds
theorem tL {ρ : List Sl} {k : Nat} {s : Sl} {ds : List D} {e : Ev} (h : ρ[k]? = some s) (hs : LT s ds) : ∃ s', srcOf (some k) e ρ = .ok ds (ρ.set k s') /\ ∀ ρ', ρ'[k]? = some s' -> bh ρ (some k) ρ' = ρ'.set k s := by
 rcases hs with hs | rfl
 . exact nF h hs
 . refine ⟨.lent ds, ?_, fun ρ' h' => ?_⟩
   . unfold srcOf; simp only [h]
     obtain ⟨h1, h2⟩ := List.getElem?_eq_some_iff.mp h
     rw [<- h2, List.set_getElem_self]
   . unfold bh; simp only [h]
     obtain ⟨h1, h2⟩ := List.getElem?_eq_some_iff.mp h'
     rw [<- h2, List.set_getElem_self]
noncomputable def gv {κ : Type} [DecidableEq κ] (kvs : List (κ × Int)) (k : κ) : Int := ((kvs.find? fun kv => decide (kv.1 = k)).map (·.2)).getD 0
noncomputable def Jc {κ : Type} (P : κ -> Bool) (kvs : List (κ × Int)) : Int := sm (fun kv => if P kv.1 = true then kv.2 else 0) kvs
section
variable {κ : Type} [DecidableEq κ]
theorem jQ {a k : κ} {b : Int} {r : List (κ × Int)} : gv ((a, b) :: r) k = if a = k then b else gv r k := by
 unfold gv; by_cases h : a = k <;> simp [h]
theorem wQ {k : κ} : ∀ {r : List (κ × Int)}, k ∉ r.map (·.1) -> gv r k = 0
 | [], _ => rfl
 | (a, b) :: r, h => by
   simp at h
   rw [jQ, if_neg (fun e => h.1 e.symm), wQ (r := r) (by simpa using h.2)]
theorem xZ {a k : κ} {b v : Int} {r : List (κ × Int)} (hn : a ∉ r.map (·.1)) : putD ((a, b) :: r) k v = if a = k then (a, v) :: r else (a, b) :: putD r k v := by
 unfold putD
 by_cases h : a = k
 . subst h
   rw [if_pos (by simp), if_pos rfl]
   simp
   refine (List.map_congr_left (g := id) fun kv hkv => ?_).trans (by simp)
   rw [if_neg]; rfl
   intro e
   exact hn (List.mem_map.mpr ⟨kv, hkv, e⟩)
 . rw [if_neg h]
   by_cases h2 : (r.any fun kv => decide (kv.1 = k)) = true
   . rw [if_pos h2, if_pos (by simp [h2])]
     simp [h]
   . rw [if_neg h2, if_neg (by simp [h]; simpa using h2)]
     simp
theorem vK {k : κ} {v : Int} : ∀ {r : List (κ × Int)}, (r.map (·.1)).Nodup -> ((putD r k v).map (·.1)).Nodup /\ (putD r k v).length <= r.length + 1 /\ (∀ j ∈ (putD r k v).map (·.1), j = k \/ j ∈ r.map (·.1)) /\ ∀ P, Jc P (putD r k v) = Jc P r + if P k = true then v - gv r k else 0
 | [], _ => by simp [putD, Jc, gv]
 | (a, b) :: r, h => by
   simp only [List.map_cons, List.nodup_cons] at h
   obtain ⟨i1, i2, i3, i4⟩ := vK (k := k) (v := v) (r := r) h.2
   rw [xZ h.1]
   by_cases e : a = k
   . subst e
     rw [if_pos rfl]
     refine ⟨by simpa using h, by simp, fun j hj => .inr (by simpa using hj), fun P => ?_⟩
     have := wQ h.1
     simp only [Jc, bW, jQ, if_true]
     split <;> omega
   . rw [if_neg e]
     refine ⟨?_, by simp; omega, fun j hj => ?_, fun P => ?_⟩
     . simp only [List.map_cons, List.nodup_cons]
       refine ⟨fun hm => ?_, i1⟩
       rcases i3 a hm with z | z
       . exact e z
       . exact h.1 z
     . simp only [List.map_cons, List.mem_cons] at hj ⊢
       rcases hj with rfl | hj
       . exact .inr (.inl rfl)
       . rcases i3 j hj with z | z
         . exact .inl z
         . exact .inr (.inr z)
     . have := i4 P
       simp only [Jc, bW, jQ, if_neg e] at this ⊢
       omega
theorem zN {P : κ -> Bool} : ∀ {r : List (κ × Int)}, (r.map (·.1)).Nodup -> Jc P r = sm (fun k => if P k = true then gv r k else 0) (r.map (·.1))
 | [], _ => rfl
 | (a, b) :: r, h => by
   simp only [List.map_cons, List.nodup_cons] at h
   have ih := zN (P := P) (r := r) h.2
   simp only [Jc, bW, List.map_cons] at ih ⊢
   rw [ih, jQ, if_pos rfl]
   congr 1
   refine fG fun k hk => ?_
   have hne : ¬ a = k := fun e => h.1 (by rw [e]; exact hk)
   rw [jQ, if_neg hne]
end
theorem Eh {k : Int} : ∀ {r : List (Int × Int)}, k ∈ r.map (·.1) -> xr (.dB (.k r)) (.int k) = some (.val (.int (gv r k)))
 | [], h => by simp at h
 | (a, b) :: r, h => by
   by_cases e : a = k
   . simp [xr, Dc.get, gv, e]
   . simp at h
     have ih := Eh (k := k) (r := r) (by rcases h with h | h; exact absurd h.symm e; simpa using h)
     simp [xr, Dc.get, gv, e] at ih ⊢
     exact ih
end T
end
section
namespace T
open HH
theorem lK {w n : Nat} {m h k : Int} {ws : List Wy} {Q : R -> List Sl -> Prop} (h0 : 0 <= k) (h1 : k < (ws.length : Int)) (q : Q (.val (.int (h + (wy ws k).h))) [.val false (bK m ws), .val false (.int h), .val false (.int k)]) :
 (run Γ w (n + 1) 0 [.val false (bK m ws), .val false (.int h), .val false (.int k)]).sat Q := by
 refine bA (d := f0) rfl rfl (by decide) ?_
 first|apply aa|apply ao
 simpa [f0, (fB h0 h1).1, Hn] using q
noncomputable def KP (ws : List Wy) (p : Int) (P : Int -> Bool) (x : Tr) : Int := Ce ws p P x - Dd ws p P x
end T
end
section
namespace T
open HH
noncomputable def cU : List Tr -> Bool
 | a :: b :: r => aQ [a.h, a.w] [b.h, b.w] && cU (b :: r)
 | _ => true
noncomputable def Tr.k (x : Tr) : D := .tup [.int x.h, .int x.w]
noncomputable def okT (x : Tr) : Bool := decide (0 <= x.h) && decide (1 <= x.l)
noncomputable def Dy (ws : List Wy) (last : Int) (x : Tr) : Prop := wG ws x /\ x.l <= (wy ws x.w).r /\ dM ws x <= last
noncomputable def Cz (ws : List Wy) (last : Int) (x : Tr) : Bool := @decide (Dy ws last x) (Classical.propDecidable _)
theorem Od {ws : List Wy} {last : Int} {x : Tr} : Cz ws last x = true ↔ Dy ws last x := by unfold Cz; simp
theorem R8 {ws : List Wy} {last : Int} {x : Tr} (h : ¬ Dy ws last x) : Cz ws last x = false := by unfold Cz; simp [h]
inductive F5 (a0 a1 a2 a3 a4 : Sl) (ρ : List Sl) : Prop where
 | mk (s : Sl) (q0 : ρ = [a0, a1, a2, a3, a4, s]) (q1 : fr s = true)
end T
end
section
namespace T
open HH
theorem jH {w n : Nat} {m : Int} {ws : List Wy} {x : Tr} {Q : R -> List Sl -> Prop} (h : wG ws x) (q : Q (.val (.int (dM ws x))) [.val false (bK m ws), .val false x.d]) :
 (run Γ w (n + 1) 8 [.val false (bK m ws), .val false x.d]).sat Q := by
 refine bA (d := f8) rfl rfl (by decide) ?_
 first|apply aa|apply ao
 unfold dM at q
 simpa [f8, Dp, vX, (fB h.1 h.2).1, Hn] using q
noncomputable def xx (ws : List Wy) (g : Wy -> Int) (p : Int) (d : D) : Option D := if g (wy ws (yp d).w) = p then some d else none
theorem jX {ws : List Wy} {g : Wy -> Int} {p : Int} {x : Tr} : xx ws g p x.d = if g (wy ws x.w) = p then some x.d else none := rfl
theorem mR {ws : List Wy} {g : Wy -> Int} {p : Int} : ∀ {pl : List Tr}, (pl.map Tr.d).filterMap (xx ws g p) = (pl.filter fun x => decide (g (wy ws x.w) = p)).map Tr.d
 | [] => rfl
 | x :: pl => by
   rw [List.map_cons, List.filterMap_cons, jX, List.filter_cons, mR]
   by_cases h : g (wy ws x.w) = p <;> simp [h]
noncomputable def xJ (g : Tr -> Int) (t : Int) (d : D) : Option D := if g (yp d) <= t then some (.int (yp d).l) else none
theorem iD {g : Tr -> Int} {t : Int} {x : Tr} : xJ g t x.d = if g x <= t then some (.int x.l) else none := rfl
theorem nM {g : Tr -> Int} {f : Wy -> Int} {ws : List Wy} {p t : Int} : ∀ {pl : List Tr}, ∃ ns : List Int, ((pl.filter fun x => decide (f (wy ws x.w) = p)).map Tr.d).filterMap (xJ g t) = ns.map D.int /\ ns.sum = sm (fun x => if f (wy ws x.w) = p /\ iu t (g x) = true then x.l else 0) pl
 | [] => ⟨[], rfl, rfl⟩
 | x :: pl => by
   obtain ⟨ns, h1, h2⟩ := nM (g := g) (f := f) (ws := ws) (p := p) (t := t) (pl := pl)
   by_cases h : f (wy ws x.w) = p
   . by_cases c : g x <= t
     . exact ⟨x.l :: ns, by rw [List.filter_cons, if_pos (by simpa using h), List.map_cons, List.filterMap_cons, iD, if_pos c, h1]; rfl, by simp [h, c, h2, iu]⟩
     . exact ⟨ns, by rw [List.filter_cons, if_pos (by simpa using h), List.map_cons, List.filterMap_cons, iD, if_neg c, h1], by simp [h, c, h2, iu]⟩
   . exact ⟨ns, by rw [List.filter_cons, if_neg (by simpa using h), h1], by simp [h, h2]⟩
theorem Ba {w n : Nat} {m p t : Int} {ws : List Wy} {pl : List Tr} {s1 : Sl} {Q : R -> List Sl -> Prop} (hs : LT s1 (pl.map Tr.d)) (hw : ∀ x ∈ pl, wG ws x) (hl : pl.length <= 1000)
 (q : Q (.val (.int (come ws pl p t))) [.val false (bK m ws), s1, .val false (.int p), .val false (.int t)]) :
 (run Γ w (n + 2) 9 [.val false (bK m ws), s1, .val false (.int p), .val false (.int t)]).sat Q := by
 have hlim : pl.length <= lim := by show _ <= 16777216; omega
 refine bA (d := f9) rfl rfl (by decide) ?_
 first|apply aa|apply ao
 obtain ⟨s', e1, e2⟩ := tL (ρ := [.val false (bK m ws), s1, .val false (.int p), .val false (.int t), .bj]) (k := 1) (e := ev (run Γ w (n + 1)) (.var 1)) rfl hs
 simp [f9, -gB, -cT, e1, hlim]
 refine dD (F5 _ _ _ _ _) (xx ws Wy.t p) ⟨.bj, rfl, rfl⟩ ?_ ?_
 . rintro d hd _ ⟨s, rfl, hs⟩
   obtain ⟨x, hx, rfl⟩ := List.mem_map.mp hd
   have hg := (fB (hw x hx).1 (hw x hx).2).1
   by_cases c : (wy ws x.w).t = p
   . simp [hs, vX, hg, Je, c, jX]
     exact ⟨_, rfl, rfl⟩
   . simp [hs, vX, hg, Je, c, jX]
     exact ⟨_, rfl, rfl⟩
 rintro _ ⟨s, rfl, hs⟩
 rw [mR]
 simp [-cT]
 rw [e2 _ rfl]
 simp
 apply aa
 have hf : ((pl.filter fun x => decide ((wy ws x.w).t = p)).length) <= lim := Nat.le_trans (List.length_filter_le _ _) hlim
 simp [hf]
 refine dD (F5 _ _ _ _ _) (xJ (dM ws) t) ⟨.bj, rfl, rfl⟩ ?_ ?_
 . rintro d hd _ ⟨s, rfl, hs⟩
   obtain ⟨x, hx, rfl⟩ := List.mem_map.mp hd
   have hx' := hw x (List.mem_filter.mp hx).1
   simp [hs]
   refine jH hx' ?_
   by_cases c : dM ws x <= t
   . simp [c, zP, iD]
     exact ⟨_, rfl, rfl⟩
   . simp [c, iD]
     exact ⟨_, rfl, rfl⟩
 rintro _ ⟨s, rfl, hs⟩
 obtain ⟨ns, e3, e4⟩ := nM (g := dM ws) (f := Wy.t) (ws := ws) (p := p) (t := t) (pl := pl)
 rw [e3]
 simp
 rw [e4]
 exact q
theorem zj {w n : Nat} {m p t : Int} {ws : List Wy} {pl : List Tr} {s1 : Sl} {Q : R -> List Sl -> Prop} (hs : LT s1 (pl.map Tr.d)) (hw : ∀ x ∈ pl, wG ws x) (hl : pl.length <= 1000)
 (q : Q (.val (.int (left ws pl p t))) [.val false (bK m ws), s1, .val false (.int p), .val false (.int t)]) :
 (run Γ w (n + 1) 10 [.val false (bK m ws), s1, .val false (.int p), .val false (.int t)]).sat Q := by
 have hlim : pl.length <= lim := by show _ <= 16777216; omega
 refine bA (d := TF) rfl rfl (by decide) ?_
 first|apply aa|apply ao
 obtain ⟨s', e1, e2⟩ := tL (ρ := [.val false (bK m ws), s1, .val false (.int p), .val false (.int t), .bj]) (k := 1) (e := ev (run Γ w n) (.var 1)) rfl hs
 simp [TF, -gB, -cT, e1, hlim]
 refine dD (F5 _ _ _ _ _) (xx ws Wy.s p) ⟨.bj, rfl, rfl⟩ ?_ ?_
 . rintro d hd _ ⟨s, rfl, hs⟩
   obtain ⟨x, hx, rfl⟩ := List.mem_map.mp hd
   have hg := (fB (hw x hx).1 (hw x hx).2).1
   by_cases c : (wy ws x.w).s = p
   . simp [hs, vX, hg, QB, c, jX]
     exact ⟨_, rfl, rfl⟩
   . simp [hs, vX, hg, QB, c, jX]
     exact ⟨_, rfl, rfl⟩
 rintro _ ⟨s, rfl, hs⟩
 rw [mR]
 simp [-cT]
 rw [e2 _ rfl]
 simp
 apply aa
 have hf : ((pl.filter fun x => decide ((wy ws x.w).s = p)).length) <= lim := Nat.le_trans (List.length_filter_le _ _) hlim
 simp [hf]
 refine dD (F5 _ _ _ _ _) (xJ Tr.h t) ⟨.bj, rfl, rfl⟩ ?_ ?_
 . rintro d hd _ ⟨s, rfl, hs⟩
   obtain ⟨x, hx, rfl⟩ := List.mem_map.mp hd
   by_cases c : x.h <= t
   . simp [hs, Dp, c, zP, iD]
     exact ⟨_, rfl, rfl⟩
   . simp [hs, Dp, c, iD]
     exact ⟨_, rfl, rfl⟩
 rintro _ ⟨s, rfl, hs⟩
 obtain ⟨ns, e3, e4⟩ := nM (g := Tr.h) (f := Wy.s) (ws := ws) (p := p) (t := t) (pl := pl)
 rw [e3]
 simp
 rw [e4]
 exact q
end T
end
section
namespace T
open HH
noncomputable def Vb (ws : List Wy) (pl : List Tr) : Prop := ∀ p, 1 <= p -> ∀ t, left ws pl p t <= come ws pl p t
structure Pl (last : Int) (ws : List Wy) (pl : List Tr) : Prop where
 ok : ∀ x ∈ pl, 0 <= x.h /\ 1 <= x.l /\ Dy ws last x
 Ge : cU pl = true
 ZL : Vb ws pl
theorem Pl.Wq {last : Int} {ws : List Wy} {pl : List Tr} (h : Pl last ws pl) : ∀ x ∈ pl, wG ws x := fun x hx => (h.ok x hx).2.2.1
theorem yr {ws : List Wy} {pl : List Tr} {p t u : Int} (hl : ∀ x ∈ pl, 0 <= x.l) (h : t <= u) : come ws pl p t <= come ws pl p u := by
 refine Gr fun x hx => ?_
 have := hl x hx
 unfold Ce iu
 simp only [decide_eq_true_eq]
 split <;> split <;> omega
theorem yF {ws : List Wy} {pl : List Tr} {p t u : Int} (hh : ∀ x ∈ pl, x.h <= t) (h : t <= u) : left ws pl p u = left ws pl p t := by
 refine fG fun x hx => ?_
 have := hh x hx
 unfold Dd iu
 simp only [decide_eq_true_eq, show x.h <= u by omega, this]
theorem Dg {ws : List Wy} {pl : List Tr} {y : Tr} (hb : Vb ws pl) (hl : ∀ x ∈ pl, 0 <= x.l) (hh : ∀ x ∈ pl, x.h <= y.h) (h0 : 0 <= y.l) (hs : 1 <= (wy ws y.w).s -> y.l <= come ws pl (wy ws y.w).s y.h - left ws pl (wy ws y.w).s y.h) : Vb ws (pl ++ [y]) := by
 intro p hp t
 have b := hb p hp t
 have e1 : left ws (pl ++ [y]) p t = left ws pl p t + Dd ws p (iu t) y := by unfold left; rw [jy]; simp
 have e2 : come ws (pl ++ [y]) p t = come ws pl p t + Ce ws p (iu t) y := by unfold come; rw [jy]; simp
 have e3 : 0 <= Ce ws p (iu t) y := by unfold Ce; split <;> omega
 rw [e1, e2]
 unfold Dd
 split
 . rename_i c
   obtain ⟨c1, c2⟩ := c
   simp only [iu, decide_eq_true_eq] at c2
   subst c1
   have := hs hp
   have := yr (ws := ws) (p := (wy ws y.w).s) hl c2
   have := yF (ws := ws) (p := (wy ws y.w).s) hh c2
   omega
 . omega
theorem pW {y : Tr} : ∀ {pl : List Tr}, cU pl = true -> (∀ x ∈ pl, aQ [x.h, x.w] [y.h, y.w] = true) -> cU (pl ++ [y]) = true
 | [], _, _ => rfl
 | [a], _, h => by simp only [List.cons_append, List.nil_append, cU, Bool.and_true]; exact h a (by simp)
 | a :: b :: r, h1, h2 => by
   simp only [List.cons_append, cU, Bool.and_eq_true] at h1 ⊢
   exact ⟨h1.1, pW (pl := b :: r) h1.2 fun x hx => h2 x (by simp [hx])⟩
noncomputable def QL (hr wn : Int) (pl : List Tr) : Prop := ∀ x ∈ pl, x.h < hr \/ x.h = hr /\ x.w < wn
inductive JPi (y m last most hr : Int) (ws : List Wy) (i : Nat) (ρ : List Sl) : Prop where
 | mk (x z : Int) (pl : List Tr) (s6 s7 s8 s9 gU uO s12 qj : Sl) (q0 : ρ = [.own true [.int x, .int y, .int z], .val false (bK m ws), .val false (.int last), .val false (.int most), .own false (pl.map Tr.d), .val false (.int hr), s6, s7, s8, s9, gU, uO, s12, qj]) (q1 : A8 (fr s6 = true) (fr s7 = true) (fr s8 = true) (fr s9 = true) (fr gU = true) (fr uO = true) (fr s12 = true) (fr qj = true)) (q2 : Pl last ws pl) (q3 : QL hr i pl) (q4 : (pl.length : Int) <= most)
inductive JPo (y m last most : Int) (ws : List Wy) (i : Nat) (ρ : List Sl) : Prop where
 | mk (x z : Int) (pl : List Tr) (s5 s6 s7 s8 s9 gU uO s12 qj : Sl) (q0 : ρ = [.own true [.int x, .int y, .int z], .val false (bK m ws), .val false (.int last), .val false (.int most), .own false (pl.map Tr.d), s5, s6, s7, s8, s9, gU, uO, s12, qj]) (q1 : A9 (fr s5 = true) (fr s6 = true) (fr s7 = true) (fr s8 = true) (fr s9 = true) (fr gU = true) (fr uO = true) (fr s12 = true) (fr qj = true)) (q2 : Pl last ws pl) (q3 : QL i 0 pl) (q4 : (pl.length : Int) <= most)
theorem K1 {last hr l : Int} {ws : List Wy} {pl : List Tr} {i : Nat} (h : Pl last ws pl) (hb : QL hr i pl) (h0 : 0 <= hr) (hi : i < ws.length) (l0 : 1 <= l) (l1 : l <= (wy ws i).r) (ho : hr + (wy ws i).h <= last) (hs : 1 <= (wy ws i).s -> l <= come ws pl (wy ws i).s hr - left ws pl (wy ws i).s hr) :
 Pl last ws (pl ++ [⟨hr, i, l⟩]) /\ QL hr (i + 1 : Nat) (pl ++ [⟨hr, i, l⟩]) := by
 refine ⟨⟨fun x hx => ?_, pW h.Ge fun x hx => ?_, Dg h.ZL (fun x hx => ?_) (fun x hx => ?_) (by show 0 <= l; omega) hs⟩, fun x hx => ?_⟩
 . rcases List.mem_append.mp hx with hx | hx
   . exact h.ok x hx
   . rw [List.mem_singleton.mp hx]
     exact ⟨h0, l0, ⟨by show 0 <= (i : Int); omega, by show (i : Int) < _; omega⟩, l1, ho⟩
 . have := hb x hx
   simp [aQ]; omega
 . have := h.ok x hx; omega
 . have := hb x hx; show x.h <= hr; omega
 . rcases List.mem_append.mp hx with hx | hx
   . have := hb x hx; omega
   . rw [List.mem_singleton.mp hx]; exact .inr ⟨rfl, by show (i : Int) < _; omega⟩
theorem yN {w n : Nat} {x y z m last most : Int} {ws : List Wy} {Q : R -> List Sl -> Prop} (hk : jf m ws) (l0 : 0 <= last) (l1 : last <= 1000) (k0 : 0 <= most) (k1 : most <= 1000)
 (q : ∀ (pl : List Tr) (x z : Int), Pl last ws pl -> (pl.length : Int) <= most -> Q (.own (pl.map Tr.d)) [.own true [.int x, .int y, .int z], .val false (bK m ws), .val false (.int last), .val false (.int most)]) :
 (run Γ w (n + 3) 11 [.own true [.int x, .int y, .int z], .val false (bK m ws), .val false (.int last), .val false (.int most)]).sat Q := by
 have hlen := hk.len
 refine bA (d := f11) rfl rfl (by decide) ?_
 first|apply aa|apply ao
 simp [f11]
 apply aa
 simp
 refine ⟨by omega, ?_⟩
 refine fW (JPo y m last most ws) ?_ ?_ ⟨x, z, [], .bj, .bj, .bj, .bj, .bj, .bj, .bj, .bj, .bj, rfl, ⟨rfl, rfl, rfl, rfl, rfl, rfl, rfl, rfl, rfl⟩, ⟨by simp, rfl, fun p hp t => by simp [left, come]⟩, by simp [QL], by simpa using k0⟩
 . rintro i _ hi ⟨x, z, pl, s5, s6, s7, s8, s9, gU, uO, s12, qj, rfl, ⟨h5, h6, h7, h8, h9, h10, h11, h12, h13⟩, hp, hb, hn⟩
   simp [h5]
   apply aa
   simp
   refine ⟨by omega, ?_⟩
   refine fW (JPi y m last most i ws) ?_ ?_ ⟨x, z, pl, s6, s7, s8, s9, gU, uO, s12, qj, rfl, ⟨h6, h7, h8, h9, h10, h11, h12, h13⟩, hp, hb, hn⟩
   . rintro j _ hj ⟨x, z, pl, s6, s7, s8, s9, gU, uO, s12, qj, rfl, ⟨h6, h7, h8, h9, h10, h11, h12, h13⟩, hp, hb, hn⟩
     obtain ⟨hg, hmem⟩ := fB (ws := ws) (k := (j : Int)) (by omega) (by omega)
     have hv := hk.ok _ hmem
     have RK := hp.Wq
     generalize XR : wy ws (j : Int) = v at *
     simp [h6]
     apply aa
     simp [hg, Wy.d, h7, h8, h9, h10]
     apply aa
     simp [h11]
     have hr0 := hv.r0
     have hr1 := hv.r1
     refine qt (fun ρ => ∃ (free : Int) (s12 : Sl), ρ = [.own true [.int x, .int y, .int z], .val false (bK m ws), .val false (.int last), .val false (.int most), .own false (pl.map Tr.d), .val false (.int i), .val false (.int j), .val false (.int v.s), .val false (.int v.t), .val false (.int v.r), .val false (.int v.h), .val false (.int free), s12, qj] /\ fr s12 = true /\ free <= v.r /\ (1 <= v.s -> free <= come ws pl v.s i - left ws pl v.s i)) ?_ ?_
     . by_cases c : 0 < v.s
       . simp [c]
         first|apply aa|apply ao
         simp
         refine Ba (.inl (.inl ⟨_, rfl⟩)) RK (by omega) ?_
         simp [h12]
         apply aa
         simp
         refine zj (.inl (.inl ⟨_, rfl⟩)) RK (by omega) ?_
         simp
         apply aa
         simp
         refine ⟨_, _, ⟨rfl, rfl⟩, rfl, ?_, fun _ => ?_⟩
         . split <;> omega
         . split <;> omega
       . simp [c]
         exact ⟨_, _, ⟨rfl, rfl⟩, h12, Int.le_refl _, fun h => absurd h (by omega)⟩
     rintro _ ⟨free, s12, rfl, h12, f1, f2⟩
     refine qt (fun ρ => ∃ (free : Int), ρ = [.own true [.int x, .int y, .int z], .val false (bK m ws), .val false (.int last), .val false (.int most), .own false (pl.map Tr.d), .val false (.int i), .val false (.int j), .val false (.int v.s), .val false (.int v.t), .val false (.int v.r), .val false (.int v.h), .val false (.int free), s12, qj] /\ free <= v.r /\ (1 <= v.s -> 0 < free -> free <= come ws pl v.s i - left ws pl v.s i) /\ (0 < free -> (i : Int) + v.h <= last /\ (pl.length : Int) + 1 <= most)) ?_ ?_
     . by_cases c1 : last < (i : Int) + v.h
       . simp [c1]
         first|apply aa|apply ao
         simp
         exact hr0
       . by_cases c2 : (pl.length : Int) = most
         . simp [c1, c2]
           first|apply aa|apply ao
           simp
           exact hr0
         . simp [c1, c2]
           exact ⟨f1, fun h _ => f2 h, fun _ => ⟨by omega, by omega⟩⟩
     rintro _ ⟨free, rfl, f1, f2, f3⟩
     first|apply aa|apply ao
     by_cases c : 0 < free
     . simp [c]
       refine aW (by decide) (by decide) fun d x z d0 d1 => ?_
       by_cases c3 : 0 < d
       . simp [c3]
         first|apply aa|apply ao
         simp
         refine aW (by decide) (by decide) fun a x z a0 a1 => ?_
         simp
         refine aW c (mV (by omega)) fun e x z e0 e1 => ?_
         simp [show -18446744073709551616 < a by omega, show a < 18446744073709551616 by omega, h13]
         have hae : 0 <= a * e /\ a * e <= e := by
          have : a = 0 \/ a = 1 := by omega
          rcases this with rfl | rfl
          . simp; omega
          . simp; omega
         first|apply aa|apply ao
         obtain ⟨f4, f5⟩ := f3 c
         simp [show pl.length < lim by show _ < 16777216; omega]
         obtain ⟨g1, g2⟩ := K1 (l := free - a * e) hp hb (by omega) hj (by omega) (by rw [XR]; omega) (by rw [XR]; omega) (by rw [XR]; intro h; have := f2 h c; omega)
         exact ⟨x, z, pl ++ [⟨i, j, free - a * e⟩], .val false (.int j), .val false (.int v.s), .val false (.int v.t), .val false (.int v.r), .val false (.int v.h), .val false (.int free), s12, .val false (.int (a * e)), by simp [Tr.d], ⟨rfl, rfl, rfl, rfl, rfl, rfl, h12, rfl⟩, g1, g2, by simp; omega⟩
       . simp [c3]
         exact ⟨x, z, pl, _, _, _, _, _, _, _, _, rfl, ⟨rfl, rfl, rfl, rfl, rfl, rfl, h12, h13⟩, hp, fun x hx => by have := hb x hx; omega, hn⟩
     . simp [c]
       exact ⟨x, z, pl, _, _, _, _, _, _, _, _, rfl, ⟨rfl, rfl, rfl, rfl, rfl, rfl, h12, h13⟩, hp, fun x hx => by have := hb x hx; omega, hn⟩
   . rintro _ ⟨x, z, pl, s6, s7, s8, s9, gU, uO, s12, qj, rfl, ⟨h6, h7, h8, h9, h10, h11, h12, h13⟩, hp, hb, hn⟩
     simp
     exact ⟨x, z, pl, _, _, _, _, _, _, _, _, _, rfl, ⟨rfl, h6, h7, h8, h9, h10, h11, h12, h13⟩, hp, fun x hx => by have := hb x hx; omega, hn⟩
 . rintro _ ⟨x, z, pl, s5, s6, s7, s8, s9, gU, uO, s12, qj, rfl, _, hp, hb, hn⟩
   first|apply aa|apply ao
   simp
   exact q pl x z hp hn
end T
end
section
namespace T
open HH
noncomputable def rN (a b : Int) (v : Wy) : Wy := ⟨v.s, v.t, v.r * b, v.h * a⟩
noncomputable def xj (a b : Int) (x : Tr) : Tr := ⟨x.h * a, x.w, x.l * b⟩
theorem xK {a b k : Int} {ws : List Wy} : wy (ws.map (rN a b)) k = rN a b (wy ws k) := by
 unfold wy
 rw [List.getElem?_map]
 cases ws[k.toNat]? with
 | none => simp [rN]
 | some v => rfl
theorem zp {a b : Int} {ws : List Wy} {x : Tr} : dM (ws.map (rN a b)) (xj a b x) = dM ws x * a := by
 unfold dM
 show x.h * a + (wy (ws.map (rN a b)) x.w).h = _
 rw [xK]
 show x.h * a + (wy ws x.w).h * a = _
 rw [Int.add_mul]
theorem G4 {a t k : Int} (h : 0 < a) : iu t (k * a) = iu (t / a) k := by
 unfold iu
 rw [decide_eq_decide]
 exact (Int.le_ediv_iff_mul_le h).symm
theorem Dz {a b p t : Int} {ws : List Wy} {pl : List Tr} (h : 0 < a) : come (ws.map (rN a b)) (pl.map (xj a b)) p t = come ws pl p (t / a) * b := by
 unfold come
 rw [qK, <- u6]
 refine fG fun x _ => ?_
 have e1 : (wy (ws.map (rN a b)) (xj a b x).w).t = (wy ws x.w).t := by show (wy _ x.w).t = _; rw [xK]; rfl
 have e2 : iu t (dM (ws.map (rN a b)) (xj a b x)) = iu (t / a) (dM ws x) := by rw [zp, G4 h]
 unfold Ce
 by_cases c : (wy ws x.w).t = p /\ iu (t / a) (dM ws x) = true
 . rw [if_pos c, if_pos (by rw [e1, e2]; exact c)]; rfl
 . rw [if_neg c, if_neg (by rw [e1, e2]; exact c)]; simp
theorem Cr {a b p t : Int} {ws : List Wy} {pl : List Tr} (h : 0 < a) : left (ws.map (rN a b)) (pl.map (xj a b)) p t = left ws pl p (t / a) * b := by
 unfold left
 rw [qK, <- u6]
 refine fG fun x _ => ?_
 have e1 : (wy (ws.map (rN a b)) (xj a b x).w).s = (wy ws x.w).s := by show (wy _ x.w).s = _; rw [xK]; rfl
 have e2 : iu t (xj a b x).h = iu (t / a) x.h := G4 h
 unfold Dd
 by_cases c : (wy ws x.w).s = p /\ iu (t / a) x.h = true
 . rw [if_pos c, if_pos (by rw [e1, e2]; exact c)]; rfl
 . rw [if_neg c, if_neg (by rw [e1, e2]; exact c)]; simp
theorem Fq {a x y : Int} (h : 0 < a) : x * a < y * a ↔ x < y := Int.mul_lt_mul_right h
theorem Ea {a x y : Int} (h : 0 < a) : x * a = y * a ↔ x = y := Int.mul_eq_mul_right_iff (by omega)
theorem tY {a b : Int} (h : 0 < a) : ∀ {pl : List Tr}, cU (pl.map (xj a b)) = cU pl
 | [] => rfl
 | [_] => rfl
 | x :: y :: r => by
   have ih := tY (a := a) (b := b) h (pl := y :: r)
   simp only [List.map_cons] at ih ⊢
   simp only [cU, ih]
   congr 1
   show aQ [x.h * a, x.w] [y.h * a, y.w] = aQ [x.h, x.w] [y.h, y.w]
   rw [Bool.eq_iff_iff]; simp [aQ, Fq h, Ea h]
theorem QF {a b last : Int} {ws : List Wy} {pl : List Tr} (ha : 0 < a) (hb : 0 < b) (h : Pl last ws pl) : Pl (last * a) (ws.map (rN a b)) (pl.map (xj a b)) := by
 refine ⟨fun x hx => ?_, by rw [tY ha]; exact h.Ge, fun p hp t => ?_⟩
 . obtain ⟨y, hy, rfl⟩ := List.mem_map.mp hx
   obtain ⟨h1, h2, ⟨h3, h3'⟩, h4, h5⟩ := h.ok y hy
   refine ⟨Int.mul_nonneg h1 (by omega), ?_, ⟨h3, by show y.w < ((ws.map _).length : Int); simpa using h3'⟩, ?_, ?_⟩
   . show 1 <= y.l * b
     have := Int.mul_le_mul h2 (show 1 <= b by omega) (by decide) (by omega)
     omega
   . show y.l * b <= (wy (ws.map (rN a b)) y.w).r
     rw [xK]
     exact Int.mul_le_mul_of_nonneg_right h4 (by omega)
   . rw [zp]; exact Int.mul_le_mul_of_nonneg_right h5 (by omega)
 . rw [Dz ha, Cr ha]
   exact Int.mul_le_mul_of_nonneg_right (h.ZL p hp _) (by omega)
theorem Ju {a b m : Int} {ws : List Wy} (ha : 1 <= a) (ha2 : a <= 250000) (hb : 1 <= b) (hb2 : b <= 100000000) (h : jf m ws) (hs : ∀ v ∈ ws, v.r <= 9 /\ v.h <= 4) : jf m (ws.map (rN a b)) := by
 refine ⟨h.m0, h.m1, by simpa using h.len, fun v hv => ?_⟩
 obtain ⟨u, hu, rfl⟩ := List.mem_map.mp hv
 have hok := h.ok u hu
 have := hs u hu
 have r0 := hok.r0
 have h0 := hok.h0
 have e1 : u.r * b <= 9 * b := Int.mul_le_mul_of_nonneg_right this.1 (by omega)
 have e2 : 0 <= u.r * b := Int.mul_nonneg r0 (by omega)
 have e3 : u.h * a <= 4 * a := Int.mul_le_mul_of_nonneg_right this.2 (by omega)
 have e4 : 1 * a <= u.h * a := Int.mul_le_mul_of_nonneg_right h0 (by omega)
 exact ⟨hok.s0, hok.s1, hok.t0, hok.t1, hok.ne, e2, by show u.r * b <= _; omega, by show 1 <= u.h * a; omega, by show u.h * a <= _; omega⟩
noncomputable def Sc (last : Int) (ws : List Wy) (pl : List Tr) (oR : Int) (ws' : List Wy) (Hl : List Tr) : Prop := ∃ a b, 1 <= a /\ 1 <= b /\ ws' = ws.map (rN a b) /\ Hl = pl.map (xj a b) /\ oR = last * a
theorem JG {last : Int} {ws : List Wy} {pl : List Tr} : Sc last ws pl last ws pl := by
 refine ⟨1, 1, by decide, by decide, ?_, ?_, by simp⟩
 . exact (List.map_id'' (fun v => by simp [rN]) ws).symm
 . exact (List.map_id'' (fun v => by simp [xj]) pl).symm
inductive JG1 (a b : Int) (a0 a1 a2 a3 a4 a5 : Sl) (ws : List Wy) (r : List D) (ρ : List Sl) : Prop where
 | mk (us vs : List Wy) (s7 s8 s9 gU : Sl) (q0 : ρ = [a0, a1, a2, a3, a4, a5, .own false ((vs.map (rN a b)).map Wy.d), s7, s8, s9, gU, .bj, .bj, .bj, .bj]) (q1 : A4 (fr s7 = true) (fr s8 = true) (fr s9 = true) (fr gU = true)) (q2 : r = us.map Wy.d) (q3 : ws = vs ++ us)
inductive JG2 (a b : Int) (a0 a1 a2 a3 a4 a5 a6 a7 a8 a9 a10 : Sl) (pl : List Tr) (r : List D) (ρ : List Sl) : Prop where
 | mk (us vs : List Tr) (s12 qj Ms : Sl) (q0 : ρ = [a0, a1, a2, a3, a4, a5, a6, a7, a8, a9, a10, .own false ((vs.map (xj a b)).map Tr.d), s12, qj, Ms]) (q1 : A3 (fr s12 = true) (fr qj = true) (fr Ms = true)) (q2 : r = us.map Tr.d) (q3 : pl = vs ++ us)
theorem pM {w n : Nat} {x y z m last : Int} {ws : List Wy} {pl : List Tr} {Q : R -> List Sl -> Prop} (hk : jf m ws) (hs : ∀ v ∈ ws, v.r <= 9 /\ v.h <= 4) (hp : Pl last ws pl) (hl : pl.length <= 45) (l0 : 1 <= last) (l1 : last <= 8)
 (q : ∀ (x z oR : Int) (ws' : List Wy) (Hl : List Tr) (s2 : Sl), jf m ws' -> Pl oR ws' Hl -> Hl.length = pl.length -> 1 <= oR -> oR <= 2000000 -> ((s2 = .own true (pl.map Tr.d)) \/ s2 = .val true (.lst (pl.map Tr.d))) -> Sc last ws pl oR ws' Hl -> Q (.val (.tup [bK m ws', .lst (Hl.map Tr.d), .int oR])) [.own true [.int x, .int y, .int z], .val false (bK m ws), s2, .val false (.int last)]) :
 (run Γ w (n + 2) 12 [.own true [.int x, .int y, .int z], .val false (bK m ws), .own true (pl.map Tr.d), .val false (.int last)]).sat Q := by
 have hlen := hk.len
 refine bA (d := Sy) rfl rfl (by decide) ?_
 first|apply aa|apply ao
 simp [Sy]
 refine aW (by decide) (by decide) fun d x z d0 d1 => ?_
 simp
 refine ⟨fun _ => ?_, fun _ => ?_⟩
 . first|apply aa|apply ao
   simp
   exact q x z last ws pl _ hk hp rfl l0 (by omega) (.inr rfl) JG
 first|apply aa|apply ao
 simp
 refine aW (by decide) (by decide) fun a0 x z a1 a2 => ?_
 simp
 apply aa
 simp
 refine aW (by decide) (by decide) fun b0 x z b1 b2 => ?_
 simp
 obtain ⟨a, ea, a3, a4⟩ : ∃ a, a = 1 + a0 /\ 1 <= a /\ a <= 250000 := ⟨_, rfl, by omega, by omega⟩
 obtain ⟨b, eb, b3, b4⟩ : ∃ b, b = 1 + b0 /\ 1 <= b /\ b <= 100000000 := ⟨_, rfl, by omega, by omega⟩
 rw [<- ea, <- eb]
 first|apply aa|apply ao
 simp
 apply aa
 simp
 refine cC (JG1 a b _ _ _ _ _ _ ws) ?_ ?_ ⟨ws, [], .bj, .bj, .bj, .bj, rfl, ⟨rfl, rfl, rfl, rfl⟩, rfl, rfl⟩
 . rintro d r _ ⟨us, vs, s7, s8, s9, gU, rfl, ⟨h7, h8, h9, h10⟩, hr, hw⟩
   cases us with
   | nil => cases hr
   | cons v us =>
     obtain ⟨rfl, rfl⟩ : d = v.d /\ r = us.map Wy.d := by simpa using hr
     have hl2 : vs.length <= 12 := by have := congrArg List.length hw; simp at this; omega
     simp [Wy.d, h7, h8, h9, h10]
     apply aa
     simp [show -18446744073709551616 < b by omega, show b < 18446744073709551616 by omega, show -18446744073709551616 < a by omega, show a < 18446744073709551616 by omega, show vs.length < lim by show _ < 16777216; omega]
     exact ⟨us, vs ++ [v], _, _, _, _, by simp [Wy.d, rN]; exact ⟨rfl, rfl, rfl, rfl⟩, ⟨rfl, rfl, rfl, rfl⟩, rfl, by simp [hw]⟩
 rintro _ ⟨us, vs, s7, s8, s9, gU, rfl, _, hr, hw⟩
 have hr' : us = [] := by cases us with | nil => rfl | cons _ _ => cases hr
 subst hr'
 simp at hw
 subst hw
 first|apply aa|apply ao
 simp
 apply aa
 simp
 refine cC (JG2 a b _ _ _ _ _ _ _ _ _ _ _ pl) ?_ ?_ ⟨pl, [], .bj, .bj, .bj, rfl, ⟨rfl, rfl, rfl⟩, rfl, rfl⟩
 . rintro d r _ ⟨us, vs, s7, s8, s9, rfl, ⟨h7, h8, h9⟩, hr, hw⟩
   cases us with
   | nil => cases hr
   | cons v us =>
     obtain ⟨rfl, rfl⟩ : d = v.d /\ r = us.map Tr.d := by simpa using hr
     have hl2 : vs.length <= 45 := by have := congrArg List.length hw; simp at this; omega
     simp [Tr.d, h7, h8, h9]
     apply aa
     simp [show -18446744073709551616 < b by omega, show b < 18446744073709551616 by omega, show -18446744073709551616 < a by omega, show a < 18446744073709551616 by omega, show vs.length < lim by show _ < 16777216; omega]
     exact ⟨us, vs ++ [v], _, _, _, by simp [Tr.d, xj]; exact ⟨rfl, rfl, rfl⟩, ⟨rfl, rfl, rfl⟩, rfl, by simp [hw]⟩
 rintro _ ⟨us, vs, s7, s8, s9, rfl, _, hr, hw⟩
 have hr' : us = [] := by cases us with | nil => rfl | cons _ _ => cases hr
 subst hr'
 simp at hw
 subst hw
 first|apply aa|apply ao
 simp [show -18446744073709551616 < a by omega, show a < 18446744073709551616 by omega]
 have hla : last * a <= 8 * a := Int.mul_le_mul_of_nonneg_right l1 (by omega)
 have hla2 : 1 * a <= last * a := Int.mul_le_mul_of_nonneg_right l0 (by omega)
 have := q x z (last * a) (ws.map (rN a b)) (pl.map (xj a b)) _ (Ju a3 a4 b3 b4 hk hs) (QF (by omega) (by omega) hp) (by simp) (by omega) (by omega) (.inl rfl) ⟨a, b, a3, b3, rfl, rfl, rfl⟩
 simpa [bK] using this
end T
end
section
namespace T
open HH
noncomputable def yl (a b : Tr) : Prop := a.h < b.h \/ a.h = b.h /\ a.w < b.w
theorem Em {a b : Tr} : aQ [a.h, a.w] [b.h, b.w] = true ↔ yl a b := by simp [aQ, yl]
theorem gf : ∀ {pl : List Tr}, cU pl = true ↔ pl.Pairwise yl
 | [] => by simp [cU]
 | [a] => by simp [cU]
 | a :: b :: r => by
   have ih := gf (pl := b :: r)
   simp only [cU, Bool.and_eq_true, Em, ih]
   rw [List.pairwise_cons (a := a)]
   refine ⟨fun ⟨h1, h2⟩ => ⟨fun c hc => ?_, h2⟩, fun ⟨h1, h2⟩ => ⟨h1 b (by simp), h2⟩⟩
   rcases List.mem_cons.mp hc with rfl | hc
   . exact h1
   . have := (List.pairwise_cons.mp h2).1 c hc
     unfold yl at *; omega
noncomputable def neT (a b : Tr) : Prop := ¬ (a.h = b.h /\ a.w = b.w)
theorem xf {pl : List Tr} : ∃ ks : List Tr, gG (pl.map Tr.d) = ks.map Tr.d /\ ks.Perm pl /\ (pl.Pairwise neT -> cU ks = true) := by
 have hp := fC (pl.map Tr.d)
 have hs := gP (pl.map Tr.d)
 let g : D -> Tr := fun d => match d with | .tup [.int h, .int w, .int l] => ⟨h, w, l⟩ | _ => ⟨0, 0, 0⟩
 have hg : ∀ x : Tr, g x.d = x := fun x => rfl
 have e : gG (pl.map Tr.d) = ((gG (pl.map Tr.d)).map g).map Tr.d := by
  rw [List.map_map]
  refine ((List.map_congr_left fun d hd => ?_).trans (List.map_id _)).symm
  obtain ⟨i, _, rfl⟩ := List.mem_map.mp (hp.mem_iff.mp hd)
  rfl
 have hp2 : ((gG (pl.map Tr.d)).map g).Perm pl := by
  have := hp.map g
  rw [List.map_map] at this
  exact this.trans (.of_eq ((List.map_congr_left fun d _ => rfl).trans (List.map_id _)))
 refine ⟨_, e, hp2, fun hn => ?_⟩
 rw [gf]
 have hn2 : ((gG (pl.map Tr.d)).map g).Pairwise neT := (hp2.pairwise_iff (fun {a b} h => by unfold neT at *; omega)).mpr hn
 have hs2 : ((gG (pl.map Tr.d)).map g).Pairwise fun a b => iU a.d b.d = true := by
  rw [e, List.pairwise_map] at hs
  exact hs
 refine (hs2.and hn2).imp fun {a b} ⟨h1, h2⟩ => ?_
 simp [iU, bF, Tr.d, cB, aQ] at h1
 unfold neT at h2
 unfold yl
 omega
theorem dg {pl : List Tr} (h : pl.length < 1000) : sortable (pl.map Tr.d) = true := by
 have h := (show pl.length <= 16777216 by omega)
 simp [sortable, h, ou, dC, Tr.d]
end T
end
section
namespace T
open HH
noncomputable def gd : Nat -> D -> Bool
 | _, .non => true
 | _, .int _ => true
 | k + 1, .tup ds => decide (ds.length <= 1000) && ds.all (gd k)
 | k + 1, .lst ds => decide (ds.length <= 1000) && ds.all (gd k)
 | _, _ => false
theorem Sg {α : Type} {l : List α} : (l.map fun _ => D.bl true).mapM sO = some (l.map fun _ => true) := by
 induction l with
 | nil => rfl
 | cons a l ih => simp [ih]
theorem all_true {α : Type} {l : List α} : (l.map fun _ => true).all id = true := by simp
theorem gZ : ∀ (k : Nat) (d : D), gd k d = true -> bz d d = true := by
 have seq : ∀ (k : Nat), (∀ d, gd k d = true -> bz d d = true) -> ∀ ds : List D, ds.all (gd k) = true -> eH ds ds = true := by
  intro k ih ds
  induction ds with
  | nil => intro _; rw [eH]
  | cons d ds ihd =>
    intro h
    rw [List.all_cons, Bool.and_eq_true] at h
    rw [eH, ih d h.1, ihd h.2]; rfl
 intro k
 induction k with
 | zero => intro d g; cases d with
   | non => rw [bz]
   | int i => rw [bz]; simp
   | bl b => cases g
   | str s => cases g
   | dB s => cases g
   | tup ds => cases g
   | lst ds => cases g
 | succ k ih => intro d g; cases d with
   | non => rw [bz]
   | int i => rw [bz]; simp
   | bl b => cases g
   | str s => cases g
   | dB s => cases g
   | tup ds => rw [gd, Bool.and_eq_true] at g; rw [bz]; exact seq k ih ds g.2
   | lst ds => rw [gd, Bool.and_eq_true] at g; rw [bz]; exact seq k ih ds g.2
theorem Ao : ∀ (k j : Nat) (d : D), k <= j -> gd k d = true -> cN j d = true := by
 intro k
 induction k with
 | zero => intro j d _ g; cases d with
   | non => rw [cN]
   | int i => rw [cN]
   | bl b => cases g
   | str s => cases g
   | dB s => cases g
   | tup ds => cases g
   | lst ds => cases g
 | succ k ih => intro j d hj g; cases d with
   | non => rw [cN]
   | int i => rw [cN]
   | bl b => cases g
   | str s => cases g
   | dB s => cases g
   | tup ds =>
     rw [gd, Bool.and_eq_true] at g
     obtain ⟨j, rfl⟩ : ∃ i, j = i + 1 := ⟨j - 1, by omega⟩
     exact Bp fun d hd => ih j d (by omega) (List.all_eq_true.mp g.2 d hd)
   | lst ds =>
     rw [gd, Bool.and_eq_true] at g
     obtain ⟨j, rfl⟩ : ∃ i, j = i + 1 := ⟨j - 1, by omega⟩
     exact wY fun d hd => ih j d (by omega) (List.all_eq_true.mp g.2 d hd)
theorem ne_self {k : Nat} {d : D} (hk : k <= 8) (h : gd k d = true) : cm .ne d d = some false := by
 show qp d d = _
 unfold qp
 rw [Ao k 8 d hk h, gZ k d h]; rfl
theorem eq_self {k : Nat} {d : D} (hk : k <= 8) (h : gd k d = true) : cm .eq d d = some true := by
 show sY d d = _
 unfold sY
 rw [Ao k 8 d hk h, gZ k d h]; rfl
end T
end
section
namespace T
open HH
noncomputable def atK (h k : Int) (x : Tr) : Int := if x.h = h /\ x.w = k then x.l else 0
noncomputable def dw (ws : List Wy) (pl : List Tr) (h k : Int) : Int := (wy ws k).r - sm (atK h k) pl
noncomputable def Az (h k : Int) : D -> Option D
 | .tup [.int a, .int b, .int l] => if a = h /\ b = k then some (.int l) else none
 | _ => none
theorem lZ {h k : Int} {x : Tr} : Az h k x.d = if x.h = h /\ x.w = k then some (.int x.l) else none := rfl
theorem rO {h k : Int} : ∀ {pl : List Tr}, ∃ ns : List Int, (pl.map Tr.d).filterMap (Az h k) = ns.map D.int /\ ns.sum = sm (atK h k) pl
 | [] => ⟨[], rfl, rfl⟩
 | x :: pl => by
   obtain ⟨ns, h1, h2⟩ := rO (h := h) (k := k) (pl := pl)
   by_cases c : x.h = h /\ x.w = k
   . exact ⟨x.l :: ns, by rw [List.map_cons, List.filterMap_cons, lZ, if_pos c, h1]; rfl, by simp [atK, c, h2]⟩
   . exact ⟨ns, by rw [List.map_cons, List.filterMap_cons, lZ, if_neg c, h1], by rw [bW, atK, if_neg c, h2]; omega⟩
theorem qy {a b h k : Int} : cm .eq (.tup [.int a, .int b]) (.tup [.int h, .int k]) = some (decide (a = h /\ b = k)) := by
 show sY _ _ = _
 have e : bz (.tup [.int a, .int b]) (.tup [.int h, .int k]) = decide (a = h /\ b = k) := by
  simp only [bz, eH, Bool.and_true]
  rw [Bool.eq_iff_iff]; simp
 show some (bz (.tup [.int a, .int b]) (.tup [.int h, .int k])) = _
 rw [e]
theorem mH {x : Tr} : Lx x.d (some none) (some (some 2)) = some (.val (.tup [.int x.h, .int x.w])) := rfl
theorem tE {w n : Nat} {m h k : Int} {b : Bool} {ws : List Wy} {pl : List Tr} {Q : R -> List Sl -> Prop} (h0 : 0 <= k) (h1 : k < (ws.length : Int)) (hl : pl.length <= 1000)
 (q : Q (.val (.int (dw ws pl h k))) [.val false (bK m ws), .own b (pl.map Tr.d), .val false (.int h), .val false (.int k)]) :
 (run Γ w (n + 1) 14 [.val false (bK m ws), .own b (pl.map Tr.d), .val false (.int h), .val false (.int k)]).sat Q := by
 have hlim : pl.length <= lim := by show _ <= 16777216; omega
 refine bA (d := RT) rfl rfl (by decide) ?_
 first|apply aa|apply ao
 simp [RT, hlim]
 refine dD (F5 _ _ _ _ _) (Az h k) ⟨.bj, rfl, rfl⟩ ?_ ?_
 . rintro d hd _ ⟨s, rfl, hs⟩
   obtain ⟨x, hx, rfl⟩ := List.mem_map.mp hd
   by_cases c : x.h = h /\ x.w = k
   . simp [hs, part, vM, mH, qy, c, zP, lZ]
     exact ⟨_, rfl, rfl⟩
   . simp [hs, part, vM, mH, qy, lZ]
     exact .inl ⟨fun z1 z2 => c ⟨z1, z2⟩, _, rfl, rfl⟩
 rintro _ ⟨s, rfl, hs⟩
 obtain ⟨ns, e3, e4⟩ := rO (h := h) (k := k) (pl := pl)
 rw [e3]
 simp
 apply aa
 simp [(fB h0 h1).1, Vx]
 rw [e4]
 exact q
noncomputable def OpenK (ws : List Wy) (pl : List Tr) (last h here k : Int) : Prop := (0 <= k /\ k < (ws.length : Int)) /\ (wy ws k).s = here /\ 0 < (wy ws k).t /\ h + (wy ws k).h <= last /\ 0 < dw ws pl h k
inductive JO (ws : List Wy) (pl : List Tr) (last h here : Int) (a0 a1 a2 a3 a4 : Sl) (i : Nat) (ρ : List Sl) : Prop where
 | mk (os : List Int) (s6 s7 s8 s9 gU : Sl) (q0 : ρ = [a0, a1, a2, a3, a4, .own false (os.map D.int), s6, s7, s8, s9, gU]) (q1 : A5 (fr s6 = true) (fr s7 = true) (fr s8 = true) (fr s9 = true) (fr gU = true)) (q2 : (∀ k ∈ os, OpenK ws pl last h here k)) (q3 : os.length <= i)
theorem Ax {w n : Nat} {m last h here : Int} {b : Bool} {ws : List Wy} {pl : List Tr} {Q : R -> List Sl -> Prop} (hk : jf m ws) (hl : pl.length <= 1000)
 (q : ∀ os : List Int, (∀ k ∈ os, OpenK ws pl last h here k) -> os.length <= 12 -> Q (.own (os.map D.int)) [.val false (bK m ws), .val false (.int last), .own b (pl.map Tr.d), .val false (.int h), .val false (.int here)]) :
 (run Γ w (n + 2) 15 [.val false (bK m ws), .val false (.int last), .own b (pl.map Tr.d), .val false (.int h), .val false (.int here)]).sat Q := by
 have hlen := hk.len
 refine bA (d := Sq) rfl rfl (by decide) ?_
 first|apply aa|apply ao
 simp [Sq]
 apply aa
 simp
 refine ⟨by omega, ?_⟩
 refine fW (JO ws pl last h here _ _ _ _ _) ?_ ?_ ⟨[], .bj, .bj, .bj, .bj, .bj, rfl, ⟨rfl, rfl, rfl, rfl, rfl⟩, by simp, by simp⟩
 . rintro i _ hi ⟨os, s6, s7, s8, s9, gU, rfl, ⟨h6, h7, h8, h9, h10⟩, ho, hn⟩
   obtain ⟨hg, hmem⟩ := fB (ws := ws) (k := (i : Int)) (by omega) (by omega)
   have hfin : ∀ (s : Sl), fr s = true -> JO ws pl last h here (.val false (bK m ws)) (.val false (.int last)) (.own b (pl.map Tr.d)) (.val false (.int h)) (.val false (.int here)) (i + 1) [.val false (bK m ws), .val false (.int last), .own b (pl.map Tr.d), .val false (.int h), .val false (.int here), .own false (os.map D.int), .val false (.int (i : Int)), .val false (.int (wy ws i).s), .val false (.int (wy ws i).t), .val false (.int (wy ws i).r), .val false (.int (wy ws i).h)] := fun _ _ => ⟨os, _, _, _, _, _, rfl, ⟨rfl, rfl, rfl, rfl, rfl⟩, ho, by omega⟩
   simp [h6]
   apply aa
   simp [hg, Wy.d, h7, h8, h9, h10]
   apply aa
   by_cases c1 : (wy ws i).s = here
   . by_cases c2 : 0 < (wy ws i).t
     . by_cases c3 : h + (wy ws i).h <= last
       . simp [c1, c2, c3]
         first|apply aa|apply ao
         simp
         refine tE (by omega) (by omega) hl ?_
         by_cases c4 : 0 < dw ws pl h i
         . simp [c4]
           first|apply aa|apply ao
           simp [show os.length < lim by show _ < 16777216; omega]
           refine ⟨os ++ [(i : Int)], .val false (.int (i : Int)), .val false (.int here), .val false (.int (wy ws i).t), .val false (.int (wy ws i).r), .val false (.int (wy ws i).h), by simp, ⟨rfl, rfl, rfl, rfl, rfl⟩, fun k hk' => ?_, by simp; omega⟩
           rcases List.mem_append.mp hk' with hk' | hk'
           . exact ho k hk'
           . rw [List.mem_singleton.mp hk']
             exact ⟨⟨by omega, by omega⟩, c1, c2, c3, c4⟩
         . simp [c4]
           exact ⟨os, _, _, _, _, _, rfl, ⟨rfl, rfl, rfl, rfl, rfl⟩, ho, by omega⟩
       . simp [c1, c2, c3]
         exact ⟨os, _, _, _, _, _, rfl, ⟨rfl, rfl, rfl, rfl, rfl⟩, ho, by omega⟩
     . simp [c1, c2]
       exact ⟨os, _, _, _, _, _, rfl, ⟨rfl, rfl, rfl, rfl, rfl⟩, ho, by omega⟩
   . simp [c1]
     exact ⟨os, _, _, _, _, _, rfl, ⟨rfl, rfl, rfl, rfl, rfl⟩, ho, by omega⟩
 . rintro _ ⟨os, s6, s7, s8, s9, gU, rfl, _, ho, hn⟩
   first|apply aa|apply ao
   simp
   exact q os ho (by omega)
end T
end
section
namespace T
open HH
noncomputable def one (p : Int × Int) : Tr := ⟨p.1, p.2, 1⟩
noncomputable def PD (p : Int × Int) : D := .tup [.int p.1, .int p.2]
structure Way (m last : Int) (ws : List Wy) (pl : List Tr) (here arr : Int) (js : List (Int × Int)) : Prop where
 ok : ∀ p ∈ js, (0 <= p.1 /\ p.1 < arr) /\ (0 <= p.2 /\ p.2 < (ws.length : Int)) /\ p.1 + (wy ws p.2).h <= last /\ (wy ws p.2).t ≠ 0 /\ (wy ws p.2).s ≠ m - 1 /\ 0 < dw ws pl p.1 p.2
 dis : js.Pairwise fun a b => a.1 < b.1
 st : ∀ p, 1 <= p -> ∀ t, 0 <= stP ws (js.map one) p (iu t)
 now : ∀ p, 1 <= p -> ∀ t, arr <= t -> stP ws (js.map one) p (iu t) = if p = here then 1 else 0
 ar : 0 <= arr /\ arr <= last
 he : 0 <= here /\ here < m
 ne : js = [] -> here = 0
theorem Dh {m last here arr h k : Int} {ws : List Wy} {pl : List Tr} {js : List (Int × Int)} (hk : jf m ws) (w : Way m last ws pl here arr js) (ha : arr <= h) (hm : here < m - 1) (ho : OpenK ws pl last h here k) : Way m last ws pl (wy ws k).t (h + (wy ws k).h) (js ++ [(h, k)]) := by
 obtain ⟨⟨k0, k1⟩, o1, o2, o3, o4⟩ := ho
 have hv := hk.ok _ (fB k0 k1).2
 have a0 := w.ar.1
 have hh := hv.h0
 have e : ∀ p t, stP ws ((js ++ [(h, k)]).map one) p (iu t) = stP ws (js.map one) p (iu t) + ((if (wy ws k).t = p /\ h + (wy ws k).h <= t then 1 else 0) - (if (wy ws k).s = p /\ h <= t then 1 else 0)) := fun p t => by
  have e1 : KP ws p (iu t) (one (h, k)) = (if (wy ws k).t = p /\ h + (wy ws k).h <= t then 1 else 0) - (if (wy ws k).s = p /\ h <= t then 1 else 0) := by
   unfold KP Ce Dd dM iu one
   simp only [decide_eq_true_eq]
  rw [List.map_append]
  show sm (KP ws p (iu t)) (js.map one ++ [one (h, k)]) = sm (KP ws p (iu t)) (js.map one) + _
  rw [jy]
  show _ + (KP ws p (iu t) (one (h, k)) + 0) = _
  rw [e1]; omega
 refine ⟨fun p hp => ?_, ?_, fun p h1 t => ?_, fun p h1 t ht => ?_, ⟨by omega, o3⟩, ⟨hv.t0, hv.t1⟩, fun z => by simp at z⟩
 . rcases List.mem_append.mp hp with hp | hp
   . obtain ⟨b1, b2⟩ := w.ok p hp
     exact ⟨⟨b1.1, by omega⟩, b2⟩
   . rw [List.mem_singleton.mp hp]
     exact ⟨⟨by show 0 <= h; omega, by show h < _; omega⟩, ⟨k0, k1⟩, o3, by show (wy ws k).t ≠ 0; omega, by show (wy ws k).s ≠ _; omega, o4⟩
 . rw [List.pairwise_append]
   refine ⟨w.dis, by simp, fun a ha' b hb => ?_⟩
   rw [List.mem_singleton.mp hb]
   have := (w.ok a ha').1
   show a.1 < h
   omega
 . rw [e]
   have s0 := w.st p h1 t
   by_cases c : (wy ws k).s = p /\ h <= t
   . have := w.now p h1 t (by omega)
     rw [if_pos (by omega)] at this
     rw [if_pos c]
     split <;> omega
   . rw [if_neg c]
     split <;> omega
 . rw [e, w.now p h1 t (by omega)]
   by_cases c1 : (wy ws k).t = p
   . rw [if_pos (⟨c1, ht⟩ : (wy ws k).t = p /\ _), if_pos c1.symm]
     have : ¬ p = here := by rw [<- c1, <- o1]; exact fun z => hv.ne z.symm
     rw [if_neg this, if_neg (fun z => this (by rw [<- z.1, o1]))]
     rfl
   . rw [if_neg (fun z => c1 z.1 : ¬ ((wy ws k).t = p /\ h + (wy ws k).h <= t)), if_neg (fun z => c1 z.symm : ¬ p = (wy ws k).t)]
     by_cases c2 : p = here
     . rw [if_pos c2, if_pos ⟨by rw [o1, c2], by omega⟩]; rfl
     . rw [if_neg c2, if_neg (fun z => c2 (by rw [<- z.1, o1]))]; rfl
structure Jn (m last : Int) (ws : List Wy) (pl J : List Tr) : Prop where
 ok : ∀ x ∈ J, 0 <= x.h /\ 1 <= x.l /\ wG ws x /\ dM ws x <= last /\ (wy ws x.w).t ≠ 0 /\ (wy ws x.w).s ≠ m - 1
 dis : J.Pairwise neT
 XC : ∀ x ∈ J, x.l <= dw ws pl x.h x.w
 st : ∀ p, 1 <= p -> ∀ t, 0 <= stP ws J p (iu t)
 cl : ∀ p, 1 <= p -> p < m - 1 -> ∀ t, last <= t -> stP ws J p (iu t) = 0
 len : J.length <= 9
theorem Iv {m last : Int} {ws : List Wy} {pl : List Tr} : Jn m last ws pl [] := ⟨by simp, by simp, by simp, fun _ _ _ => Int.le_refl _, fun _ _ _ _ _ => rfl, by simp⟩
noncomputable def TV (l : Int) (p : Int × Int) : Tr := ⟨p.1, p.2, l⟩
theorem yV {ws : List Wy} {l p : Int} {P : Int -> Bool} {js : List (Int × Int)} : stP ws (js.map (TV l)) p P = stP ws (js.map one) p P * l := by
 unfold stP
 rw [qK, qK, <- u6]
 refine fG fun x _ => ?_
 show (if (wy ws x.2).t = p /\ P (x.1 + (wy ws x.2).h) = true then l else 0) - (if (wy ws x.2).s = p /\ P x.1 = true then l else 0) = ((if (wy ws x.2).t = p /\ P (x.1 + (wy ws x.2).h) = true then 1 else 0) - (if (wy ws x.2).s = p /\ P x.1 = true then 1 else 0)) * l
 rw [Int.sub_mul]
 congr 1
 . split <;> simp
 . split <;> simp
theorem Qa {m last arr l : Int} {ws : List Wy} {pl : List Tr} {js : List (Int × Int)} (w : Way m last ws pl (m - 1) arr js) (hl : js.length <= 9) (l0 : 1 <= l) (l1 : ∀ p ∈ js, l <= dw ws pl p.1 p.2) : Jn m last ws pl (js.map (TV l)) := by
 refine ⟨fun x hx => ?_, ?_, fun x hx => ?_, fun p h1 t => ?_, fun p h1 h2 t ht => ?_, by simpa using hl⟩
 . obtain ⟨p, hp, rfl⟩ := List.mem_map.mp hx
   obtain ⟨b1, b2, b3, b4, b5, _⟩ := w.ok p hp
   exact ⟨b1.1, l0, b2, b3, b4, b5⟩
 . rw [List.pairwise_map]
   refine w.dis.imp fun {a b} h => ?_
   show ¬ (a.1 = b.1 /\ _)
   omega
 . obtain ⟨p, hp, rfl⟩ := List.mem_map.mp hx
   exact l1 p hp
 . rw [yV]; exact Int.mul_nonneg (w.st p h1 t) (by omega)
 . rw [yV, w.now p h1 t (by have := w.ar.2; omega), if_neg (by omega)]; simp
theorem zM : ∀ {ns : List Int} {a : Int}, (ns.foldl min a <= a) /\ (∀ x ∈ ns, ns.foldl min a <= x) /\ (ns.foldl min a = a \/ ns.foldl min a ∈ ns)
 | [], a => by simp
 | b :: ns, a => by
   obtain ⟨h1, h2, h3⟩ := zM (ns := ns) (a := min a b)
   simp only [List.foldl_cons]
   refine ⟨by omega, fun x hx => ?_, ?_⟩
   . rcases List.mem_cons.mp hx with rfl | hx
     . omega
     . exact h2 x hx
   . rcases h3 with h | h
     . rw [h]
       by_cases c : a <= b
       . left; omega
       . right; rw [show min a b = b by omega]; simp
     . right; simp [h]
noncomputable def WK (ws : List Wy) (pl : List Tr) : D -> D
 | .tup [.int h, .int k] => .int (dw ws pl h k)
 | d => d
noncomputable def V0 (l : Int) : D -> D
 | .tup [a, b] => .tup [a, b, .int l]
 | d => d
inductive JJ (y m last : Int) (ws : List Wy) (pl : List Tr) (b : Bool) (i : Nat) (ρ : List Sl) : Prop where
 | mk (x z here hour arr : Int) (js : List (Int × Int)) (s7 s8 s9 : Sl) (q0 : ρ = [.own true [.int x, .int y, .int z], .val false (bK m ws), .val false (.int last), .own b (pl.map Tr.d), .val false (.int here), .val false (.int hour), .own false (js.map PD), s7, s8, s9, .bj, .bj]) (q1 : A3 (fr s7 = true) (fr s8 = true) (fr s9 = true)) (q2 : Way m last ws pl here arr js) (q3 : arr <= hour) (q4 : js.length <= i)
inductive FJ (a0 a1 a2 a3 a4 a5 a6 a7 a8 a9 a10 a11 : Sl) (ρ : List Sl) : Prop where
 | mk (s : Sl) (t : Sl) (q0 : ρ = [a0, a1, a2, a3, a4, a5, a6, a7, a8, a9, a10, a11, s, t]) (q1 : fr s = true) (q2 : fr t = true)
theorem sX {w n : Nat} {x y z m last : Int} {b : Bool} {ws : List Wy} {pl : List Tr} {Q : R -> List Sl -> Prop} (hk : jf m ws) (hl : pl.length <= 1000) (hpos : ∀ x ∈ pl, 0 <= x.l) (l0 : 0 <= last)
 (q : ∀ (x z : Int) (J : List Tr), Jn m last ws pl J -> Q (.own (J.map Tr.d)) [.own true [.int x, .int y, .int z], .val false (bK m ws), .val false (.int last), .own b (pl.map Tr.d)]) :
 (run Γ w (n + 3) 16 [.own true [.int x, .int y, .int z], .val false (bK m ws), .val false (.int last), .own b (pl.map Tr.d)]).sat Q := by
 have m0 := hk.m0
 refine bA (d := R3) rfl rfl (by decide) ?_
 first|apply aa|apply ao
 simp [R3]
 apply aa
 simp
 apply aa
 simp
 apply aa
 simp
 refine fW (N := 9) (g := fun (i : Nat) => D.int (i : Int)) (JJ y m last ws pl b) ?_ ?_ ⟨x, z, 0, 0, 0, [], .bj, .bj, .bj, rfl, ⟨rfl, rfl, rfl⟩, ⟨by simp, by simp, fun _ _ _ => Int.le_refl _, fun p h1 t _ => by rw [if_neg (by omega)]; rfl, ⟨by omega, l0⟩, ⟨by omega, by omega⟩, fun _ => rfl⟩, by omega, by simp⟩
 . rintro i _ hi ⟨x, z, here, hour, arr, js, s7, s8, s9, rfl, ⟨h7, h8, h9⟩, hw, hah, hjl⟩
   simp [h7]
   apply aa
   simp
   refine aW (by decide) (by decide) fun d x z d0 d1 => ?_
   obtain ⟨st, e, st0, st1⟩ := tR (ns := [0, 0, 1, 0, 2, 1]) (lo := 0) (hi := 2) d0 (by simpa using d1) (by simp)
   simp only [List.map_cons, List.map_nil] at e
   simp [e]
   apply aa
   simp
   refine Ax hk hl fun os ho hol => ?_
   simp [h8]
   apply aa
   cases hoe : os.isEmpty with
   | true =>
     simp [qw, hoe]
     exact ⟨x, z, here, hour + st, arr, js, _, _, _, rfl, ⟨rfl, rfl, h9⟩, hw, by omega, by omega⟩
   | false =>
     have ho1 : 0 < os.length := by cases os with | nil => cases hoe | cons _ _ => simp
     by_cases c : here < m - 1
     . simp [qw, hoe, c]
       first|apply aa|apply ao
       simp
       refine aW (by omega) (mV (by omega)) fun d x z hd1 hd2 => ?_
       have hdn : d.toNat < os.length := by omega
       have ha : at' (os.map D.int) d = some (.int os[d.toNat]) := by rw [mU hd1 (by simpa using hd2)]; simp [hdn]
       obtain ⟨k, hke⟩ : ∃ k, os[d.toNat] = k := ⟨_, rfl⟩
       have hok := ho k (by rw [<- hke]; exact List.getElem_mem hdn)
       rw [hke] at ha
       have hg := (fB hok.1.1 hok.1.2).1
       simp [ha, h9]
       apply aa
       simp [show js.length < lim by show _ < 16777216; omega]
       apply aa
       simp [hg, Hn]
       apply aa
       simp [hg, Je]
       exact ⟨x, z, (wy ws k).t, hour + st + (wy ws k).h, _, js ++ [(hour + st, k)], .val false (.int (i : Int)), .own false (os.map D.int), .val false (.int k), by simp [PD], ⟨rfl, rfl, rfl⟩, Dh hk hw (by omega) c hok, Int.le_refl _, by simp; omega⟩
     . simp [qw, hoe, c]
       exact ⟨x, z, here, hour + st, arr, js, _, _, _, rfl, ⟨rfl, rfl, h9⟩, hw, by omega, by omega⟩
 rintro _ ⟨x, z, here, hour, arr, js, s7, s8, s9, rfl, ⟨h7, h8, h9⟩, hw, hah, hjl⟩
 first|apply aa|apply ao
 by_cases c : here < m - 1
 . simp [c]
   first|apply aa|apply ao
   simp
   exact q x z [] Iv
 have hh : here = m - 1 := by have := hw.he; omega
 have hlim : js.length <= lim := by show _ <= 16777216; omega
 simp [c]
 apply aa
 simp [hlim]
 refine iG (FJ _ _ _ _ _ _ _ _ _ _ _ _) (WK ws pl) ⟨.bj, .bj, rfl, rfl, rfl⟩ ?_ ?_
 . rintro d hd _ ⟨s, t, rfl, hs, ht⟩
   obtain ⟨p, hp, rfl⟩ := List.mem_map.mp hd
   obtain ⟨_, b2, _⟩ := hw.ok p hp
   simp [PD, hs, ht]
   refine tE b2.1 b2.2 hl ?_
   simp [WK]
   exact ⟨_, _, rfl, rfl, rfl⟩
 rintro _ ⟨s, t, rfl, hs, ht⟩
 have e1 : (js.map PD).map (WK ws pl) = (js.map fun p => dw ws pl p.1 p.2).map D.int := by rw [List.map_map, List.map_map]; rfl
 rw [e1]
 cases hjs : js with
 | nil => have := hw.ne hjs; omega
 | cons p0 js0 =>
   rw [<- hjs]
   obtain ⟨least, hle, g1, g2⟩ : ∃ least, (js.map fun p => dw ws pl p.1 p.2).min? = some least /\ (∀ p ∈ js, least <= dw ws pl p.1 p.2) /\ 0 < least := by
    rw [hjs, List.map_cons]
    obtain ⟨h1, h2, h3⟩ := zM (ns := js0.map fun p => dw ws pl p.1 p.2) (a := dw ws pl p0.1 p0.2)
    refine ⟨_, rfl, fun p hp => ?_, ?_⟩
    . rcases List.mem_cons.mp hp with rfl | hp
      . exact h1
      . exact h2 _ (List.mem_map.mpr ⟨p, hp, rfl⟩)
    . rcases h3 with h | h
      . rw [h]; exact (hw.ok p0 (by rw [hjs]; simp)).2.2.2.2.2
      . obtain ⟨p, hp, e⟩ := List.mem_map.mp h
        rw [<- e]; exact (hw.ok p (by rw [hjs]; simp [hp])).2.2.2.2.2
   have hbig : least <= 1000000000000000000000 := by
    obtain ⟨b1, b2, _⟩ := hw.ok p0 (by rw [hjs]; simp)
    have h1 := g1 p0 (by rw [hjs]; simp)
    have h2 := (hk.ok _ (fB b2.1 b2.2).2).r1
    have h3 := Gr (l := pl) (f := fun _ => 0) (g := atK p0.1 p0.2) fun y hy => by
     have := hpos y hy; unfold atK; split <;> omega
    rw [wk (f := fun _ => 0) fun _ _ => rfl] at h3
    unfold dw at h1
    omega
   rw [sW]
   simp only [Option.bind_some, hle, Option.map_some, fP]
   simp
   apply aa
   simp
   refine aW g2 (mV hbig) fun d x z d0 d1 => ?_
   simp
   apply aa
   simp [hlim]
   refine iG (FJ _ _ _ _ _ _ _ _ _ _ _ _) (V0 (1 + d)) ⟨.bj, .bj, rfl, rfl, rfl⟩ ?_ ?_
   . rintro d' hd _ ⟨s, t, rfl, hs, ht⟩
     obtain ⟨p, hp, rfl⟩ := List.mem_map.mp hd
     simp [PD, hs, ht, V0]
     exact ⟨_, _, rfl, rfl, rfl⟩
   rintro _ ⟨s, t, rfl, hs, ht⟩
   have e2 : (js.map PD).map (V0 (1 + d)) = (js.map (TV (1 + d))).map Tr.d := by rw [List.map_map, List.map_map]; rfl
   rw [e2]
   simp only [List.map_map]
   rw [<- List.map_map]
   simp
   have := q x z (js.map (TV (1 + d))) (Qa (arr := arr) (by rw [<- hh]; exact hw) hjl (by omega) fun p hp => by have := g1 p hp; omega)
   simpa using this
end T
end
section
namespace T
open HH
noncomputable def JF (a b : Tr) : Prop := a.h < b.h \/ a.h = b.h /\ a.w <= b.w
noncomputable def yJ (g : Int -> Int -> Int) (pl : List Tr) : Int := sm (fun x => g x.h x.w * x.l) pl
structure Mg (ts acc rest : List Tr) : Prop where
 Ge : acc.Pairwise yl
 ord : ∀ a ∈ acc, ∀ x ∈ rest, JF a x
 rst : rest.Pairwise JF
 sum : ∀ g, yJ g acc + yJ g rest = yJ g ts
 key : ∀ a ∈ acc, ∃ y ∈ ts, y.h = a.h /\ y.w = a.w
 pos : ∀ a ∈ acc, 1 <= a.l
 sub : ∀ x ∈ rest, x ∈ ts
 len : acc.length + rest.length <= ts.length
theorem zB {ts acc rest : List Tr} {x : Tr} (h : Mg ts acc (x :: rest)) (hl : 1 <= x.l) (hn : ∀ init z, acc = init ++ [z] -> ¬ (z.h = x.h /\ z.w = x.w)) : Mg ts (acc ++ [x]) rest := by
 have hr := List.pairwise_cons.mp h.rst
 have hlt : ∀ a ∈ acc, yl a x := by
  rcases List.eq_nil_or_concat acc with e | ⟨init, z, e⟩
  . rw [e]; simp
  . rw [List.concat_eq_append] at e
    have hz := hn init z e
    have hzx := h.ord z (by rw [e]; simp) x (by simp)
    have hz2 : yl z x := by unfold JF at hzx; unfold yl; omega
    intro a ha
    rw [e] at ha
    rcases List.mem_append.mp ha with ha | ha
    . have h2 := h.Ge
      rw [e, List.pairwise_append] at h2
      have := h2.2.2 a ha z (by simp)
      unfold yl at *; omega
    . rw [List.mem_singleton.mp ha]; exact hz2
 refine ⟨?_, fun a ha y hy => ?_, hr.2, fun g => ?_, fun a ha => ?_, fun a ha => ?_, fun y hy => h.sub y (by simp [hy]), by have := h.len; simp at this ⊢; omega⟩
 . rw [List.pairwise_append]
   exact ⟨h.Ge, by simp, fun a ha b hb => by rw [List.mem_singleton.mp hb]; exact hlt a ha⟩
 . rcases List.mem_append.mp ha with ha | ha
   . exact h.ord a ha y (by simp [hy])
   . rw [List.mem_singleton.mp ha]; exact hr.1 y hy
 . have := h.sum g
   unfold yJ at *
   rw [jy]
   simp at this ⊢
   omega
 . rcases List.mem_append.mp ha with ha | ha
   . exact h.key a ha
   . rw [List.mem_singleton.mp ha]; exact ⟨x, h.sub x (by simp), rfl, rfl⟩
 . rcases List.mem_append.mp ha with ha | ha
   . exact h.pos a ha
   . rw [List.mem_singleton.mp ha]; exact hl
theorem HY {ts init rest : List Tr} {x z : Tr} (h : Mg ts (init ++ [z]) (x :: rest)) (hl : 1 <= x.l) (hn : z.h = x.h /\ z.w = x.w) : Mg ts (init ++ [⟨x.h, x.w, z.l + x.l⟩]) rest := by
 have hr := List.pairwise_cons.mp h.rst
 have h2 := List.pairwise_append.mp h.Ge
 refine ⟨?_, fun a ha y hy => ?_, hr.2, fun g => ?_, fun a ha => ?_, fun a ha => ?_, fun y hy => h.sub y (by simp [hy]), by have := h.len; simp at this ⊢; omega⟩
 . rw [List.pairwise_append]
   refine ⟨h2.1, by simp, fun a ha b hb => ?_⟩
   rw [List.mem_singleton.mp hb]
   have := h2.2.2 a ha z (by simp)
   unfold yl at *
   show a.h < x.h \/ a.h = x.h /\ a.w < x.w
   omega
 . rcases List.mem_append.mp ha with ha | ha
   . exact h.ord a (by simp [ha]) y (by simp [hy])
   . rw [List.mem_singleton.mp ha]; exact hr.1 y hy
 . have := h.sum g
   unfold yJ at *
   rw [jy] at this ⊢
   simp [hn] at this ⊢
   rw [Int.mul_add]
   omega
 . rcases List.mem_append.mp ha with ha | ha
   . exact h.key a (by simp [ha])
   . rw [List.mem_singleton.mp ha]; exact ⟨x, h.sub x (by simp), rfl, rfl⟩
 . rcases List.mem_append.mp ha with ha | ha
   . exact h.pos a (by simp [ha])
   . rw [List.mem_singleton.mp ha]
     have := h.pos z (by simp)
     show 1 <= z.l + x.l
     omega
theorem xm {pl : List Tr} : cm .ne (.lst (pl.map Tr.d)) (.lst []) = some (!pl.isEmpty) := by
 show qp _ _ = _
 unfold qp
 rw [wY (k := 7) (fun d hd => by obtain ⟨x, _, rfl⟩ := List.mem_map.mp hd; rfl)]
 cases pl <;> simp [bz, eH, cN]
theorem Hu {pl : List Tr} : ∃ ks : List Tr, gG (pl.map Tr.d) = ks.map Tr.d /\ ks.Perm pl /\ ks.Pairwise JF := by
 have hp := fC (pl.map Tr.d)
 have hs := gP (pl.map Tr.d)
 obtain ⟨ks, e, hp2, _⟩ := xf (pl := pl)
 refine ⟨ks, e, hp2, ?_⟩
 rw [e, List.pairwise_map] at hs
 refine hs.imp fun {a b} h1 => ?_
 simp [iU, bF, Tr.d, cB, aQ] at h1
 unfold JF
 omega
inductive JM (ts : List Tr) (a0 : Sl) (r : List D) (ρ : List Sl) : Prop where
 | mk (acc rest : List Tr) (s2 s3 s4 : Sl) (q0 : ρ = [a0, .own false (acc.map Tr.d), s2, s3, s4]) (q1 : A3 (fr s2 = true) (fr s3 = true) (fr s4 = true)) (q2 : r = rest.map Tr.d) (q3 : Mg ts acc rest)
theorem vP {w n : Nat} {b : Bool} {ts : List Tr} {Q : R -> List Sl -> Prop} (hl : ts.length < 1000) (hpos : ∀ x ∈ ts, 1 <= x.l)
 (q : ∀ pl : List Tr, Mg ts pl [] -> Q (.own (pl.map Tr.d)) [.own b (ts.map Tr.d)]) : (run Γ w (n + 1) 17 [.own b (ts.map Tr.d)]).sat Q := by
 refine bA (d := RV) rfl rfl (by decide) ?_
 first|apply aa|apply ao
 simp [RV]
 obtain ⟨ks, e1, e2, e3⟩ := Hu (pl := ts)
 have hb : blt .sorted [.lst (ts.map Tr.d)] = some (.own (ks.map Tr.d)) := by
  show (if _ then _ else _) = _
  rw [if_pos (dg hl), e1]
 first|apply aa|apply ao
 simp [hb]
 refine cC (JM ts _) ?_ ?_ ⟨[], ks, .bj, .bj, .bj, rfl, ⟨rfl, rfl, rfl⟩, rfl, ⟨by simp, by simp, e3, fun g => by unfold yJ; rw [En e2]; simp, by simp, by simp, fun x hx => e2.mem_iff.mp hx, by simp [e2.length_eq]⟩⟩
 . rintro d r _ ⟨acc, rest, s2, s3, s4, rfl, ⟨h2, h3, h4⟩, hr, hm⟩
   cases rest with
   | nil => cases hr
   | cons x rest =>
     obtain ⟨rfl, rfl⟩ : d = x.d /\ r = rest.map Tr.d := by simpa using hr
     have hx := hpos x (hm.sub x (by simp))
     have hlen := hm.len
     simp at hlen
     have hlim : acc.length < lim := by show _ < 16777216; omega
     simp [Tr.d, h2, h3, h4]
     apply aa
     rcases List.eq_nil_or_concat acc with e | ⟨init, z, e⟩
     . subst e
       have en := xm (pl := [])
       simp at en
       simp [en]
       apply aa
       simp
       exact ⟨[x], rest, _, _, _, rfl, ⟨rfl, rfl, rfl⟩, rfl, zB hm hx (fun i z h => by simp at h)⟩
     . rw [List.concat_eq_append] at e
       subst e
       have en : cm .ne (.lst (init.map Tr.d ++ [z.d])) (.lst []) = some true := by
        have := xm (pl := init ++ [z])
        rw [show (init ++ [z]).isEmpty = false by cases init <;> rfl] at this
        simpa using this
       by_cases c : z.h = x.h /\ z.w = x.w
       . simp [en, rE, part, vM, mH, qy, c]
         first|apply aa|apply ao
         have hix : ju (init.length + 1) (-1) = some init.length := by
          unfold ju; rw [if_neg (by decide), if_pos (by omega)]; congr 1; omega
         simp [rE, zP, hix]
         exact ⟨init ++ [⟨x.h, x.w, z.l + x.l⟩], rest, .val false (.int x.h), .val false (.int x.w), .val false (.int x.l), by simp [Tr.d], ⟨rfl, rfl, rfl⟩, rfl, HY hm hx c⟩
       . simp [en, rE, part, vM, mH, qy]
         refine ⟨fun z1 z2 => absurd ⟨z1, z2⟩ c, fun _ => ?_⟩
         first|apply aa|apply ao
         simp at hlim
         simp [hlim]
         exact ⟨init ++ [z] ++ [x], rest, .val false (.int x.h), .val false (.int x.w), .val false (.int x.l), by simp [Tr.d], ⟨rfl, rfl, rfl⟩, rfl, zB hm hx (fun i z' h => by
          obtain ⟨_, h⟩ := List.append_inj' h rfl
          simp at h
          rw [<- h]; exact c)⟩
 . rintro _ ⟨acc, rest, s2, s3, s4, rfl, _, hr, hm⟩
   have hr' : rest = [] := by cases rest with | nil => rfl | cons _ _ => cases hr
   subst hr'
   first|apply aa|apply ao
   simp
   exact q acc hm
end T
end
section
namespace T
open HH
structure Cl (m last : Int) (ws : List Wy) (pl : List Tr) : Prop where
 way : ∀ x ∈ pl, (wy ws x.w).t ≠ 0 /\ (wy ws x.w).s ≠ m - 1
 st : ∀ p, 1 <= p -> p < m - 1 -> ∀ t, last <= t -> stP ws pl p (iu t) = 0
structure Cp (m last : Int) (ws : List Wy) (pl : List Tr) : Prop where
 ok : ∀ x ∈ pl, 0 <= x.h /\ 1 <= x.l /\ wG ws x /\ dM ws x <= last /\ (wy ws x.w).t ≠ 0 /\ (wy ws x.w).s ≠ m - 1
 room : ∀ h k, 0 <= k -> k < (ws.length : Int) -> 0 <= dw ws pl h k
 st : ∀ p, 1 <= p -> ∀ t, 0 <= stP ws pl p (iu t)
 cl : ∀ p, 1 <= p -> p < m - 1 -> ∀ t, last <= t -> stP ws pl p (iu t) = 0
theorem vW {h k : Int} : ∀ {J : List Tr}, J.Pairwise neT -> (sm (atK h k) J = 0 /\ ∀ x ∈ J, ¬ (x.h = h /\ x.w = k)) \/ ∃ x ∈ J, (x.h = h /\ x.w = k) /\ sm (atK h k) J = x.l
 | [], _ => .inl ⟨rfl, by simp⟩
 | x :: J, hp => by
   rw [List.pairwise_cons] at hp
   by_cases c : x.h = h /\ x.w = k
   . refine .inr ⟨x, by simp, c, ?_⟩
     rw [bW, wk fun y hy => by
      have := hp.1 y hy
      unfold atK
      rw [if_neg]
      intro z
      exact this ⟨by rw [c.1, z.1], by rw [c.2, z.2]⟩]
     simp [atK, c]
   . rcases vW (h := h) (k := k) hp.2 with ⟨z, z2⟩ | ⟨y, hy, c2, e⟩
     . refine .inl ⟨?_, ?_⟩
       . rw [bW, z, atK, if_neg c]; rfl
       . intro y hy
         rcases List.mem_cons.mp hy with rfl | hy
         . exact c
         . exact z2 y hy
     . exact .inr ⟨y, by simp [hy], c2, by rw [bW, e, atK, if_neg c]; omega⟩
theorem yW {ws : List Wy} {a b : List Tr} {p : Int} {P : Int -> Bool} : stP ws (a ++ b) p P = stP ws a p P + stP ws b p P := jy
theorem J0 {m last : Int} {ws : List Wy} {pl J : List Tr} (h : Cp m last ws pl) (j : Jn m last ws pl J) : Cp m last ws (pl ++ J) := by
 refine ⟨fun x hx => ?_, fun a k k0 k1 => ?_, fun p h1 t => ?_, fun p h1 h2 t ht => ?_⟩
 . rcases List.mem_append.mp hx with hx | hx
   . exact h.ok x hx
   . exact j.ok x hx
 . have h0 := h.room a k k0 k1
   unfold dw at *
   rw [jy]
   rcases vW (h := a) (k := k) j.dis with ⟨z, _⟩ | ⟨x, hx, c, e⟩
   . omega
   . have := j.XC x hx
     unfold dw at this
     rw [c.1, c.2] at this
     omega
 . rw [yW]
   have := h.st p h1 t
   have := j.st p h1 t
   omega
 . rw [yW, h.cl p h1 h2 t ht, j.cl p h1 h2 t ht]; rfl
theorem An {ws : List Wy} {pl : List Tr} {p : Int} {P : Int -> Bool} : stP ws pl p P = yJ (fun h k => (if (wy ws k).t = p /\ P (h + (wy ws k).h) = true then 1 else 0) - (if (wy ws k).s = p /\ P h = true then 1 else 0)) pl := by
 unfold stP yJ
 refine fG fun x _ => ?_
 unfold Ce Dd dM
 rw [Int.sub_mul]
 congr 1
 . split <;> simp
 . split <;> simp
theorem zA {h k : Int} {pl : List Tr} : sm (atK h k) pl = yJ (fun a b => if a = h /\ b = k then 1 else 0) pl := by
 unfold yJ
 refine fG fun x _ => ?_
 unfold atK
 by_cases c : x.h = h /\ x.w = k <;> simp [c]
theorem PQ {m last : Int} {ws : List Wy} {ts pl : List Tr} (h : Cp m last ws ts) (g : Mg ts pl []) : Pl last ws pl /\ Cl m last ws pl := by
 have hsum : ∀ f, yJ f pl = yJ f ts := fun f => by have := g.sum f; simpa [yJ] using this
 have hst : ∀ p P, stP ws pl p P = stP ws ts p P := fun p P => by rw [An, hsum, <- An]
 have hne : pl.Pairwise neT := g.Ge.imp fun {a b} h => by unfold yl at h; unfold neT; omega
 refine ⟨⟨fun x hx => ?_, gf.mpr g.Ge, fun p h1 t => ?_⟩, ⟨fun x hx => ?_, fun p h1 h2 t ht => ?_⟩⟩
 . obtain ⟨y, hy, e1, e2⟩ := g.key x hx
   obtain ⟨a1, a2, a3, a4, a5, a6⟩ := h.ok y hy
   have hin : wG ws x := by unfold wG at *; omega
   refine ⟨by omega, g.pos x hx, hin, ?_, ?_⟩
   . have h1 := h.room x.h x.w hin.1 hin.2
     unfold dw at h1
     have h2 : sm (atK x.h x.w) pl = sm (atK x.h x.w) ts := by rw [zA, hsum, <- zA]
     rcases vW (h := x.h) (k := x.w) hne with ⟨_, z⟩ | ⟨y, hy, c, e⟩
     . exact absurd ⟨rfl, rfl⟩ (z x hx)
     . have : y = x := by
        have hxy : ∀ a ∈ pl, ∀ b ∈ pl, a.h = b.h -> a.w = b.w -> a = b := by
         intro a ha b hb e1 e2
         rcases List.getElem_of_mem ha with ⟨i, hi, rfl⟩
         rcases List.getElem_of_mem hb with ⟨j, hj, rfl⟩
         rw [List.pairwise_iff_getElem] at hne
         rcases Nat.lt_trichotomy i j with hij | hij | hij
         . exact absurd ⟨e1, e2⟩ (hne i j hi hj hij)
         . subst hij; rfl
         . exact absurd ⟨e1.symm, e2.symm⟩ (hne j i hj hi hij)
        exact hxy y hy x hx c.1 c.2
       subst this
       omega
   . unfold dM at *; rw [<- e1, <- e2]; exact a4
 . have := h.st p h1 t
   rw [<- hst, Jh] at this
   omega
 . obtain ⟨y, hy, e1, e2⟩ := g.key x hx
   obtain ⟨_, _, _, _, a5, a6⟩ := h.ok y hy
   rw [<- e2]; exact ⟨a5, a6⟩
 . rw [hst]; exact h.cl p h1 h2 t ht
inductive JCp (y m last : Int) (ws : List Wy) (i : Nat) (ρ : List Sl) : Prop where
 | mk (x z : Int) (pl : List Tr) (s4 : Sl) (q0 : ρ = [.own true [.int x, .int y, .int z], .val false (bK m ws), .val false (.int last), .own false (pl.map Tr.d), s4]) (q1 : fr s4 = true) (q2 : Cp m last ws pl) (q3 : pl.length <= 9 * i)
theorem oY {w n : Nat} {x y z m last : Int} {ws : List Wy} {Q : R -> List Sl -> Prop} (hk : jf m ws) (l0 : 0 <= last)
 (q : ∀ (pl : List Tr) (x z : Int), Pl last ws pl -> Cl m last ws pl -> pl.length <= 45 -> Q (.own (pl.map Tr.d)) [.own true [.int x, .int y, .int z], .val false (bK m ws), .val false (.int last)]) :
 (run Γ w (n + 4) 18 [.own true [.int x, .int y, .int z], .val false (bK m ws), .val false (.int last)]).sat Q := by
 refine bA (d := R0) rfl rfl (by decide) ?_
 first|apply aa|apply ao
 simp [R0]
 apply aa
 simp
 refine aW (by decide) (by decide) fun d x z d0 d1 => ?_
 simp
 refine ⟨by omega, ?_⟩
 refine fW (JCp y m last ws) ?_ ?_ ⟨x, z, [], .bj, rfl, rfl, ⟨by simp, fun h k k0 k1 => ?_, fun _ _ _ => Int.le_refl _, fun _ _ _ _ _ => rfl⟩, by simp⟩
 . rintro i _ hi ⟨x, z, pl, s4, rfl, h4, hc, hl⟩
   simp [h4]
   apply aa
   simp
   refine sX hk (by omega) (fun x hx => by have := (hc.ok x hx).2.1; omega) l0 fun x z J hj => ?_
   have hj9 := hj.len
   simp [show pl.length + J.length <= lim by show _ <= 16777216; omega]
   exact ⟨x, z, pl ++ J, _, by simp; rfl, rfl, J0 hc hj, by simp; omega⟩
 . rintro _ ⟨x, z, pl, s4, rfl, h4, hc, hl⟩
   first|apply aa|apply ao
   simp
   refine vP (by omega) (fun x hx => (hc.ok x hx).2.1) fun Hl hm => ?_
   obtain ⟨p1, p2⟩ := PQ hc hm
   have := hm.len
   simp at this
   simp
   exact q Hl x z p1 p2 (by omega)
 . unfold dw
   have := (hk.ok _ (fB k0 k1).2).r0
   simpa using this
end T
end
section
namespace T
open HH
theorem ints_of {xs : List D} (h : ∀ x ∈ xs, ∃ i, x = D.int i) : ∃ l : List Int, xs = l.map D.int := by
 induction xs with
 | nil => exact ⟨[], rfl⟩
 | cons x xs ih =>
   obtain ⟨i, rfl⟩ := h x (by simp)
   obtain ⟨l, rfl⟩ := ih fun y hy => h y (List.mem_cons_of_mem _ hy)
   exact ⟨i :: l, rfl⟩
theorem vR {n : Nat} (h : n <= 1000) : n <= lim := Nat.le_trans h (by show 1000 <= 16777216; decide)
theorem vC {n : Nat} (h : n <= 1000) : n < lim := Nat.lt_of_le_of_lt h (by show 1000 < 16777216; decide)
theorem Eu {as : List Int} (h : as.length <= 1000) : ∃ bs : List Int, blt .sset [.lst (as.map D.int)] = some (.own (bs.map D.int)) /\ bs.length <= as.length := by
 have e1 : (as.map D.int).map cB = as := by rw [List.map_map]; exact (List.map_congr_left fun _ _ => rfl).trans (List.map_id _)
 have e2 : blt .sset [.lst (as.map D.int)] = some (.own (gG ((dR as).map D.int))) := by
  show (if _ then _ else _) = _
  rw [if_pos ⟨by rw [List.length_map]; omega, by rw [List.all_eq_true]; intro x hx; obtain ⟨i, _, rfl⟩ := List.mem_map.mp hx; rfl⟩, e1]
 have hp := fC ((dR as).map D.int)
 refine ⟨(gG ((dR as).map D.int)).map cB, ?_, ?_⟩
 . rw [e2]
   congr 2
   rw [List.map_map]
   refine ((List.map_congr_left fun d hd => ?_).trans (List.map_id _)).symm
   obtain ⟨i, _, rfl⟩ := List.mem_map.mp (hp.mem_iff.mp hd)
   rfl
 . rw [List.length_map, hp.length_eq, List.length_map]
   have dl : ∀ (ns ks : List Int), (ns.foldl xU ks).length <= ks.length + ns.length := by
    intro ns
    induction ns with
    | nil => intro ks; simp
    | cons n ns ih =>
      intro ks
      have h1 := ih (xU ks n)
      have h2 : (xU ks n).length <= ks.length + 1 := by unfold xU; split <;> simp
      rw [List.foldl_cons, List.length_cons]; omega
   have := dl as []
   simpa [dR] using this
end T
end
section
namespace T
open HH
theorem yz {pl : List Tr} (hr : cU pl = true) (hl : pl.length < 1000) : gG (pl.map Tr.d) = pl.map Tr.d := by
 refine (jN (dg hl) (.refl _) ?_).symm
 rw [List.pairwise_map]
 rw [gf] at hr
 refine hr.imp fun {a b} h => ?_
 unfold yl at h
 simp [iU, bF, Tr.d, cB, aQ]
 omega
theorem vo {pl : List Tr} (hr : cU pl = true) (hl : pl.length < 1000) : blt .sorted [.lst (pl.map Tr.d)] = some (.own (pl.map Tr.d)) := by
 show (if _ then _ else _) = _
 rw [if_pos (dg hl), yz hr hl]
noncomputable def jG (ws : List Wy) (t : Int) (pl : List Tr) : List Tr := pl.filter fun x => decide (dM ws x <= t)
theorem vy {ws : List Wy} {t : Int} {pl : List Tr} (h : cU pl = true) : cU (jG ws t pl) = true := by
 rw [gf] at h ⊢
 exact h.filter _
theorem Q5 {ws : List Wy} {t : Int} {pl : List Tr} {x : Tr} (h : x ∈ jG ws t pl) : x ∈ pl /\ dM ws x <= t := by
 unfold jG at h
 rw [List.mem_filter] at h
 exact ⟨h.1, of_decide_eq_true h.2⟩
theorem sU {ws : List Wy} {t : Int} {pl : List Tr} : (jG ws t pl).length <= pl.length := List.length_filter_le _ _
noncomputable def j4 (ws : List Wy) (t : Int) (d : D) : Option D := if dM ws (yp d) <= t then some d else none
theorem nU {ws : List Wy} {t : Int} : ∀ {pl : List Tr}, (pl.map Tr.d).filterMap (j4 ws t) = (jG ws t pl).map Tr.d
 | [] => rfl
 | x :: pl => by
   have ih := nU (ws := ws) (t := t) (pl := pl)
   unfold jG at ih ⊢
   rw [List.map_cons, List.filterMap_cons, List.filter_cons]
   by_cases c : dM ws x <= t
   . simp [j4, c, ih]
   . simp [j4, c, ih]
inductive F3t (a0 a1 a2 : Sl) (ρ : List Sl) : Prop where
 | mk (s : Sl) (q0 : ρ = [a0, a1, a2, s]) (q1 : fr s = true)
theorem tK {w n : Nat} {m t : Int} {s1 : Sl} {ws : List Wy} {pl : List Tr} {Q : R -> List Sl -> Prop} (hs1 : LS s1 (pl.map Tr.d)) (hw : ∀ x ∈ pl, wG ws x) (hr : cU pl = true) (hl : pl.length < 1000)
 (q : Q (.own ((jG ws t pl).map Tr.d)) [.val false (bK m ws), s1, .val false (.int t)]) :
 (run Γ w (n + 2) 1 [.val false (bK m ws), s1, .val false (.int t)]).sat Q := by
 have hlim : pl.length <= lim := by show _ <= 16777216; omega
 refine bA (d := f1) rfl rfl (by decide) ?_
 first|apply aa|apply ao
 obtain ⟨s', g1, g2⟩ := nF (ρ := [.val false (bK m ws), s1, .val false (.int t)]) (k := 1) (e := ev (run Γ w (n + 1)) (.var 1)) rfl hs1
 simp [f1, g1, hlim, -gB, -cT]
 refine dD (F3t _ _ _) (j4 ws t) ⟨.bj, rfl, rfl⟩ ?_ ?_
 . rintro d hd _ ⟨s, rfl, hs⟩
   obtain ⟨x, hx, rfl⟩ := List.mem_map.mp hd
   have hi := hw x hx
   simp [hs, Dp, vX]
   refine lK hi.1 hi.2 ?_
   by_cases c : dM ws x <= t
   . have c' : x.h + (wy ws x.w).h <= t := c
     simp [j4, c, c']
     exact ⟨_, rfl, rfl⟩
   . have c' : ¬ x.h + (wy ws x.w).h <= t := c
     simp [j4, c, c']
     exact ⟨_, rfl, rfl⟩
 rintro _ ⟨s, rfl, hs⟩
 rw [nU]
 simp only [List.take_succ_cons, List.take_zero]
 rw [g2 _ rfl]
 have hb := vo (vy (ws := ws) (t := t) hr) (Nat.lt_of_le_of_lt sU hl)
 simp only [Bj, hb, fP, List.set_cons_zero, List.set_cons_succ, bB, u0]
 exact q
end T
end
section
namespace T
open HH
noncomputable def tt (ws : List Wy) (last : Int) (x : Tr) : Tr := ⟨last - dM ws x, x.w, x.l⟩
noncomputable def V9 (ws : List Wy) (last : Int) : D -> D
 | .tup [.int h, .int w, .int l] => (tt ws last ⟨h, w, l⟩).d
 | d => d
inductive F6t (a0 a1 a2 : Sl) (ρ : List Sl) : Prop where
 | mk (s : Sl) (t : Sl) (u : Sl) (q0 : ρ = [a0, a1, a2, s, t, u]) (q1 : fr s = true) (q2 : fr t = true) (q3 : fr u = true)
theorem jL {w n : Nat} {m last : Int} {s2 : Sl} {ws : List Wy} {pl : List Tr} {Q : R -> List Sl -> Prop} (hs2 : LS s2 (pl.map Tr.d)) (hw : ∀ x ∈ pl, wG ws x) (hl : pl.length < 1000)
 (q : Q (.own (gG ((pl.map (tt ws last)).map Tr.d))) [.val false (bK m ws), .val false (.int last), s2]) :
 (run Γ w (n + 2) 2 [.val false (bK m ws), .val false (.int last), s2]).sat Q := by
 have hlim : pl.length <= lim := by show _ <= 16777216; omega
 refine bA (d := f2) rfl rfl (by decide) ?_
 first|apply aa|apply ao
 obtain ⟨s', g1, g2⟩ := nF (ρ := [.val false (bK m ws), .val false (.int last), s2]) (k := 2) (e := ev (run Γ w (n + 1)) (.var 2)) rfl hs2
 simp [f2, g1, hlim, -gB, -cT]
 refine iG (F6t _ _ _) (V9 ws last) ⟨.bj, .bj, .bj, rfl, rfl, rfl, rfl⟩ ?_ ?_
 . rintro d hd _ ⟨s, t, u, rfl, hs, ht, hu⟩
   obtain ⟨x, hx, rfl⟩ := List.mem_map.mp hd
   have hi := hw x hx
   simp [Tr.d, hs, ht, hu]
   refine lK hi.1 hi.2 ?_
   simp [V9, tt, dM, Tr.d]
   exact ⟨_, _, _, rfl, rfl, rfl, rfl⟩
 rintro _ ⟨s, t, u, rfl, hs, ht, hu⟩
 have e : (pl.map Tr.d).map (V9 ws last) = (pl.map (tt ws last)).map Tr.d := by rw [List.map_map, List.map_map]; rfl
 rw [e]
 simp only [List.take_succ_cons, List.take_zero]
 rw [g2 _ rfl]
 have hb : blt .sorted [.lst ((pl.map (tt ws last)).map Tr.d)] = some (.own (gG ((pl.map (tt ws last)).map Tr.d))) := by
  show (if _ then _ else _) = _
  rw [if_pos (dg (by simpa using hl))]
 simp only [Bj, hb, fP, List.set_cons_zero, List.set_cons_succ, bB, u0]
 exact q
end T
end
section
namespace T
open HH
theorem ql {pl : List Tr} (h : pl.length <= 1000) : gd 2 (.lst (pl.map Tr.d)) = true := by
 rw [gd]
 simp only [List.length_map, h, decide_true, Bool.true_and, List.all_eq_true]
 intro d hd
 obtain ⟨x, _, rfl⟩ := List.mem_map.mp hd
 rfl
inductive F4p (a0 a1 a2 : Sl) (ρ : List Sl) : Prop where
 | mk (s : Sl) (q0 : ρ = [a0, a1, a2, s]) (q1 : fr s = true)
inductive JPL (a0 a1 : Sl) (r : List D) (ρ : List Sl) : Prop where
 | mk (rest : List Tr) (s2 : Sl) (q0 : ρ = [a0, a1, s2]) (q1 : fr s2 = true) (q2 : r = rest.map Tr.d)
theorem eF {w n : Nat} {b0 : Bool} {s1 : Sl} {pl : List Tr} {Q : R -> List Sl -> Prop} (hl : pl.length <= 1000) (h1 : LS s1 (pl.map Tr.d)) (q : Q (.val (.bl true)) [.own b0 (pl.map Tr.d), s1]) :
 (run Γ w (n + 1) 13 [.own b0 (pl.map Tr.d), s1]).sat Q := by
 have hne := ne_self (by decide) (ql hl)
 have h3 : 3 <= lim := by decide
 have hp1 : pk [.own b0 (pl.map Tr.d), s1, .bj] 1 = some (.lst (pl.map Tr.d)) := by rcases h1 with ⟨b, rfl⟩ | ⟨b, rfl⟩ <;> rfl
 refine bA (d := RP) rfl rfl (by decide) ?_
 first|apply aa|apply ao
 simp [RP, hne, bO, hp1]
 apply aa
 simp
 refine cC (JPL _ _) ?_ ?_ ⟨pl, .bj, rfl, rfl, rfl⟩
 . rintro d r _ ⟨rest, s2, rfl, h2, hr⟩
   cases rest with
   | nil => cases hr
   | cons x rest =>
     obtain ⟨rfl, rfl⟩ : d = x.d /\ r = rest.map Tr.d := by simpa using hr
     simp [h2]
     apply aa
     simp [Tr.d, bO, h3]
     refine iG (F4p _ _ _) (fun _ => .bl false) ⟨.bj, rfl, rfl⟩ ?_ ?_
     . rintro d hd _ ⟨s, rfl, hs⟩
       have : ∃ i, d = D.int i := by
        simp at hd
        rcases hd with rfl | rfl | rfl <;> exact ⟨_, rfl⟩
       obtain ⟨i, rfl⟩ := this
       simp [hs, bO]
       exact ⟨_, rfl, rfl⟩
     . rintro _ ⟨s, rfl, hs⟩
       simp
       exact ⟨rest, _, rfl, rfl, rfl⟩
 . rintro _ ⟨rest, s2, rfl, h2, hr⟩
   simp
   apply aa
   simp
   exact q
end T
end
section
namespace T
open HH
inductive F5t (a0 a1 a2 a3 a4 a5 : Sl) (ρ : List Sl) : Prop where
 | mk (s : Sl) (q0 : ρ = [a0, a1, a2, a3, a4, a5, s]) (q1 : fr s = true)
theorem o7 {w n : Nat} {m t : Int} {ws : List Wy} {pl : List Tr} {Q : R -> List Sl -> Prop} (hw : ∀ x ∈ pl, wG ws x) (hr : cU pl = true) (hl : pl.length <= 50) (q : Q (.val (.bl true)) [.val false (bK m ws), .val false (.lst (pl.map Tr.d)), .val false (.int t)]) :
 (run Γ w (n + 4) 19 [.val false (bK m ws), .val false (.lst (pl.map Tr.d)), .val false (.int t)]).sat Q := by
 have hne := ne_self (by decide) (ql (pl := pl) (by omega))
 have heq := eq_self (by decide) (ql (pl := pl) (by omega))
 have htl : (jG ws t pl).length <= 50 := Nat.le_trans sU hl
 refine bA (d := S8) rfl rfl (by decide) ?_
 first|apply aa|apply ao
 simp [S8, show pl.length <= lim from vR (by omega)]
 refine dD (F5t _ _ _ _ _ _) (j4 ws t) ⟨.bj, rfl, rfl⟩ ?_ ?_
 . rintro d hd _ ⟨s, rfl, hs⟩
   obtain ⟨x, hx, rfl⟩ := List.mem_map.mp hd
   simp [hs]
   refine jH (hw x hx) ?_
   by_cases c : dM ws x <= t
   . simp [j4, c]
     exact ⟨_, rfl, rfl⟩
   . simp [j4, c]
     exact ⟨_, rfl, rfl⟩
 rintro _ ⟨s, rfl, hs⟩
 rw [nU]
 simp
 apply aa
 simp
 apply aa
 simp
 refine tK (.inl ⟨_, rfl⟩) hw hr (by omega) ?_
 generalize hks : jG ws t pl = ks at *
 simp
 apply aa
 simp
 refine eF (by omega) (.inl ⟨_, rfl⟩) ?_
 simp [hne]
 apply aa
 simp [show ks.length < lim from vC (by omega)]
 apply aa
 simp [heq]
 refine tK (.inl ⟨_, rfl⟩) hw hr (by omega) ?_
 rw [hks]
 simp
 refine eF (by omega) (.inl ⟨_, rfl⟩) ?_
 simp
 exact q
inductive JTd (a0 a1 a2 : Sl) (ws : List Wy) (last : Int) (pl : List Tr) (r : List D) (ρ : List Sl) : Prop where
 | mk (us vs : List Tr) (s4 : Sl) (q0 : ρ = [a0, a1, a2, .own false ((vs.map (tt ws last)).map Tr.d), s4, .bj, .bj]) (q1 : fr s4 = true) (q2 : r = us.map Tr.d) (q3 : pl = vs ++ us)
theorem lX {w n : Nat} {m last : Int} {ws : List Wy} {pl : List Tr} {Q : R -> List Sl -> Prop} (hw : ∀ x ∈ pl, wG ws x) (hl : pl.length <= 50) (q : Q (.val (.bl true)) [.val false (bK m ws), .val false (.int last), .val false (.lst (pl.map Tr.d))]) :
 (run Γ w (n + 4) 20 [.val false (bK m ws), .val false (.int last), .val false (.lst (pl.map Tr.d))]).sat Q := by
 have hne := ne_self (by decide) (ql (pl := pl) (by omega))
 refine bA (d := Tw) rfl rfl (by decide) ?_
 first|apply aa|apply ao
 simp [Tw]
 apply aa
 simp
 refine cC (JTd _ _ _ ws last pl) ?_ ?_ ⟨pl, [], .bj, rfl, rfl, rfl, rfl⟩
 . rintro d r _ ⟨us, vs, s4, rfl, h4, hr, hp⟩
   cases us with
   | nil => cases hr
   | cons x us =>
     obtain ⟨rfl, rfl⟩ : d = x.d /\ r = us.map Tr.d := by simpa using hr
     have hx := hw x (by rw [hp]; simp)
     have hv : vs.length <= 50 := by have := congrArg List.length hp; simp at this; omega
     simp [h4]
     apply aa
     simp
     refine jH hx ?_
     simp [vX, zP, show vs.length < lim from vC (by omega)]
     exact ⟨us, vs ++ [x], _, by simp [tt, Tr.d]; rfl, rfl, rfl, by simp [hp]⟩
 . rintro _ ⟨us, vs, s4, rfl, h4, hr, hp⟩
   have hr' : us = [] := by cases us with | nil => rfl | cons _ _ => cases hr
   subst hr'
   rw [List.append_nil] at hp
   subst hp
   obtain ⟨ks, e1, e2, _⟩ := xf (pl := pl.map (tt ws last))
   have hks : ks.length <= 50 := by have := e2.length_eq; simp at this; omega
   have hb : blt .sorted [.lst ((pl.map (tt ws last)).map Tr.d)] = some (.own (ks.map Tr.d)) := by
    show (if _ then _ else _) = _
    rw [if_pos (dg (by simp; omega)), e1]
   first|apply aa|apply ao
   simp only [List.map_map] at hb
   simp
   apply aa
   simp
   refine jL (.inl ⟨_, rfl⟩) hw (by omega) ?_
   rw [e1]
   simp
   apply aa
   simp [hb]
   refine eF (by omega) (.inl ⟨_, rfl⟩) ?_
   simp [hne]
   apply aa
   simp [show ks.length < lim from vC (by omega)]
   apply aa
   simp [hne]
   apply aa
   simp
   refine jL (.inl ⟨_, rfl⟩) hw (by omega) ?_
   rw [e1]
   simp [hb]
   refine eF (by omega) (.inl ⟨_, rfl⟩) ?_
   simp
   exact q
end T
end
section
namespace T
open HH
inductive JL (v : Sl) (r : List D) (ρ : List Sl) : Prop where
 | mk (s1 : Sl) (s2 : Sl) (s3 : Sl) (s4 : Sl) (s5 : Sl) (s6 : Sl) (s7 : Sl) (s8 : Sl) (s9 : Sl) (gU : Sl) (q0 : ρ = [v, s1, s2, s3, s4, s5, s6, s7, s8, s9, gU]) (q1 : A5 (fr s1 = true) (fr s2 = true) (fr s3 = true) (fr s4 = true) (fr s5 = true)) (q2 : A5 (fr s6 = true) (fr s7 = true) (fr s8 = true) (fr s9 = true) (fr gU = true)) (q3 : ∀ d ∈ r, ∃ i, d = D.int i)
inductive JA (ws : List Wy) (a0 a1 a2 a3 a4 a5 a6 a7 a10 : Sl) (r : List D) (ρ : List Sl) : Prop where
 | mk (us : List Tr) (as : List Int) (s9 : Sl) (q0 : ρ = [a0, a1, a2, a3, a4, a5, a6, a7, .own false (as.map D.int), s9, a10]) (q1 : fr s9 = true) (q2 : r = us.map Tr.d) (q3 : (∀ x ∈ us, wG ws x)) (q4 : as.length + 3 * us.length <= 200)
inductive FC (a0 a1 a2 a3 a4 a5 a6 a7 a8 a9 a10 : Sl) (ρ : List Sl) : Prop where
 | mk (s : Sl) (q0 : ρ = [a0, a1, a2, a3, a4, a5, a6, a7, a8, a9, a10, s]) (q1 : fr s = true)
inductive JB (a0 a1 a2 a3 a4 a5 a6 a7 a8 a9 : Sl) (r : List D) (ρ : List Sl) : Prop where
 | mk (gU : Sl) (q0 : ρ = [a0, a1, a2, a3, a4, a5, a6, a7, a8, a9, gU]) (q1 : fr gU = true) (q2 : ∀ d ∈ r, ∃ i, d = D.int i)
set_option maxHeartbeats 4000000 in
theorem CP (ns : List Int) (hn : ns.length <= 63) : ∃ as, run Γ 1000 40 21 [.val false (.lst (ns.map D.int))] = .ok (.val (.bl true)) as := by
 suffices h : ∀ w, (run Γ w 40 21 [.val false (.lst (ns.map D.int))]).sat fun r _ => r = .val (.bl true) by
  obtain ⟨a, ρ, e, rfl⟩ := sat_iff.mp (h 1000)
  exact ⟨ρ, e⟩
 intro w
 refine bA (d := Th) rfl rfl (by decide) ?_
 first|apply aa|apply ao
 simp [Th]
 refine vA (m := 12) (by rfl) (by decide) (by decide) hn fun cs hcl => ?_
 have hl : 1 + cs.length <= lim := by show _ <= 16777216; omega
 simp [hl]
 refine cC (JL (.val false (.lst (ns.map D.int)))) ?_ ?_ ?_
 . rintro d r _ ⟨s1, s2, s3, s4, s5, s6, s7, s8, s9, gU, rfl, ⟨h1, h2, h3, h4, h5⟩, ⟨h6, h7, h8, h9, h10⟩, hd⟩
   obtain ⟨x, rfl⟩ := hd d (by simp)
   simp [h1]
   apply aa
   simp
   refine Af fun a b c => ?_
   simp [h2]
   apply aa
   simp
   refine DY fun m ws0 x z hk0 hsm => ?_
   simp [h3]
   apply aa
   simp
   refine aW (by decide) (by decide) fun d x z d0 d1 => ?_
   simp [h4]
   obtain ⟨ZM, e0, l0, l1⟩ : ∃ l, l = 1 + d /\ 1 <= l /\ l <= 8 := ⟨_, rfl, by omega, by omega⟩
   rw [<- e0]
   first|apply aa|apply ao
   simp
   refine yN hk0 (by omega) (by omega) (by decide) (by decide) fun pl0 x z hp0 hn0 => ?_
   simp [h5]
   apply aa
   simp
   refine pM hk0 hsm hp0 (by omega) l0 l1 fun x z last ws pl s2 hk hp hpl l2 l3 hs2 _ => ?_
   have XS : ∃ s5, dz (.own false (pl0.map Tr.d)) (some s2) = s5 /\ fr s5 = true := by
    rcases hs2 with rfl | rfl
    . exact ⟨_, rfl, rfl⟩
    . exact ⟨_, rfl, rfl⟩
   obtain ⟨s5', e5, XX⟩ := XS
   simp [e5, XX, h6, h7]
   have RL : pl.length <= 50 := by omega
   have hw := hp.Wq
   first|apply aa|apply ao
   simp [h8]
   apply aa
   simp
   refine cC (JA ws _ _ _ _ _ _ _ _ gU) ?_ ?_ ⟨pl, [-1, last, last + 1000000000000000], s9, rfl, h9, rfl, hw, by simp; omega⟩
   . rintro d r _ ⟨us, as, s9, rfl, h9, hr, hi, hal⟩
     cases us with
     | nil => cases hr
     | cons v us =>
       obtain ⟨rfl, rfl⟩ : d = v.d /\ r = us.map Tr.d := by simpa using hr
       simp at hal
       simp [h9]
       apply aa
       simp [show 3 <= lim from vR (by decide)]
       refine pY (FC _ _ _ _ _ _ _ _ _ _ _) (fun d => ∃ i, d = D.int i) ⟨.bj, rfl, rfl⟩ ?_ ?_
       . rintro d hd _ ⟨s, rfl, hs⟩
         have : ∃ i, d = D.int i := by
          simp at hd
          rcases hd with rfl | rfl | rfl <;> exact ⟨_, rfl⟩
         obtain ⟨i, rfl⟩ := this
         simp [hs]
         refine jH (hi v (by simp)) ?_
         simp
         exact ⟨_, rfl, rfl⟩
       rintro xs _ ⟨s, rfl, hs⟩ ZP hx
       obtain ⟨is, rfl⟩ := ints_of hx
       simp at ZP
       simp [ZP, show as.length + 3 <= lim from vR (by omega)]
       exact ⟨us, as ++ is, .val false v.d, by simp, rfl, rfl, fun y hy => hi y (by simp [hy]), by simp; omega⟩
   rintro _ ⟨us, as, s9, rfl, h9, hr, hi, hal⟩
   obtain ⟨bs, e3, e4⟩ := Eu (as := as) (by omega)
   simp
   apply aa
   simp [e3]
   refine cC (JB _ _ _ _ _ _ _ _ _ _) ?_ ?_ ⟨gU, rfl, h10, fun d hd => by obtain ⟨i, _, rfl⟩ := List.mem_map.mp hd; exact ⟨i, rfl⟩⟩
   . rintro d r _ ⟨gU, rfl, h10, hr⟩
     obtain ⟨t, rfl⟩ := hr d (by simp)
     simp [h10]
     apply aa
     simp
     refine o7 hw hp.Ge RL ?_
     simp
     exact ⟨_, rfl, rfl, fun d hd => hr d (by simp [hd])⟩
   rintro _ ⟨gU, rfl, h10, hr⟩
   simp
   apply aa
   simp
   refine oY hk0 (by omega) fun pl1 x z hp1 hc1 hn1 => ?_
   simp
   apply aa
   simp
   refine pM hk0 hsm hp1 (by omega) l0 l1 fun x z last ws pl s2 hk hp hpl l2 l3 hs2 _ => ?_
   have XS : ∃ s5, dz (.own false (pl1.map Tr.d)) (some s2) = s5 /\ fr s5 = true := by
    rcases hs2 with rfl | rfl
    . exact ⟨_, rfl, rfl⟩
    . exact ⟨_, rfl, rfl⟩
   obtain ⟨s5', e5, XX⟩ := XS
   simp [e5, XX]
   apply aa
   simp
   refine lX hp.Wq (by omega) ?_
   simp
   exact ⟨_, _, _, _, _, _, _, _, _, _, rfl, ⟨rfl, rfl, rfl, rfl, rfl⟩, ⟨rfl, rfl, rfl, h9, h10⟩, fun d h => hd d (List.mem_cons_of_mem _ h)⟩
 . rintro _ ⟨s1, s2, s3, s4, s5, s6, s7, s8, s9, gU, rfl, _⟩
   first|apply aa|apply ao
   simp
 . exact ⟨.bj, .bj, .bj, .bj, .bj, .bj, .bj, .bj, .bj, .bj, rfl, ⟨rfl, rfl, rfl, rfl, rfl⟩, ⟨rfl, rfl, rfl, rfl, rfl⟩, fun d hd => by
    have hd' : d = D.int 0 \/ ∃ a, a ∈ cs /\ D.int a = d := by simpa using hd
    rcases hd' with rfl | ⟨i, _, rfl⟩
    . exact ⟨_, rfl⟩
    . exact ⟨_, rfl⟩⟩
end T
end
namespace PySem.W.Fast
theorem tw17121331820036953769 : True := ⟨⟩
theorem tw27148088553064051 : True := ⟨⟩
theorem tw9343266919007286763 : True := ⟨⟩
theorem tw7280691232240816701 : True := ⟨⟩
theorem tw5330035586495507365 : True := ⟨⟩
theorem tw4499471347086369063 : True := ⟨⟩
theorem tw5341443985954235357 : True := ⟨⟩
theorem tw1426096131047430862 : True := ⟨⟩
theorem tw12770996819411021770 : True := ⟨⟩
theorem tw9614634689990487064 : True := ⟨⟩
theorem tw10881213342080678004 : True := ⟨⟩
theorem tw17894815625185104051 : True := ⟨⟩
end PySem.W.Fast
namespace T
open PySem L2 PySem.Spec PyProof.Rows HH
structure Txt (K : PySem.W.Frag) : Prop where
 D0 : bY K "hour_out" s0
 D1 : bY K "plan_till" s1
 D2 : bY K "turned_plan" s2
 D3 : bY K "_law_pool" s3
 D4 : bY K "_law_next" s4
 D5 : bY K "_law_cells" s5
 D6 : bY K "_law_way" s6
 D7 : bY K "_law_net" s7
 D8 : bY K "_law_out" s8
 D9 : bY K "_law_come" s9
 D10 : bY K "_law_left" gU
 D11 : bY K "_law_plan" uO
 D12 : bY K "_law_grown" s12
 D13 : bY K "_law_plan_like" qj
 D14 : bY K "_law_free" Ms
 D15 : bY K "_law_open" Vj
 D16 : bY K "_law_journey" UT
 D17 : bY K "_law_joined" Ur
 D18 : bY K "_law_clean_plan" Uy
 D19 : bY K "_law_till_right" V3
 D20 : bY K "_law_turned_right" VF
 D21 : bY K "law" Vf
 BX : PySem.W.nsIn K mainGlobals "any" = some none
 v9 : PySem.W.nsIn K mainGlobals "bool" = some none
 dm : PySem.W.nsIn K mainGlobals "isinstance" = some none
 gn : PySem.W.nsIn K mainGlobals "len" = some none
 dY : PySem.W.nsIn K mainGlobals "list" = some none
 BW : PySem.W.nsIn K mainGlobals "max" = some none
 qe : PySem.W.nsIn K mainGlobals "min" = some none
 bG : PySem.W.nsIn K mainGlobals "range" = some none
 xR : PySem.W.nsIn K mainGlobals "set" = some none
 bC : PySem.W.nsIn K mainGlobals "sorted" = some none
 kE : PySem.W.nsIn K mainGlobals "sum" = some none
 eU : PySem.W.nsIn K mainGlobals "tuple" = some none
noncomputable def mD {K : PySem.W.Frag} (T : Txt K) : Nat -> Addr := fun k => 0
structure Oks (Pg : Program) (w : World) (K : PySem.W.Frag) (mg : Str -> Option Value) (base : Heap) (cl : Nat -> Addr) (n : Nat) : Prop where
 c0 : aC Pg w K mg base n (run Γ 1000 n) 0 "hour_out" 3
 c1 : aC Pg w K mg base n (run Γ 1000 n) 1 "plan_till" 3
 c2 : aC Pg w K mg base n (run Γ 1000 n) 2 "turned_plan" 3
 c3 : aC Pg w K mg base n (run Γ 1000 n) 3 "_law_pool" 1
 c4 : aC Pg w K mg base n (run Γ 1000 n) 4 "_law_next" 2
 c5 : aC Pg w K mg base n (run Γ 1000 n) 5 "_law_cells" 2
 c6 : aC Pg w K mg base n (run Γ 1000 n) 6 "_law_way" 3
 c7 : aC Pg w K mg base n (run Γ 1000 n) 7 "_law_net" 1
 c8 : aC Pg w K mg base n (run Γ 1000 n) 8 "_law_out" 2
 c9 : aC Pg w K mg base n (run Γ 1000 n) 9 "_law_come" 4
 X3 : aC Pg w K mg base n (run Γ 1000 n) 10 "_law_left" 4
 Ue : aC Pg w K mg base n (run Γ 1000 n) 11 "_law_plan" 4
 c12 : aC Pg w K mg base n (run Γ 1000 n) 12 "_law_grown" 4
 Ug : aC Pg w K mg base n (run Γ 1000 n) 13 "_law_plan_like" 2
 Uh : aC Pg w K mg base n (run Γ 1000 n) 14 "_law_free" 4
 X4 : aC Pg w K mg base n (run Γ 1000 n) 15 "_law_open" 5
 c16 : aC Pg w K mg base n (run Γ 1000 n) 16 "_law_journey" 4
 X5 : aC Pg w K mg base n (run Γ 1000 n) 17 "_law_joined" 1
 Ui : aC Pg w K mg base n (run Γ 1000 n) 18 "_law_clean_plan" 3
 Uj : aC Pg w K mg base n (run Γ 1000 n) 19 "_law_till_right" 3
 Uk : aC Pg w K mg base n (run Γ 1000 n) 20 "_law_turned_right" 3
 c21 : aC Pg w K mg base n (run Γ 1000 n) 21 "law" 1
set_option maxHeartbeats 0 in
theorem zx {Pg : Program} {w : World} {K : PySem.W.Frag} {mg : Str -> Option Value} {base : Heap} (T : Txt K) (X : K.In base) (G : base.Ns mainGlobals mg) : ∀ n, Oks Pg w K mg base (mD T) n
 | 0 => {
   c0 := cJ (ps := ["net", "hour", "way"]) X G T.D0 rfl (fun _ _ _ _ _ _ us hl => match us, hl with | [_, _, _], _ => rfl)
   c1 := cJ (ps := ["net", "plan", "hour"]) X G T.D1 rfl (fun _ _ _ _ _ _ us hl => match us, hl with | [_, _, _], _ => rfl)
   c2 := cJ (ps := ["net", "last", "plan"]) X G T.D2 rfl (fun _ _ _ _ _ _ us hl => match us, hl with | [_, _, _], _ => rfl)
   c3 := cJ (ps := ["cell"]) X G T.D3 rfl (fun _ _ _ _ _ _ us hl => match us, hl with | [_], _ => rfl)
   c4 := cJ (ps := ["pool", "base"]) X G T.D4 rfl (fun _ _ _ _ _ _ us hl => match us, hl with | [_, _], _ => rfl)
   c5 := cJ (ps := ["script", "most"]) X G T.D5 rfl (fun _ _ _ _ _ _ us hl => match us, hl with | [_, _], _ => rfl)
   c6 := cJ (ps := ["pool", "many", "k"]) X G T.D6 rfl (fun _ _ _ _ _ _ us hl => match us, hl with | [_, _, _], _ => rfl)
   c7 := cJ (ps := ["pool"]) X G T.D7 rfl (fun _ _ _ _ _ _ us hl => match us, hl with | [_], _ => rfl)
   c8 := cJ (ps := ["net", "triple"]) X G T.D8 rfl (fun _ _ _ _ _ _ us hl => match us, hl with | [_, _], _ => rfl)
   c9 := cJ (ps := ["net", "plan", "place", "hour"]) X G T.D9 rfl (fun _ _ _ _ _ _ us hl => match us, hl with | [_, _, _, _], _ => rfl)
   X3 := cJ (ps := ["net", "plan", "place", "hour"]) X G T.D10 rfl (fun _ _ _ _ _ _ us hl => match us, hl with | [_, _, _, _], _ => rfl)
   Ue := cJ (ps := ["pool", "net", "last", "most"]) X G T.D11 rfl (fun _ _ _ _ _ _ us hl => match us, hl with | [_, _, _, _], _ => rfl)
   c12 := cJ (ps := ["pool", "net", "plan", "last"]) X G T.D12 rfl (fun _ _ _ _ _ _ us hl => match us, hl with | [_, _, _, _], _ => rfl)
   Ug := cJ (ps := ["found", "due"]) X G T.D13 rfl (fun _ _ _ _ _ _ us hl => match us, hl with | [_, _], _ => rfl)
   Uh := cJ (ps := ["net", "plan", "hour", "way"]) X G T.D14 rfl (fun _ _ _ _ _ _ us hl => match us, hl with | [_, _, _, _], _ => rfl)
   X4 := cJ (ps := ["net", "last", "plan", "hour", "here"]) X G T.D15 rfl (fun _ _ _ _ _ _ us hl => match us, hl with | [_, _, _, _, _], _ => rfl)
   c16 := cJ (ps := ["pool", "net", "last", "plan"]) X G T.D16 rfl (fun _ _ _ _ _ _ us hl => match us, hl with | [_, _, _, _], _ => rfl)
   X5 := cJ (ps := ["triples"]) X G T.D17 rfl (fun _ _ _ _ _ _ us hl => match us, hl with | [_], _ => rfl)
   Ui := cJ (ps := ["pool", "net", "last"]) X G T.D18 rfl (fun _ _ _ _ _ _ us hl => match us, hl with | [_, _, _], _ => rfl)
   Uj := cJ (ps := ["net", "plan", "hour"]) X G T.D19 rfl (fun _ _ _ _ _ _ us hl => match us, hl with | [_, _, _], _ => rfl)
   Uk := cJ (ps := ["net", "last", "plan"]) X G T.D20 rfl (fun _ _ _ _ _ _ us hl => match us, hl with | [_, _, _], _ => rfl)
   c21 := cJ (ps := ["script"]) X G T.D21 rfl (fun _ _ _ _ _ _ us hl => match us, hl with | [_], _ => rfl)
 }
 | n + 1 =>
   have ih := zx (Pg := Pg) (w := w) (base := base) T X G n
   {
    c0 := cI (ps := ["net", "hour", "way"]) X G T.D0 rfl rfl (fun _ _ _ _ _ _ us hl => match us, hl with | [_, _, _], _ => rfl) fun _ _ F => d0 (cl := mD T) F
    c1 := cI (ps := ["net", "plan", "hour"]) X G T.D1 rfl rfl (fun _ _ _ _ _ _ us hl => match us, hl with | [_, _, _], _ => rfl) fun _ _ F => d1 (cl := mD T) F (PySem.W.mg_none_of X G T.bC) ih.c0
    c2 := cI (ps := ["net", "last", "plan"]) X G T.D2 rfl rfl (fun _ _ _ _ _ _ us hl => match us, hl with | [_, _, _], _ => rfl) fun _ _ F => d2 (cl := mD T) F (PySem.W.mg_none_of X G T.bC) ih.c0
    c3 := cI (ps := ["cell"]) X G T.D3 rfl rfl (fun _ _ _ _ _ _ us hl => match us, hl with | [_], _ => rfl) fun _ _ F => d3 (cl := mD T) F (PySem.W.mg_none_of X G T.BW)
    c4 := cI (ps := ["pool", "base"]) X G T.D4 rfl rfl (fun _ _ _ _ _ _ us hl => match us, hl with | [_, _], _ => rfl) fun _ _ F => d4 (cl := mD T) F
    c5 := cI (ps := ["script", "most"]) X G T.D5 rfl rfl (fun _ _ _ _ _ _ us hl => match us, hl with | [_, _], _ => rfl) fun _ _ F => d5 (cl := mD T) F (PySem.W.mg_none_of X G T.gn) (PySem.W.mg_none_of X G T.dY) (PySem.W.mg_none_of X G T.bG)
    c6 := cI (ps := ["pool", "many", "k"]) X G T.D6 rfl rfl (fun _ _ _ _ _ _ us hl => match us, hl with | [_, _, _], _ => rfl) fun _ _ F => d6 (cl := mD T) F ih.c4
    c7 := cI (ps := ["pool"]) X G T.D7 rfl rfl (fun _ _ _ _ _ _ us hl => match us, hl with | [_], _ => rfl) fun _ _ F => d7 (cl := mD T) F (PySem.W.mg_none_of X G T.bG) (PySem.W.mg_none_of X G T.eU) ih.c4 ih.c6
    c8 := cI (ps := ["net", "triple"]) X G T.D8 rfl rfl (fun _ _ _ _ _ _ us hl => match us, hl with | [_, _], _ => rfl) fun _ _ F => d8 (cl := mD T) F
    c9 := cI (ps := ["net", "plan", "place", "hour"]) X G T.D9 rfl rfl (fun _ _ _ _ _ _ us hl => match us, hl with | [_, _, _, _], _ => rfl) fun _ _ F => d9 (cl := mD T) F (PySem.W.mg_none_of X G T.kE) ih.c8
    X3 := cI (ps := ["net", "plan", "place", "hour"]) X G T.D10 rfl rfl (fun _ _ _ _ _ _ us hl => match us, hl with | [_, _, _, _], _ => rfl) fun _ _ F => d10 (cl := mD T) F (PySem.W.mg_none_of X G T.kE)
    Ue := cI (ps := ["pool", "net", "last", "most"]) X G T.D11 rfl rfl (fun _ _ _ _ _ _ us hl => match us, hl with | [_, _, _, _], _ => rfl) fun _ _ F => d11 (cl := mD T) F (PySem.W.mg_none_of X G T.gn) (PySem.W.mg_none_of X G T.qe) (PySem.W.mg_none_of X G T.bG) ih.c9 ih.X3 ih.c4
    c12 := cI (ps := ["pool", "net", "plan", "last"]) X G T.D12 rfl rfl (fun _ _ _ _ _ _ us hl => match us, hl with | [_, _, _, _], _ => rfl) fun _ _ F => d12 (cl := mD T) F (PySem.W.mg_none_of X G T.eU) ih.c4
    Ug := cI (ps := ["found", "due"]) X G T.D13 rfl rfl (fun _ _ _ _ _ _ us hl => match us, hl with | [_, _], _ => rfl) fun _ _ F => d13 (cl := mD T) F (PySem.W.mg_none_of X G T.BX) (PySem.W.mg_none_of X G T.v9) (PySem.W.mg_none_of X G T.dm) (PySem.W.mg_none_of X G T.dY) (PySem.W.mg_none_of X G T.eU)
    Uh := cI (ps := ["net", "plan", "hour", "way"]) X G T.D14 rfl rfl (fun _ _ _ _ _ _ us hl => match us, hl with | [_, _, _, _], _ => rfl) fun _ _ F => d14 (cl := mD T) F (PySem.W.mg_none_of X G T.kE)
    X4 := cI (ps := ["net", "last", "plan", "hour", "here"]) X G T.D15 rfl rfl (fun _ _ _ _ _ _ us hl => match us, hl with | [_, _, _, _, _], _ => rfl) fun _ _ F => d15 (cl := mD T) F (PySem.W.mg_none_of X G T.gn) (PySem.W.mg_none_of X G T.bG) ih.Uh
    c16 := cI (ps := ["pool", "net", "last", "plan"]) X G T.D16 rfl rfl (fun _ _ _ _ _ _ us hl => match us, hl with | [_, _, _, _], _ => rfl) fun _ _ F => d16 (cl := mD T) F (PySem.W.mg_none_of X G T.gn) (PySem.W.mg_none_of X G T.qe) (PySem.W.mg_none_of X G T.bG) ih.Uh ih.c4 ih.X4
    X5 := cI (ps := ["triples"]) X G T.D17 rfl rfl (fun _ _ _ _ _ _ us hl => match us, hl with | [_], _ => rfl) fun _ _ F => d17 (cl := mD T) F (PySem.W.mg_none_of X G T.bC)
    Ui := cI (ps := ["pool", "net", "last"]) X G T.D18 rfl rfl (fun _ _ _ _ _ _ us hl => match us, hl with | [_, _, _], _ => rfl) fun _ _ F => d18 (cl := mD T) F (PySem.W.mg_none_of X G T.bG) ih.X5 ih.c16 ih.c4
    Uj := cI (ps := ["net", "plan", "hour"]) X G T.D19 rfl rfl (fun _ _ _ _ _ _ us hl => match us, hl with | [_, _, _], _ => rfl) fun _ _ F => d19 (cl := mD T) F (PySem.W.mg_none_of X G T.dY) ih.c8 ih.Ug ih.c1
    Uk := cI (ps := ["net", "last", "plan"]) X G T.D20 rfl rfl (fun _ _ _ _ _ _ us hl => match us, hl with | [_, _, _], _ => rfl) fun _ _ F => d20 (cl := mD T) F (PySem.W.mg_none_of X G T.dY) (PySem.W.mg_none_of X G T.bC) ih.c8 ih.Ug ih.c2
    c21 := cI (ps := ["script"]) X G T.D21 rfl rfl (fun _ _ _ _ _ _ us hl => match us, hl with | [_], _ => rfl) fun _ _ F => Y6 (cl := mD T) F (PySem.W.mg_none_of X G T.xR) (PySem.W.mg_none_of X G T.bC) ih.c5 ih.Ui ih.c12 ih.c7 ih.c4 ih.c8 ih.Ue ih.c3 ih.Uj ih.Uk
   }
theorem gin {K : PySem.W.Frag} {x : Str} {i : Int} {t : Tok} (a : PySem.W.nsIn K mainGlobals x = some (some (Value.int i t))) : ∃ t, PySem.W.nsIn K mainGlobals x = some (some (Value.int i t)) := ⟨t, a⟩
set_option maxHeartbeats 0 in
theorem IK {Pg : Program} {w : World} {K : PySem.W.Frag} {mg : Str -> Option Value} {h : Heap} {fa : Addr} (T : Txt K) (X : K.In h) (G : h.Ns mainGlobals mg) (hmg : mg "law" = some (.ref fa)) :
 ∃ fd : FuncData, (∀ (s : Shared) (u : Value), BindsTo s fd ⟨[u], []⟩ [("script", u)]) /\ ∀ base : Heap, K.In base -> base.Ns mainGlobals mg -> cF Pg w K mg base iZ 40 fa fd ["script"] (jF K 1 (run Γ 1000 40 21)) := by
 obtain ⟨f, fd, a, F⟩ := T.D21.ex
 have e := hmg.symm.trans (PySem.W.mg_of X G a)
 cases e
 refine ⟨fd, fun s u => ?_, fun base kb nb => ?_⟩
 . obtain ⟨oc, od, kV, doc, pm, an, cdv, ct, osl, rfl, lk, hcd⟩ := F.ex
   exact .of_eq rfl
 . have ih := zx (Pg := Pg) (w := w) (base := base) T kb nb 39
   exact Y6 (cl := mD T) (k := 39) (n := 1000) (c := run Γ 1000 39) F (PySem.W.mg_none_of X G T.xR) (PySem.W.mg_none_of X G T.bC) ih.c5 ih.Ui ih.c12 ih.c7 ih.c4 ih.c8 ih.Ue ih.c3 ih.Uj ih.Uk
end T
open PySem PySem.W PyProof.Rows
set_option maxRecDepth 100000 in
set_option maxHeartbeats 0 in
theorem PySem.Challenge.cw_hourhaul_k14_till_and_turned_holds : PySem.Challenge.rw_hourhaul_k14_till_and_turned.Holds := by
 w_on; o_law; k_head; (case hw => w_witness2)
 k_fill
 refine L2.Ai (l := PySem.Challenge.rw_hourhaul_k14_till_and_turned) (n := 63) (k := 40) (x := "script") (CX := L2.iZ) (sp := fun K => HH.jF K 1 (HH.run T.Γ 1000 40 21)) rfl (by decide) rfl ⟨rfl, by decide, by decide⟩ (fun w h Y => PySem.W.kIn_of Y) ?F ?S ?C
 case F =>
  intro w mg fa h KX G hmg
  refine T.IK ?T KX G hmg
  constructor
  . refine' HH.bJ ?a ?l ?c ?k; case a | l | c | k => k_is
  . refine' HH.bJ ?a ?l ?c ?k; case a | l | c | k => k_is
  . refine' HH.bJ ?a ?l ?c ?k; case a | l | c | k => k_is
  . refine' HH.bJ ?a ?l ?c ?k; case a | l | c | k => k_is
  . refine' HH.bJ ?a ?l ?c ?k; case a | l | c | k => k_is
  . refine' HH.bJ ?a ?l ?c ?k; case a | l | c | k => k_is
  . refine' HH.bJ ?a ?l ?c ?k; case a | l | c | k => k_is
  . refine' HH.bJ ?a ?l ?c ?k; case a | l | c | k => k_is
  . refine' HH.bJ ?a ?l ?c ?k; case a | l | c | k => k_is
  . refine' HH.bJ ?a ?l ?c ?k; case a | l | c | k => k_is
  . refine' HH.bJ ?a ?l ?c ?k; case a | l | c | k => k_is
  . refine' HH.bJ ?a ?l ?c ?k; case a | l | c | k => k_is
  . refine' HH.bJ ?a ?l ?c ?k; case a | l | c | k => k_is
  . refine' HH.bJ ?a ?l ?c ?k; case a | l | c | k => k_is
  . refine' HH.bJ ?a ?l ?c ?k; case a | l | c | k => k_is
  . refine' HH.bJ ?a ?l ?c ?k; case a | l | c | k => k_is
  . refine' HH.bJ ?a ?l ?c ?k; case a | l | c | k => k_is
  . refine' HH.bJ ?a ?l ?c ?k; case a | l | c | k => k_is
  . refine' HH.bJ ?a ?l ?c ?k; case a | l | c | k => k_is
  . refine' HH.bJ ?a ?l ?c ?k; case a | l | c | k => k_is
  . refine' HH.bJ ?a ?l ?c ?k; case a | l | c | k => k_is
  . refine' HH.bJ ?a ?l ?c ?k; case a | l | c | k => k_is
  . k_is
  . k_is
  . k_is
  . k_is
  . k_is
  . k_is
  . k_is
  . k_is
  . k_is
  . k_is
  . k_is
  . k_is
 case S =>
  intro K H a ns hl hO hS
  obtain ⟨as, e⟩ := T.CP ns hl
  exact HH.yh hS e
 case C => exact fun H s e s' z => z
