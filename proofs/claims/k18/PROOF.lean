import PyProof.Rows.All
import Wide.All
import OpenK.AllK
import Wide.FinOn
import Lean
import PyProof.EqAt
import PyProof.EqKinds
import PyProof.TupleCall
import PySem.Str
import PySem.Builtin.Int.W1All
import PyProof.NeKinds
import PyProof.ZipIter
import PyProof.SumWalkG
import PyProof.MinMaxWalk
import PyProof.WalksMore
import PyProof.SeqI3
import PyProof.WalkInts
import PyProof.Rows.CallKwBuiltin
import PyProof.Rows.Tup
import PyProof.CollectIter
import PyProof.EnumMake
import PyProof.TupleOfSeq
import PyProof.ListNew
import PyProof.ReprLoop
import PyProof.StationsW
import PyProof.ExcClass3
import PyProof.Rows.CatchBare
import OpenK.KOwn
import KE.KIsAll
import PyProof.NsDelKeeps
import PyProof.RulesAs
import PyProof.ExcArgsOwn
import PyProof.ListRange
import KE.RegKIsAll
import KE.KRevIter
import KE.KSortTup
import PyProof.DictWalks
import KE.KDictList
import PyProof.ExcBaseAll.ValueError
import PySem.Challenge.RW_hourhaul_k18_whole_parts_of_right_plans
set_option Elab.async false
set_option linter.all false
set_option maxRecDepth 100000
set_option genSizeOf false
set_option compiler.extract_closed false
set_option bootstrap.genMatcherCode false
section
namespace L2
open PySem PySem.Spec PyProof.Rows
noncomputable abbrev Key := Sum Int Str
noncomputable def oR : Key -> Value -> Bool
 | .inl k, v => Value.isInt k v
 | .inr x, v => Value.isStrOf x v
noncomputable def Xv (w : World) : Key -> Int
 | .inl k => hashInt k
 | .inr x => hashStr w x
theorem bF : ∀ {k : Key} {v : Value}, oR k v = true -> (∃ i t, k = Sum.inl i /\ v = Value.int i t) \/ (∃ x t, k = Sum.inr x /\ v = Value.str x t)
 | .inl i, v, h => by
   obtain ⟨t, e⟩ := Value.isInt_shape (k := i) (v := v) h
   exact .inl ⟨i, t, rfl, e⟩
 | .inr x, v, h => by
   obtain ⟨t, e⟩ := Value.isStrOf_shape (x := x) (v := v) h
   exact .inr ⟨x, t, rfl, e⟩
theorem zf (i : Int) (t : Tok) : oR (.inl i) (.int i t) = true := by simp [oR, Value.isInt]
theorem zu (x : Str) (t : Tok) : oR (.inr x) (.str x t) = true := by simp [oR, Value.isStrOf]
theorem JS (a b : Int) : decide ((Sum.inl a : Key) = Sum.inl b) = (a == b) := by
 by_cases e : a = b
 . subst e; simp
 . have h : ¬ (Sum.inl a : Key) = Sum.inl b := fun q => e (Sum.inl.inj q)
   rw [decide_eq_false h]
   exact (beq_eq_false_iff_ne.mpr e).symm
theorem Mr (a b : Str) : decide ((Sum.inr a : Key) = Sum.inr b) = decide (a = b) := by
 by_cases e : a = b
 . subst e; simp
 . have h : ¬ (Sum.inr a : Key) = Sum.inr b := fun q => e (Sum.inr.inj q)
   rw [decide_eq_false h, decide_eq_false e]
theorem Mm (a : Int) (b : Str) : decide ((Sum.inl a : Key) = Sum.inr b) = false := decide_eq_false (fun q => nomatch q)
theorem J2 (a : Str) (b : Int) : decide ((Sum.inr a : Key) = Sum.inl b) = false := decide_eq_false (fun q => nomatch q)
noncomputable def bM (prog : Program) (w : World) : PySem.KeyKind prog w Key where
 is := oR
 hash := Xv w
 inj := fun v a b ha hb => by
  rcases bF ha with ⟨i, t, rfl, rfl⟩ | ⟨x, t, rfl, rfl⟩
  . rcases bF hb with ⟨j, u, rfl, e⟩ | ⟨y, u, rfl, e⟩
    . injection e with e1 _; rw [e1]
    . exact nomatch e
  . rcases bF hb with ⟨j, u, rfl, e⟩ | ⟨y, u, rfl, e⟩
    . exact nomatch e
    . injection e with e1 _; rw [e1]
 byValue := fun k v h => by
  rcases bF h with ⟨i, t, rfl, rfl⟩ | ⟨x, t, rfl, rfl⟩ <;> rfl
 pyHash := fun hv h => by
  rcases bF hv with ⟨i, t, rfl, rfl⟩ | ⟨x, t, rfl, rfl⟩
  . exact wpAny_pyHash_int h
  . exact wpAny_pyHash_str h
 eqBool := fun hu hv h => by
  rcases bF hu with ⟨i, t, rfl, rfl⟩ | ⟨x, t, rfl, rfl⟩
  . rcases bF hv with ⟨j, u, rfl, rfl⟩ | ⟨y, u, rfl, rfl⟩
    . rw [JS] at h; exact wpAny_eqBool_int h
    . rw [Mm] at h; exact SeqAt.EqAt.int_str i t y u _ _ _ _ h
  . rcases bF hv with ⟨j, u, rfl, rfl⟩ | ⟨y, u, rfl, rfl⟩
    . rw [J2] at h; exact SeqAt.EqAt.str_int x t j u _ _ _ _ h
    . rw [Mr] at h; exact wpAny_eqBool_str h
 «strs» := fun k x t v h => by
  rcases bF h with ⟨i, u, rfl, e⟩ | ⟨y, u, rfl, e⟩
  . exact nomatch e
  . injection e with e1 _
    subst e1
    cases v <;> rfl
theorem tH (prog : Program) (w : World) (i : Int) (t : Tok) : (bM prog w).is (.inl i) (.int i t) = true := zf i t
theorem tO (prog : Program) (w : World) (x : Str) (t : Tok) : (bM prog w).is (.inr x) (.str x t) = true := zu x t
end L2
namespace L2
open PySem PySem.Spec PyProof.Rows
inductive V where
 | non | bl (b : Bool) | int (i : Int) | str (x : Str) | YH (b : Array UInt8) | flt (b : UInt64) | ref (a : Addr) | ty (n : String)
 deriving DecidableEq
noncomputable def RelV : V -> Value -> Prop
 | .non, u => u = Value.none
 | .bl b, u => u = Value.bool b
 | .int i, u => ∃ t, u = Value.int i t
 | .str x, u => ∃ t, u = Value.str x t
 | .YH b, u => ∃ t, u = Value.bytes b t
 | .flt b, u => ∃ t, u = Value.float b t
 | .ref a, u => u = Value.ref a
 | .ty n, u => u = Value.type n
noncomputable abbrev Vals : List V -> List Value -> Prop := Paired RelV
theorem Vals.length {xs : List V} {us : List Value} (r : Vals xs us) : xs.length = us.length := Paired.length r
theorem Vals.get : ∀ {xs : List V} {us : List Value} {i : Nat} {x : V}, Vals xs us -> xs[i]? = some x -> ∃ u, us[i]? = some u /\ RelV x u
 | _, _, _, _, .nil, e => by simp at e
 | _, _, 0, _, .cons r _, e => by simp at e; subst e; exact ⟨_, rfl, r⟩
 | _, _, i + 1, x, .cons _ t, e => by
   obtain ⟨u, h1, h2⟩ := Vals.get (i := i) (x := x) t (by simpa using e)
   exact ⟨u, by simpa using h1, h2⟩
theorem Vals.set {x : V} {u : Value} (r : RelV x u) : ∀ {xs : List V} {us : List Value} (i : Nat), Vals xs us -> Vals (xs.set i x) (us.set i u)
 | _, _, _, .nil => .nil
 | _, _, 0, .cons _ t => .cons r t
 | _, _, i + 1, .cons q t => .cons q (Vals.set r i t)
theorem Vals.append : ∀ {xs ys : List V} {us ws : List Value}, Vals xs us -> Vals ys ws -> Vals (xs ++ ys) (us ++ ws)
 | _, _, _, _, .nil, s => s
 | _, _, _, _, .cons r t, s => .cons r (Vals.append t s)
theorem Vals.take : ∀ {xs : List V} {us : List Value} (n : Nat), Vals xs us -> Vals (xs.take n) (us.take n)
 | _, _, 0, _ => .nil
 | _, _, _ + 1, .nil => .nil
 | _, _, n + 1, .cons r t => .cons r (Vals.take n t)
theorem Vals.drop : ∀ {xs : List V} {us : List Value} (n : Nat), Vals xs us -> Vals (xs.drop n) (us.drop n)
 | _, _, 0, r => r
 | _, _, _ + 1, .nil => .nil
 | _, _, n + 1, .cons _ t => Vals.drop n t
noncomputable def lZ : Option V -> Option Value -> Prop
 | some v, some u => RelV v u
 | none, none => True
 | _, _ => False
noncomputable def KV {κ : Type} : List (κ × V) -> List (κ × Value) -> Prop := Paired fun (p : κ × V) (q : κ × Value) => p.1 = q.1 /\ RelV p.2 q.2
noncomputable def kV : Key -> V
 | .inl i => .int i
 | .inr x => .str x
inductive HO where
 /-- a list -/
 | lst (xs : List V)
 /-- a tuple (never changes) -/
 | tup (xs : List V)
 /-- a dict whose keys are ints and texts; one whose keys are tuples of ints and texts (the empty one is both) -/
 | dK (kvs : List (Key × V)) | dT (kvs : List (List Key × V))
 /-- a set of ints: its members, its size -/
 | set (S : Int -> Bool) (n : Nat)
 /-- an instance of the class at C, its dict at dx, its attributes -/
 | ins (C dx : Addr) (fs : List (Str × V))
 /-- the dict of the instance at x -/
 | own (x : Addr)
 /-- the dict of an exception -/
 | xd (fs : List (Str × V))
 /-- a bound method, f of x -/
 | met (f x : Addr)
 /-- a range object lo, lo + 1, .. below hi -/
 | sE (lo hi : Int)
 /-- a thing that is known to the object (the script; a dict while a loop walks it): read, never written while it is so -/
 | gq (o : Obj) (u : HO)
 /-- a code object's table -/
 | Mv (ps : Array Value)
 /-- any other thing, by what is true of its one object (a def of one's own: SetO a S n := HO.ext fun h => ..) -/
 | ext (φ : Heap -> Prop)
noncomputable abbrev Hp := Addr -> Option HO
noncomputable def upd (H : Hp) (a : Addr) (o : HO) : Hp := fun b => if b = a then some o else H b
theorem bh {H : Hp} {a : Addr} {o : HO} : upd H a o a = some o := by unfold upd; rw [if_pos rfl]
theorem aL {H : Hp} {a b : Addr} {o : HO} (h : b ≠ a) : upd H a o b = H b := by unfold upd; rw [if_neg h]
theorem RK {H : Hp} {a b : Addr} {o u : HO} (h : H a = some o) (h' : H b = some u) (d : o ≠ u) : a ≠ b := by
 intro e; subst e; rw [h] at h'; exact d (Option.some.inj h')
theorem fO {H : Hp} {a b : Addr} {o : HO} (h : H a = some o) (h' : H b = none) : a ≠ b := by
 intro e; subst e; rw [h] at h'; cases h'
section
variable (P : Program) (w : World)
noncomputable def bQ (H : Hp) (h : Heap) (a : Addr) : HO -> Prop
 | .lst xs => xs.length <= sizeLine /\ ∃ (its : List Value) (n : Nat), Vals xs its /\ h.get? a = some { cls := .type "list", data := .seq its.toArray n }
 | .tup xs => xs.length <= sizeLine /\ ∃ its : List Value, Vals xs its /\ IsTup h a its.toArray
 | .dK kvs => kvs.length <= sizeLine /\ (a == sysModules) = false /\ ∃ vs, KV kvs vs /\ h.DictOf (bM P w) a vs
 | .dT kvs => kvs.length <= sizeLine /\ (a == sysModules) = false /\ ∃ xs : List (List Key × Addr × Value),
  Paired (fun (p : List Key × V) (q : List Key × Addr × Value) => p.1 = q.1 /\ H q.2.1 = some (.tup (p.1.map kV)) /\ RelV p.2 q.2.2) kvs xs /\
  ∃ o es ep, h.get? a = some o /\ o.ExactDict /\ o.data = .dict es ep /\ es.toList = xs.map (entryOfKey (tupleKind (bM P w))) /\ (xs.map (·.1)).Nodup
 | .set S n => h.SetOf (intKind P w) a S n
 | .ins C dx fs => H dx = some (.own a) /\ fs.length <= 1000 /\ dx ≠ a /\ h.get? a = some (PySem.W.instObj C dx) /\
  ∃ mA, h.Ns1 dx mA /\ (∀ f, lZ (fs.lookup f) (mA f)) /\ PySem.Within mA (fs.map (·.1))
 | .own _ => ∃ o, h.get? a = some o
 | .xd fs => ∃ mA, h.Ns1 a mA /\ ∀ f, lZ (fs.lookup f) (mA f)
 | .sE lo hi => ∃ t u v, h.get? a = some { cls := .type "range", data := .fields #[.int lo t, .int hi u, .int 1 v] }
 | .gq o u => h.get? a = some o /\ bQ H h a u
 | .Mv ps => h.get? a = some { cls := .none, data := .fields ps }
 | .met f x => h.get? a = some (PySem.W.methodObj (.ref f) (.ref x))
 | .ext φ => φ h /\ (∃ o, h.get? a = some o) /\ ∀ h1 h2 : Heap, φ h1 -> (∀ o, h1.get? a = some o -> h2.get? a = some o) -> φ h2
noncomputable def j7 (H : Hp) (h : Heap) : Prop := ∀ a o, H a = some o -> bQ P w H h a o
end
section
variable {P : Program} {w : World} {H H' : Hp} {h h' : Heap} {a : Addr} {o : HO}
theorem bQ.lt (x : bQ P w H h a o) : a < h.objs.size := by
 cases o with
 | lst xs => obtain ⟨_, _, _, _, e⟩ := x; exact Heap.lt_size e
 | tup xs => obtain ⟨_, _, _, p⟩ := x; exact p.lt
 | dK kvs => obtain ⟨_, _, _, _, o, _, _, e, _⟩ := x; exact Heap.lt_size e
 | dT kvs => obtain ⟨_, _, _, _, o, _, _, e, _⟩ := x; exact Heap.lt_size e
 | set S n => obtain ⟨o, _, _, _, e, _⟩ := x; exact Heap.lt_size e
 | ins C dx fs => obtain ⟨_, _, _, e, _⟩ := x; exact Heap.lt_size e
 | own y => obtain ⟨_, e⟩ := x; exact Heap.lt_size e
 | xd fs => obtain ⟨_, ⟨_, _, _, e, _⟩, _⟩ := x; exact Heap.lt_size e
 | sE lo hi => obtain ⟨_, _, _, e⟩ := x; exact Heap.lt_size e
 | gq ob u => obtain ⟨e, _⟩ := x; exact Heap.lt_size e
 | Mv ps => exact Heap.lt_size (show h.get? a = some _ from x)
 | met f y => exact Heap.lt_size (show h.get? a = some _ from x)
 | ext φ => obtain ⟨_, ⟨_, e⟩, _⟩ := x; exact Heap.lt_size e
theorem Paired.Jr {α β : Type} {F G : α -> β -> Prop} : ∀ {l₁ : List α} {l₂ : List β}, Paired F l₁ l₂ -> (∀ a b, F a b -> G a b) -> Paired G l₁ l₂
 | _, _, .nil, _ => .nil
 | _, _, .cons r t, f => .cons (f _ _ r) (Paired.Jr t f)
theorem bQ.stay (x : bQ P w H h a o) (k : ∀ b u, (b = a \/ H b = some (.own a)) -> h.get? b = some u -> h'.get? b = some u)
 (ho : ∀ b, H b = some (.own a) -> H' b = some (.own a)) (ht : ∀ b xs, H b = some (.tup xs) -> H' b = some (.tup xs)) : bQ P w H' h' a o := by
 induction o with
 | lst xs => obtain ⟨z, its, n, r, e⟩ := x; exact ⟨z, its, n, r, k _ _ (.inl rfl) e⟩
 | tup xs => obtain ⟨z, its, r, ob, e, c⟩ := x; exact ⟨z, its, r, ob, k _ _ (.inl rfl) e, c⟩
 | dK kvs => obtain ⟨z, y, vs, r, ob, es, ep, e, c⟩ := x; exact ⟨z, y, vs, r, ob, es, ep, k _ _ (.inl rfl) e, c⟩
 | dT kvs =>
   obtain ⟨z, y, xs, r, ob, es, ep, e, c⟩ := x
   exact ⟨z, y, xs, Paired.Jr r fun p q z => ⟨z.1, ht _ _ z.2.1, z.2.2⟩, ob, es, ep, k _ _ (.inl rfl) e, c⟩
 | set S n => obtain ⟨ob, es, ep, t, e, c⟩ := x; exact ⟨ob, es, ep, t, k _ _ (.inl rfl) e, c⟩
 | ins C dx fs =>
   obtain ⟨d, z, ne, e, mA, ⟨od, es, ep, e2, c⟩, r⟩ := x
   exact ⟨ho _ d, z, ne, k _ _ (.inl rfl) e, mA, ⟨od, es, ep, k _ _ (.inr d) e2, c⟩, r⟩
 | own y => obtain ⟨ob, e⟩ := x; exact ⟨ob, k _ _ (.inl rfl) e⟩
 | xd fs => obtain ⟨mA, ⟨od, es, ep, e, c⟩, r⟩ := x; exact ⟨mA, ⟨od, es, ep, k _ _ (.inl rfl) e, c⟩, r⟩
 | sE lo hi => obtain ⟨t, u, v, e⟩ := x; exact ⟨t, u, v, k _ _ (.inl rfl) e⟩
 | gq ob u ih => obtain ⟨e, q⟩ := x; exact ⟨k _ _ (.inl rfl) e, ih q⟩
 | Mv ps =>
   have e : h.get? a = some { cls := .none, data := .fields ps } := x
   show h'.get? a = some { cls := .none, data := .fields ps }
   exact k a _ (.inl rfl) e
 | met f y =>
   have e : h.get? a = some (PySem.W.methodObj (.ref f) (.ref y)) := x
   show h'.get? a = some (PySem.W.methodObj (.ref f) (.ref y))
   exact k a _ (.inl rfl) e
 | ext φ => obtain ⟨p, ⟨o, e⟩, st⟩ := x; exact ⟨st _ _ p fun o q => k _ _ (.inl rfl) q, ⟨o, k _ _ (.inl rfl) e⟩, st⟩
theorem j7.lt (x : j7 P w H h) (e : H a = some o) : a < h.objs.size := (x a o e).lt
theorem j7.fresh (x : j7 P w H h) (e : h.objs.size <= a) : H a = none := by
 cases q : H a with
 | none => rfl
 | some u => exact absurd (Nat.lt_of_lt_of_le (x.lt q) e) (Nat.lt_irrefl _)
theorem j7.kept (x : j7 P w H h) (k : ∀ b u, h.get? b = some u -> h'.get? b = some u) : j7 P w H h' := fun a o e =>
 (x a o e).stay (fun b u _ q => k b u q) (fun _ q => q) fun _ _ q => q
theorem j7.laid (x : j7 P w H h) (k : ∀ b u, h.get? b = some u -> h'.get? b = some u) (hp : h.objs.size <= a) (new : bQ P w (upd H a o) h' a o) : j7 P w (upd H a o) h' := fun b u e => by
 have hn := x.fresh hp
 by_cases hb : b = a
 . subst hb; rw [bh] at e; cases e; exact new
 . rw [aL hb] at e
   exact (x b u e).stay (fun c v _ q => k c v q) (fun c q => by rw [aL (fO q hn)]; exact q) fun c xs q => by rw [aL (fO q hn)]; exact q
end
noncomputable def Rd (H : Hp) (a : Addr) (u : HO) : Prop := H a = some u \/ ∃ o, H a = some (.gq o u)
theorem Rd.ok {P : Program} {w : World} {H : Hp} {h : Heap} {a : Addr} {u : HO} (r : Rd H a u) (x : j7 P w H h) : bQ P w H h a u := by
 rcases r with r | ⟨o, r⟩
 . exact x a u r
 . obtain ⟨_, q⟩ := x a _ r
   exact q
noncomputable def Qd : Option HO -> Prop
 | some (.lst _) => True
 | some (.dK _) => True
 | some (.dT _) => True
 | some (.set _ _) => True
 | some (.ins _ _ _) => True
 | some (.ext _) => True
 | _ => False
section
variable {P : Program} {w : World} {H : Hp} {h h' : Heap} {x e : Addr} {o' : HO}
theorem j7.write (ok : j7 P w H h) (mu : Qd (H x)) (he : e = x \/ H e = some (.own x)) (k : ∀ b u, b ≠ e -> h.get? b = some u -> h'.get? b = some u) (heo : ∃ u, h'.get? e = some u)
 (new : bQ P w (upd H x o') h' x o') : j7 P w (upd H x o') h' := fun b u q => by
 have S5 : ∀ c y, H c = some (.own y) -> c ≠ x := fun c y r z => by subst z; rw [r] at mu; exact mu
 have YJ : ∀ c xs, H c = some (.tup xs) -> c ≠ x := fun c xs r z => by subst z; rw [r] at mu; exact mu
 by_cases hb : b = x
 . subst hb; rw [bh] at q; cases q; exact new
 . rw [aL hb] at q
   by_cases hbe : b = e
   . have q' : H b = some (.own x) := by
      rcases he with z | z
      . exact absurd (hbe.trans z) hb
      . rw [hbe]; exact z
     rw [q] at q'; cases q'
     obtain ⟨v, hv⟩ := heo
     exact ⟨v, by rw [hbe]; exact hv⟩
   . refine (ok b u q).stay (fun c v hc r => k c v ?_ r) (fun c r => by rw [aL (S5 c b r)]; exact r) fun c xs r => by rw [aL (YJ c xs r)]; exact r
     rcases hc with rfl | hc
     . exact hbe
     . rintro rfl
       rcases he with z | z
       . exact S5 c b hc z
       . rw [hc] at z; cases z; exact hb rfl
end
structure Un (fs ex : List Addr) (H H' : Hp) (h h' : Heap) : Prop where
 keep : ∀ b o, h.get? b = some o -> H b = none -> b ∉ fs -> b ∉ ex -> h'.get? b = some o
 slot : ∀ b o, h.get? b = some o -> H b = none -> b ∈ fs -> b ∉ ex -> ∃ sl, h'.get? b = some { o with slots := sl }
 free : ∀ b o, h.get? b = some o -> H b = none -> b ∉ ex -> H' b = none
 there : ∀ b o, h.get? b = some o -> b ∉ ex -> ∃ o', h'.get? b = some o'
 tups : ∀ b xs, H b = some (.tup xs) -> H' b = some (.tup xs)
 rT : ∀ b o u, H b = some (.gq o u) -> H' b = some (.gq o u)
 uL : ∀ b ps, H b = some (.Mv ps) -> ∃ more, H' b = some (.Mv (ps ++ more))
section
variable {fs fs' ex ex' : List Addr} {H H1 H2 : Hp} {h h1 h2 h' : Heap} {a x e : Addr} {o : HO}
theorem Un.any (u : Un fs ex H H1 h h1) {b : Addr} {ob : Obj} (q : h.get? b = some ob) (n : H b = none) (hx : b ∉ ex) : ∃ sl, h1.get? b = some { ob with slots := sl } := by
 by_cases hb : b ∈ fs
 . exact u.slot b ob q n hb hx
 . exact ⟨ob.slots, u.keep b ob q n hb hx⟩
theorem Un.kept (k : ∀ b u, h.get? b = some u -> h'.get? b = some u) : Un fs ex H H h h' :=
 ⟨fun b ob q _ _ _ => k b ob q, fun b ob q _ _ _ => ⟨ob.slots, k b ob q⟩, fun _ _ _ n _ => n, fun b ob q _ => ⟨ob, k b ob q⟩, fun _ _ q => q, fun _ _ _ q => q, fun _ ps q => ⟨#[], by rw [q]; simp⟩⟩
theorem Un.refl : Un fs ex H H h h := Un.kept fun _ _ q => q
theorem Un.laid (k : ∀ b u, h.get? b = some u -> h'.get? b = some u) (hp : h.objs.size <= a) (hn : H a = none) : Un fs ex H (upd H a o) h h' where
 keep := fun b u q _ _ _ => k b u q
 slot := fun b u q _ _ _ => ⟨u.slots, k b u q⟩
 free := fun b u q n _ => by rw [aL (Nat.ne_of_lt (Nat.lt_of_lt_of_le (Heap.lt_size q) hp))]; exact n
 there := fun b u q _ => ⟨u, k b u q⟩
 tups := fun b xs q => by rw [aL (fO q hn)]; exact q
 rT := fun b u xs q => by rw [aL (fO q hn)]; exact q
 uL := fun b ps q => ⟨#[], by rw [aL (fO q hn), q]; simp⟩
theorem Un.write (mu : Qd (H x)) (he : e = x \/ H e = some (.own x)) (k : ∀ b u, b ≠ e -> h.get? b = some u -> h'.get? b = some u) (heo : ∃ u, h'.get? e = some u) : Un fs ex H (upd H x o) h h' := by
 have hx : ∀ b, H b = none -> b ≠ x := fun b n z => by subst z; rw [n] at mu; exact mu
 have hb : ∀ b, H b = none -> b ≠ e := fun b n z => by
  subst z
  rcases he with r | r
  . exact hx b n r
  . rw [n] at r; cases r
 have hm : ∀ b u, H b = some u -> ¬ Qd (some u) -> b ≠ x := fun b u q nm z => by subst z; rw [q] at mu; exact nm mu
 refine ⟨fun b u q n _ _ => k b u (hb b n) q, fun b u q n _ _ => ⟨u.slots, k b u (hb b n) q⟩, fun b u q n _ => by rw [aL (hx b n)]; exact n, fun b u q _ => ?_,
  fun b xs q => by rw [aL (hm b _ q fun z => z)]; exact q, fun b u xs q => by rw [aL (hm b _ q fun z => z)]; exact q, fun b ps q => ⟨#[], by rw [aL (hm b _ q fun z => z), q]; simp⟩⟩
 by_cases hbe : b = e
 . subst hbe; exact heo
 . exact ⟨u, k b u hbe q⟩
end
noncomputable def T6 (h : Heap) (H : Hp) : List Addr := (List.range h.objs.size).filter fun a => (H a).isSome
noncomputable def qK (h : Heap) (H : Hp) : Heap := PySem.W.hideAll h (T6 h H)
theorem yx (h : Heap) (H : Hp) : (qK h H).objs.size = h.objs.size := PySem.W.hideAll_size _ _
theorem Bs {h : Heap} {H : Hp} {b : Addr} {o : Obj} (e : h.get? b = some o) (n : H b = none) : (qK h H).get? b = some o :=
 PySem.W.hideAll_get _ e fun hm => by
  have q : (H b).isSome = true := (List.mem_filter.mp hm).2
  rw [n] at q; simp at q
theorem El {h : Heap} {H : Hp} {b : Addr} {o : Obj} (e : (qK h H).get? b = some o) : h.get? b = some o /\ H b = none := by
 have e' : h.get? b = some o := PySem.W.of_hideAll (T6 h H) e
 refine ⟨e', ?_⟩
 cases q : H b with
 | none => rfl
 | some x =>
   have hm : b ∈ T6 h H := List.mem_filter.mpr ⟨List.mem_range.mpr (Heap.lt_size e'), by simp [q]⟩
   have z : (qK h H).get? b = none := PySem.W.hideAll_none (T6 h H) hm
   rw [z] at e; cases e
end L2
namespace L2
open PySem PySem.Spec PyProof.Rows
structure Mod (K : PySem.W.Frag) (mg : Str -> Option Value) (base : Heap) : Prop where
 YK : K.In base
 glob : base.Ns mainGlobals mg
 blt : ∃ mb, base.Ns builtinsNs mb /\ ∀ x : Str, x ≠ "__name__" -> mb x = bootBuiltins x
 nolimit : base.NoLimit
structure Cx where
 prog : Program
 w : World
 K : PySem.W.Frag
 mg : Str -> Option Value
 base : Heap
 A : Around
 N : List Str
 s₀ : Shared
 H₀ : Hp
 env : Env
 outer : List Env
 stack : List Env
 ex : List Addr
 fn : Str -> Bool
 calm : Bool
 pn : List (Addr × Obj)
 xe : Value -> Shared -> Prop
noncomputable def frs (l : List Env) : List Addr := l.filterMap (·.frame)
noncomputable abbrev Cx.fs (X : Cx) : List Addr := frs X.outer
noncomputable def xU (sc : Scope) (x : Str) : Prop := sc.names.lookup x = some .local \/ sc.names.lookup x = some .cell \/ sc.names.lookup x = some .free
noncomputable def Loc (sc : Scope) (x : Str) : Prop := sc.names.lookup x = some .local \/ sc.names.lookup x = some .cell
noncomputable def Look (env : Env) (h : Heap) (m : Str -> Option Value) (x : Str) (u : Value) : Prop :=
 (env.kindOf x = some .local /\ m x = some u) \/ ((env.kindOf x = some .cell \/ env.kindOf x = some .free) /\ ∃ c, env.cells.lookup x = some c /\ h.IsCell c (some u))
structure Cx.Ok (X : Cx) : Prop where
 mod : Mod X.K X.mg X.base
 kind : X.env.scope.kind = .function
 glob : X.env.globals = mainGlobals
 blt : X.env.builtins = builtinsNs
 above : X.s₀.heap.objs.size <= X.env.locals
 inj : ∀ x y c, X.env.cells.lookup x = some c -> X.env.cells.lookup y = some c -> x = y
 has : ∀ x, (X.env.kindOf x = some .cell \/ X.env.kindOf x = some .free) -> ∃ c, X.env.cells.lookup x = some c
 cab : ∀ x c, X.fn x = true -> X.env.cells.lookup x = some c -> X.s₀.heap.objs.size <= c
 hd : X.calm = true -> X.A.handled = none
 frames : X.A.frames = some X.stack
 Vr : X.stack = X.outer \/ (X.stack = X.env :: X.outer /\ X.env.frame = some X.env.locals)
 exf : ∀ b ∈ X.ex, b ≠ X.env.locals /\ ∀ x c, X.env.cells.lookup x = some c -> c ≠ b
 bs : ∀ b o, X.base.get? b = some o -> X.s₀.heap.get? b = some o /\ X.H₀ b = none
 IV : X.base.objs.size <= X.s₀.heap.objs.size
 Dz : ∀ b o, X.base.get? b = some o -> b ∉ X.ex
 Hm : ∀ b ∈ X.ex, b ∉ X.fs
 nQ : X.s₀.heap.FunFrames X.base X.outer
 Pa : ∀ b ∈ X.fs, X.H₀ b = none
structure Inv (X : Cx) (pins : List (Addr × Obj)) (σ : List (Option V)) (H : Hp) (s : Shared) : Prop where
 ok : X.Ok
 os : s.os = X.s₀.os
 bare : AllBare s.gens
 base : Un X.fs X.ex X.H₀ H X.s₀.heap s.heap
 loc : ∃ m, s.heap.Ns X.env.locals m /\ ∀ (i : Nat) (x : Str) (v : V), X.N[i]? = some x -> σ[i]? = some (some v) -> xU X.env.scope x -> ∃ u, RelV v u /\ Look X.env s.heap m x u
 cell : ∀ x c, X.env.cells.lookup x = some c -> ∃ v, s.heap.IsCell c v
 free : H X.env.locals = none
 jh : ∀ x c, X.env.cells.lookup x = some c -> H c = none
 pin : ∀ p ∈ X.pn ++ pins, s.heap.get? p.1 = some p.2 /\ H p.1 = none /\ p.1 ≠ X.env.locals /\ p.1 ∉ X.fs /\ ∀ v, p.2.data ≠ .cell v
 hok : j7 X.prog X.w H s.heap
 len : σ.length = X.N.length
section
variable {X : Cx} {pins : List (Addr × Obj)} {σ : List (Option V)} {H H' : Hp} {s : Shared} {h' : Heap}
theorem Cx.Ok.W4 (ok : X.Ok) {b : Addr} {o : Obj} (e : X.base.get? b = some o) : b ∉ X.fs := fun hb => by
 have := (ok.nQ.mem hb).1
 rw [e] at this; cases this
theorem Inv.bs (I : Inv X pins σ H s) : ∀ b o, X.base.get? b = some o -> s.heap.get? b = some o /\ H b = none := fun b o e =>
 ⟨I.base.keep b o (I.ok.bs b o e).1 (I.ok.bs b o e).2 (I.ok.W4 e) (I.ok.Dz b o e), I.base.free b o (I.ok.bs b o e).1 (I.ok.bs b o e).2 (I.ok.Dz b o e)⟩
theorem Inv.bk (I : Inv X pins σ H s) : ∀ b o, X.base.get? b = some o -> s.heap.get? b = some o := fun b o e => (I.bs b o e).1
theorem Inv.mod (I : Inv X pins σ H s) : Mod X.K X.mg X.base := I.ok.mod
theorem Inv.M6 (I : Inv X pins σ H s) : X.K.In s.heap := I.ok.mod.YK.keeps I.bk
theorem Inv.lt (I : Inv X pins σ H s) : X.env.locals < s.heap.objs.size := let ⟨_, hn, _⟩ := I.loc; hn.lt
theorem Inv.sz (I : Inv X pins σ H s) : X.s₀.heap.objs.size <= s.heap.objs.size := Nat.le_trans I.ok.above (Nat.le_of_lt I.lt)
theorem Inv.Wm (I : Inv X pins σ H s) {a : Addr} (h : s.heap.objs.size <= a) : a ∉ X.fs := fun hb => by
 obtain ⟨_, o, ho, _⟩ := I.ok.nQ.mem hb
 exact absurd (Nat.lt_of_lt_of_le (Heap.lt_size ho) (Nat.le_trans I.sz h)) (Nat.lt_irrefl _)
theorem Inv.Jl (I : Inv X pins σ H s) : ∀ x c, X.env.cells.lookup x = some c -> c ≠ X.env.locals := fun x c e z => by
 obtain ⟨v, o, ho, hd⟩ := I.cell x c e
 obtain ⟨m, ⟨o', es, ep, ho', hd', _⟩, _⟩ := I.loc
 rw [z, ho'] at ho; cases ho; rw [hd'] at hd; cases hd
theorem Inv.nQ (I : Inv X pins σ H s) : s.heap.FunFrames X.base X.outer := by
 have all : ∀ (l : List Env), (∀ b ∈ frs l, b ∈ X.fs) -> X.s₀.heap.FunFrames X.base l -> s.heap.FunFrames X.base l := by
  intro l
  induction l with
  | nil => intro _ _; trivial
  | cons env r ih =>
    intro hs hl
    obtain ⟨hk, ⟨L, o, hf, hn, ho, hd⟩, hr⟩ := hl
    have hL : L ∈ X.fs := hs L (by unfold frs; rw [List.filterMap_cons, hf]; exact List.mem_cons_self)
    obtain ⟨sl, e⟩ := I.base.slot L o ho (I.ok.Pa L hL) hL fun z => I.ok.Hm L z hL
    exact ⟨hk, ⟨L, _, hf, hn, e, hd⟩, ih (fun b hb => hs b (by unfold frs; rw [List.filterMap_cons, hf]; exact List.mem_cons_of_mem _ hb)) hr⟩
 exact all X.outer (fun _ hb => hb) I.ok.nQ
theorem Inv.stack (I : Inv X pins σ H s) : s.heap.FunFrames X.base X.stack := by
 rcases I.ok.Vr with e | ⟨e, hf⟩
 . rw [e]; exact I.nQ
 . rw [e]
   obtain ⟨m, hn, _⟩ := I.loc
   refine .cons (by rw [I.ok.kind]; decide) hf hn ?_ I.nQ
   exact Heap.get?_none_of_le (Nat.le_trans I.ok.IV I.ok.above)
theorem Inv.qY (I : Inv X pins σ H s) : ∀ b ∈ frs X.stack, b ∈ X.env.locals :: X.fs := fun b hb => by
 rcases I.ok.Vr with e | ⟨e, hf⟩
 . rw [e] at hb; exact List.mem_cons_of_mem _ hb
 . rw [e] at hb
   unfold frs at hb
   rw [List.filterMap_cons, hf] at hb
   exact hb
theorem Inv.xQ (I : Inv X pins σ H s) : ∀ b ∈ frs X.stack, H b = none := fun b hb => by
 rcases List.mem_cons.mp (I.qY b hb) with e | hb
 . rw [e]; exact I.free
 . obtain ⟨_, o, ho, _⟩ := I.ok.nQ.mem hb
   exact I.base.free b o ho (I.ok.Pa b hb) fun z => I.ok.Hm b z hb
theorem Inv.step {g' : Array GenState} {t' : Nat} {d' : Drawn} {ch : List Addr} (I : Inv X pins σ H s)
 (hch : ∀ b ∈ ch, (b ∈ X.ex \/ X.s₀.heap.objs.size <= b) /\ b ≠ X.env.locals /\ (∀ x c, X.env.cells.lookup x = some c -> c ≠ b) /\ ∀ p ∈ X.pn ++ pins, p.1 ≠ b)
 (keep : ∀ b o, b ≠ X.env.locals -> b ∉ X.fs -> b ∉ ch -> s.heap.get? b = some o -> H b = none -> h'.get? b = some o)
 (slot : ∀ b o, b ≠ X.env.locals -> b ∈ X.fs -> b ∉ ch -> s.heap.get? b = some o -> H b = none -> ∃ sl, h'.get? b = some { o with slots := sl }) (free : ∀ b o, b ∉ ch -> s.heap.get? b = some o -> H b = none -> H' b = none)
 (there : ∀ b o, b ∉ ch -> s.heap.get? b = some o -> ∃ o', h'.get? b = some o')
 (tups : ∀ b xs, H b = some (.tup xs) -> H' b = some (.tup xs)) (rT : ∀ b o u, H b = some (.gq o u) -> H' b = some (.gq o u)) (uL : ∀ b ps, H b = some (.Mv ps) -> ∃ more, H' b = some (.Mv (ps ++ more)))
 (ns : ∀ m, s.heap.Ns X.env.locals m -> h'.Ns X.env.locals m) (hok : j7 X.prog X.w H' h') (hg : AllBare g') :
 Inv X pins σ H' { s with heap := h', gens := g', drawn := d', toks := t' } := by
 have neL : ∀ b o, X.s₀.heap.get? b = some o -> b ≠ X.env.locals := fun b o e => Nat.ne_of_lt (Nat.lt_of_lt_of_le (Heap.lt_size e) I.ok.above)
 have Vs : ∀ b o, X.s₀.heap.get? b = some o -> b ∉ X.ex -> b ∉ ch := fun b o e hx hb => by
  rcases (hch b hb).1 with z | z
  . exact hx z
  . exact absurd (Nat.lt_of_lt_of_le (Heap.lt_size e) z) (Nat.lt_irrefl _)
 have cellK : ∀ x c, X.env.cells.lookup x = some c -> ∀ v, s.heap.IsCell c v -> h'.IsCell c v := fun x c e v ⟨o, ho, hd⟩ => by
  have DG : c ∉ ch := fun z => (hch c z).2.2.1 x c e rfl
  by_cases hc : c ∈ X.fs
  . obtain ⟨sl, q⟩ := slot c o (I.Jl x c e) hc DG ho (I.jh x c e)
    exact ⟨_, q, hd⟩
  . exact ⟨o, keep c o (I.Jl x c e) hc DG ho (I.jh x c e), hd⟩
 refine ⟨I.ok, I.os, hg, ⟨fun b o e n hb hx => ?_, fun b o e n hb hx => ?_, fun b o e n hx => ?_, fun b o e hx => ?_, fun b xs e => tups b xs (I.base.tups b xs e), fun b o xs e => rT b o xs (I.base.rT b o xs e), fun b ps e => ?_⟩, ?_, fun x c e => ?_, ?_, fun x c e => ?_, fun p hp => ?_, hok, I.len⟩
 . exact keep b o (neL b o e) hb (Vs b o e hx) (I.base.keep b o e n hb hx) (I.base.free b o e n hx)
 . obtain ⟨sl, e1⟩ := I.base.slot b o e n hb hx
   obtain ⟨sl', e2⟩ := slot b _ (neL b o e) hb (Vs b o e hx) e1 (I.base.free b o e n hx)
   exact ⟨sl', e2⟩
 . obtain ⟨o', e1⟩ := I.base.there b o e hx
   exact free b o' (Vs b o e hx) e1 (I.base.free b o e n hx)
 . obtain ⟨o', e1⟩ := I.base.there b o e hx
   exact there b o' (Vs b o e hx) e1
 . obtain ⟨m1, e1⟩ := I.base.uL b ps e
   obtain ⟨m2, e2⟩ := uL b _ e1
   exact ⟨m1 ++ m2, by rw [e2, Array.append_assoc]⟩
 . obtain ⟨m, hn, hl⟩ := I.loc
   refine ⟨m, ns m hn, fun i x v e1 e2 e3 => ?_⟩
   obtain ⟨u, r, l⟩ := hl i x v e1 e2 e3
   refine ⟨u, r, ?_⟩
   rcases l with l | ⟨k, c, e, z⟩
   . exact .inl l
   . exact .inr ⟨k, c, e, cellK x c e _ z⟩
 . obtain ⟨v, z⟩ := I.cell x c e
   exact ⟨v, cellK x c e v z⟩
 . obtain ⟨m, ⟨o, _, _, ho, _⟩, _⟩ := I.loc
   exact free _ o (fun z => (hch _ z).2.1 rfl) ho I.free
 . obtain ⟨v, o, ho, hd⟩ := I.cell x c e
   exact free c o (fun z => (hch c z).2.2.1 x c e rfl) ho (I.jh x c e)
 . obtain ⟨e, n, ne, nf, d⟩ := I.pin p hp
   have DG : p.1 ∉ ch := fun z => (hch p.1 z).2.2.2 p hp rfl
   exact ⟨keep p.1 p.2 ne nf DG e n, free p.1 p.2 DG e n, ne, nf, d⟩
theorem Inv.un {t' : Nat} (I : Inv X pins σ H s) (u : Un X.fs [] H H' s.heap h') (hok : j7 X.prog X.w H' h') : Inv X pins σ H' { s with heap := h', toks := t' } := by
 obtain ⟨m, ⟨o, es, ep, ho, r⟩, _⟩ := id I.loc
 obtain ⟨sl, hL⟩ := u.any ho I.free (by simp)
 exact I.step (g' := s.gens) (d' := s.drawn) (ch := []) (fun _ z => nomatch z) (fun b o _ hb _ e n => u.keep b o e n hb (by simp)) (fun b o _ hb _ e n => u.slot b o e n hb (by simp)) (fun b o _ e n => u.free b o e n (by simp)) (fun b o _ e => u.there b o e (by simp)) u.tups u.rT u.uL (fun m' hm => by
  obtain ⟨o', es', ep', ho', r'⟩ := hm
  rw [ho] at ho'; cases ho'
  exact ⟨_, es', ep', hL, r'⟩) hok I.bare
theorem Inv.call {g' : Array GenState} {t' : Nat} {d' : Drawn} {ch : List Addr} (I : Inv X pins σ H s) (u : Un (frs X.stack) ch H H' s.heap h') (hok : j7 X.prog X.w H' h') (hg : AllBare g')
 (hch : ∀ b ∈ ch, (b ∈ X.ex \/ X.s₀.heap.objs.size <= b) /\ b ≠ X.env.locals /\ (∀ x c, X.env.cells.lookup x = some c -> c ≠ b) /\ ∀ p ∈ X.pn ++ pins, p.1 ≠ b) :
 Inv X pins σ H' { s with heap := h', gens := g', drawn := d', toks := t' } := by
 obtain ⟨m, ⟨o, es, ep, ho, r⟩, _⟩ := id I.loc
 obtain ⟨sl, hL⟩ := u.any ho I.free fun z => (hch _ z).2.1 rfl
 exact I.step (ch := ch) hch (fun b o hL hb hc e n => u.keep b o e n (fun z => (List.mem_cons.mp (I.qY b z)).elim hL hb) hc) (fun b o _ _ hc e n => u.any e n hc) (fun b o hc e n => u.free b o e n hc) (fun b o hc e => u.there b o e hc) u.tups u.rT u.uL (fun m' hm => by
  obtain ⟨o', es', ep', ho', r'⟩ := hm
  rw [ho] at ho'; cases ho'
  exact ⟨_, es', ep', hL, r'⟩) hok hg
theorem Inv.turned {t' : Nat} {it : Addr} (I : Inv X pins σ H s) (k : ∀ b o, b ≠ it -> s.heap.get? b = some o -> h'.get? b = some o) (hn : H it = none) (hL : it ≠ X.env.locals)
 (h1 : it ∈ X.ex \/ X.s₀.heap.objs.size <= it) (h2 : ∀ x c, X.env.cells.lookup x = some c -> c ≠ it) (h3 : ∀ p ∈ X.pn ++ pins, p.1 ≠ it) : Inv X pins σ H { s with heap := h', toks := t' } := by
 have nit : ∀ b u, H b = some u -> b ≠ it := fun b u e z => by rw [z, hn] at e; cases e
 refine I.step (g' := s.gens) (d' := s.drawn) (ch := [it]) (fun b hb => ?_) (fun b o _ _ hc e _ => k b o (fun z => hc (by simp [z])) e) (fun b o _ _ hc e _ => ⟨o.slots, k b o (fun z => hc (by simp [z])) e⟩) (fun _ _ _ _ n => n)
  (fun b o hc e => ⟨o, k b o (fun z => hc (by simp [z])) e⟩) (fun _ _ e => e) (fun _ _ _ e => e) (fun b ps e => ⟨#[], by rw [e]; simp⟩) (fun m hm => ?_) (fun b u e => ?_) I.bare
 . have e : b = it := by simpa using hb
   subst e
   exact ⟨h1, hL, h2, h3⟩
 . obtain ⟨o, es, ep, ho, r⟩ := hm
   exact ⟨o, es, ep, k _ o (Ne.symm hL) ho, r⟩
 . refine (I.hok b u e).stay (fun c v hc q => k c v ?_ q) (fun _ q => q) fun _ _ q => q
   rcases hc with z | z
   . rw [z]; exact nit b u e
   . exact nit c _ z
theorem Inv.tok (I : Inv X pins σ H s) (t : Nat) : Inv X pins σ H { s with toks := t } := I.un (h' := s.heap) (t' := t) Un.refl I.hok
theorem Inv.kept {t' : Nat} (I : Inv X pins σ H s) (k : ∀ b u, s.heap.get? b = some u -> h'.get? b = some u) : Inv X pins σ H { s with heap := h', toks := t' } := I.un (Un.kept k) (I.hok.kept k)
theorem Inv.laid {a : Addr} {o : HO} {t' : Nat} (I : Inv X pins σ H s) (k : ∀ b u, s.heap.get? b = some u -> h'.get? b = some u) (hp : s.heap.objs.size <= a) (new : bQ X.prog X.w (upd H a o) h' a o) :
 Inv X pins σ (upd H a o) { s with heap := h', toks := t' } := I.un (Un.laid k hp (I.hok.fresh hp)) (I.hok.laid k hp new)
theorem Inv.write {x e : Addr} {o : HO} {t' : Nat} (I : Inv X pins σ H s) (mu : Qd (H x)) (he : e = x \/ H e = some (.own x)) (k : ∀ b u, b ≠ e -> s.heap.get? b = some u -> h'.get? b = some u) (heo : ∃ u, h'.get? e = some u)
 (new : bQ X.prog X.w (upd H x o) h' x o) : Inv X pins σ (upd H x o) { s with heap := h', toks := t' } := I.un (Un.write mu he k heo) (I.hok.write mu he k heo new)
theorem Inv.xO {IW : List (Addr × Obj)} (I : Inv X pins σ H s) (h : ∀ p ∈ IW, s.heap.get? p.1 = some p.2 /\ H p.1 = none /\ p.1 ≠ X.env.locals /\ p.1 ∉ X.fs /\ ∀ v, p.2.data ≠ .cell v) : Inv X IW σ H s :=
 ⟨I.ok, I.os, I.bare, I.base, I.loc, I.cell, I.free, I.jh, fun p hp => (List.mem_append.mp hp).elim (fun z => I.pin p (List.mem_append_left _ z)) (h p), I.hok, I.len⟩
theorem uE {N : List Str} (hN : N.Nodup) {i j : Nat} {x : Str} (a : N[i]? = some x) (b : N[j]? = some x) : i = j := by
 obtain ⟨h1, e1⟩ := List.getElem?_eq_some_iff.mp a
 obtain ⟨h2, e2⟩ := List.getElem?_eq_some_iff.mp b
 exact (List.getElem_inj hN).mp (e1.trans e2.symm)
theorem qe {M : Model} {A : Around} {E : Value -> Shared -> Prop} {i : Nat} {x : Str} {v : V} {u : Value} {Q : Unit -> Shared -> Prop} (I : Inv X pins σ H s) (hN : X.N.Nodup) (hi : X.N[i]? = some x) (hx : Loc X.env.scope x) (r : RelV v u)
 (h : ∀ s', Inv X pins (σ.set i (some v)) H s' -> (∃ a, Heap.SameBut a s.heap s'.heap /\ (a = X.env.locals \/ X.env.cells.lookup x = some a)) -> Q () s') (hf : X.fn x = true \/ X.env.scope.names.lookup x = some .local := by first | exact .inl rfl | exact .inr rfl | assumption) : wpAny M A (storeName X.env x u) Q E s := by
 obtain ⟨m, hn, hl⟩ := id I.loc
 have hcls : (X.env.scope.kind == .class || (X.env.scope.kind == .module && X.env.locals != X.env.globals)) = false := by rw [I.ok.kind]; rfl
 have hiσ : i < σ.length := by rw [I.len]; exact (List.getElem?_eq_some_iff.mp hi).1
 have Jl := I.Jl
 have tracked : ∀ {a : Addr} {h' : Heap}, (∃ o, s.heap.get? a = some o /\ H a = none) -> Heap.SameBut a s.heap h' -> j7 X.prog X.w H h' := fun {a h'} ha hs b ob e => by
  obtain ⟨_, _, hfree⟩ := ha
  refine (I.hok b ob e).stay (fun c w' hc q => (hs.2 c ?_).trans q) (fun _ q => q) fun _ _ q => q
  rintro rfl
  rcases hc with rfl | hc
  . rw [hfree] at e; cases e
  . rw [hfree] at hc; cases hc
 rcases hx with hk | hk
 . refine wpAny_storeName_local hk hn (fun h' hn' hs => ?_) hcls
   obtain ⟨oL, _, _, hoL, _⟩ := id hn
   refine h _ ⟨I.ok, I.os, I.bare, ⟨fun b o e n hb hx => ?_, fun b o e n hb hx => ?_, I.base.free, fun b o e hx => ?_, I.base.tups, I.base.rT, I.base.uL⟩, ⟨_, hn', fun j y v' e1 e2 e3 => ?_⟩, fun y c e => ?_, I.free, I.jh, fun p hp => ?_, tracked ⟨oL, hoL, I.free⟩ hs, by simpa using I.len⟩ ⟨_, hs, .inl rfl⟩
   . exact (hs.2 b (Nat.ne_of_lt (Nat.lt_of_lt_of_le (Heap.lt_size e) I.ok.above))).trans (I.base.keep b o e n hb hx)
   . obtain ⟨sl, e1⟩ := I.base.slot b o e n hb hx
     exact ⟨sl, (hs.2 b (Nat.ne_of_lt (Nat.lt_of_lt_of_le (Heap.lt_size e) I.ok.above))).trans e1⟩
   . obtain ⟨o', e1⟩ := I.base.there b o e hx
     exact ⟨o', (hs.2 b (Nat.ne_of_lt (Nat.lt_of_lt_of_le (Heap.lt_size e) I.ok.above))).trans e1⟩
   . by_cases hj : j = i
     . subst hj
       rw [hi] at e1; cases e1
       rw [List.getElem?_set_self hiσ] at e2
       cases e2
       exact ⟨u, r, .inl ⟨hk, by simp⟩⟩
     . rw [List.getElem?_set_ne (Ne.symm hj)] at e2
       obtain ⟨u', r', q⟩ := hl j y v' e1 e2 e3
       refine ⟨u', r', ?_⟩
       rcases q with ⟨k, e⟩ | ⟨k, c, e, z⟩
       . refine .inl ⟨k, ?_⟩
         have : y ≠ x := fun e => hj (uE hN e1 (e ▸ hi))
         simp [this, e]
       . exact .inr ⟨k, c, e, z.sameBut hs (Jl y c e)⟩
   . obtain ⟨w', z⟩ := I.cell y c e
     exact ⟨w', z.sameBut hs (Jl y c e)⟩
   . obtain ⟨e, n, ne, nf, d⟩ := I.pin p hp
     exact ⟨(hs.2 p.1 ne).trans e, n, ne, nf, d⟩
 . have hfn : X.fn x = true := by
    rcases hf with z | z
    . exact z
    . rw [z] at hk; cases hk
   obtain ⟨c, hc⟩ := I.ok.has x (.inl hk)
   obtain ⟨w', z⟩ := I.cell x c hc
   refine wpAny_storeName_cell I.ok.kind hk hc z (fun h' hc' hs => ?_)
   obtain ⟨oc, hoc, YL⟩ := id z
   refine h { s with heap := h' } ⟨I.ok, I.os, I.bare, ⟨fun b o e n hb hx => ?_, fun b o e n hb hx => ?_, I.base.free, fun b o e hx => ?_, I.base.tups, I.base.rT, I.base.uL⟩, ⟨m, hn.sameBut hs (Ne.symm (Jl x c hc)), fun j y v' e1 e2 e3 => ?_⟩, fun y c' e => ?_, I.free, I.jh, fun p hp => ?_, tracked ⟨oc, hoc, I.jh x c hc⟩ hs, by simpa using I.len⟩ ⟨c, hs, .inr hc⟩
   . exact (hs.2 b (Nat.ne_of_lt (Nat.lt_of_lt_of_le (Heap.lt_size e) (I.ok.cab x c hfn hc)))).trans (I.base.keep b o e n hb hx)
   . obtain ⟨sl, e1⟩ := I.base.slot b o e n hb hx
     exact ⟨sl, (hs.2 b (Nat.ne_of_lt (Nat.lt_of_lt_of_le (Heap.lt_size e) (I.ok.cab x c hfn hc)))).trans e1⟩
   . obtain ⟨o', e1⟩ := I.base.there b o e hx
     exact ⟨o', (hs.2 b (Nat.ne_of_lt (Nat.lt_of_lt_of_le (Heap.lt_size e) (I.ok.cab x c hfn hc)))).trans e1⟩
   . by_cases hj : j = i
     . subst hj
       rw [hi] at e1; cases e1
       rw [List.getElem?_set_self hiσ] at e2
       cases e2
       exact ⟨u, r, .inr ⟨.inl hk, c, hc, hc'⟩⟩
     . rw [List.getElem?_set_ne (Ne.symm hj)] at e2
       obtain ⟨u', r', q⟩ := hl j y v' e1 e2 e3
       refine ⟨u', r', ?_⟩
       rcases q with q | ⟨k, c', e, z'⟩
       . exact .inl q
       . refine .inr ⟨k, c', e, z'.sameBut hs ?_⟩
         rintro rfl
         exact hj (uE hN e1 (I.ok.inj _ _ _ e hc ▸ hi))
   . by_cases hcc : c' = c
     . subst hcc; exact ⟨_, hc'⟩
     . obtain ⟨w2, z2⟩ := I.cell y c' e
       exact ⟨w2, z2.sameBut hs hcc⟩
   . obtain ⟨e, n, ne, nf, d⟩ := I.pin p hp
     refine ⟨(hs.2 p.1 ?_).trans e, n, ne, nf, d⟩
     intro q
     rw [q, hoc] at e
     have q' : oc = p.2 := Option.some.inj e
     exact d w' (by rw [<- q']; exact YL)
theorem iJ {M : Model} {A : Around} {E : Value -> Shared -> Prop} {i : Nat} {x : Str} {v : V} {u : Value} {Q : Unit -> Shared -> Prop} (I : Inv X pins σ H s) (hN : X.N.Nodup) (hi : X.N[i]? = some x) (hx : Loc X.env.scope x) (r : RelV v u)
 (h : ∀ s', Inv X pins (σ.set i (some v)) H s' -> Q () s') (hf : X.fn x = true \/ X.env.scope.names.lookup x = some .local := by first | exact .inl rfl | exact .inr rfl | assumption) : wpAny M A (storeName X.env x u) Q E s :=
 qe I hN hi hx r (fun s' I' _ => h s' I') hf
end
noncomputable abbrev XK := Value -> Option Addr -> Hp -> Prop
noncomputable abbrev St := List (Option V)
noncomputable abbrev VK := V -> Hp -> Prop
noncomputable abbrev TE := St -> Hp -> VK -> Prop
noncomputable abbrev TT := St -> Hp -> (Bool -> Hp -> Prop) -> Prop
noncomputable abbrev TA := St -> Hp -> (List V -> Hp -> Prop) -> Prop
structure Ends where
 nx : St -> Hp -> Prop
 rt : VK
 bk : St -> Hp -> Prop := fun _ _ => False
 ct : St -> Hp -> Prop := fun _ _ => False
noncomputable abbrev TS := Ends -> St -> Hp -> Prop
inductive EP (X : Cx) (pins : List (Addr × Obj)) (σ : St) (Q : VK) (u : Value) (s' : Shared) : Prop where
 | mk (v : V) (H' : Hp) (q0 : Inv X pins σ H' s') (q1 : RelV v u) (q2 : Q v H')
noncomputable def TP (X : Cx) (pins : List (Addr × Obj)) (σ : St) (Q : Bool -> Hp -> Prop) (b : Bool) (s' : Shared) : Prop := ∃ H', Inv X pins σ H' s' /\ Q b H'
inductive AP (X : Cx) (pins : List (Addr × Obj)) (σ : St) (Q : List V -> Hp -> Prop) (us : List Value) (s' : Shared) : Prop where
 | mk (vs : List V) (H' : Hp) (q0 : Inv X pins σ H' s') (q1 : Vals vs us) (q2 : Q vs H')
noncomputable def SP (X : Cx) (pins : List (Addr × Obj)) (D : Ends) (f : Flow) (s' : Shared) : Prop :=
 match f with
 | .next => ∃ σ' H', Inv X pins σ' H' s' /\ D.nx σ' H'
 | .brk => ∃ σ' H', Inv X pins σ' H' s' /\ D.bk σ' H'
 | .cont => ∃ σ' H', Inv X pins σ' H' s' /\ D.ct σ' H'
 | .ret u => ∃ v σ' H', Inv X pins σ' H' s' /\ RelV v u /\ D.rt v H'
noncomputable def PE (X : Cx) (e : Expr) (t : TE) : Prop :=
 ∀ (pins : List (Addr × Obj)) (s : Shared) (σ : St) (H : Hp) (Q : VK), Inv X pins σ H s -> t σ H Q -> wpAny (model X.prog X.w) X.A (eval e X.env) (EP X pins σ Q) X.xe s
noncomputable def PT (X : Cx) (e : Expr) (t : TT) : Prop :=
 ∀ (pins : List (Addr × Obj)) (s : Shared) (σ : St) (H : Hp) (Q : Bool -> Hp -> Prop), Inv X pins σ H s -> t σ H Q -> wpAny (model X.prog X.w) X.A (isTrue e X.env (eval e X.env)) (TP X pins σ Q) X.xe s
noncomputable def PW (X : Cx) (e : Expr) (t : TT) : Prop :=
 ∀ (whole : Sem Value) (pins : List (Addr × Obj)) (s : Shared) (σ : St) (H : Hp) (Q : Bool -> Hp -> Prop), Inv X pins σ H s -> t σ H Q -> wpAny (model X.prog X.w) X.A (isTrue e X.env whole) (TP X pins σ Q) X.xe s
theorem PW.pt {X : Cx} {e : Expr} {t : TT} (h : PW X e t) : PT X e t := h _
noncomputable def PA (X : Cx) (es : List Expr) (t : TA) : Prop :=
 ∀ (pos : Pos) (pins : List (Addr × Obj)) (s : Shared) (σ : St) (H : Hp) (Q : List V -> Hp -> Prop), Inv X pins σ H s -> t σ H Q -> wpAny (model X.prog X.w) X.A (spliced (backTo pos (starEach es X.env))) (AP X pins σ Q) X.xe s
noncomputable def PS (X : Cx) (st : Stmt) (t : TS) : Prop :=
 ∀ (pins : List (Addr × Obj)) (s : Shared) (σ : St) (H : Hp) (D : Ends), Inv X pins σ H s -> t D σ H -> wpAny (model X.prog X.w) X.A (exec st X.env) (SP X pins D) X.xe s
noncomputable def xK (X : Cx) (st : List Stmt) (t : TS) : Prop :=
 ∀ (pins : List (Addr × Obj)) (s : Shared) (σ : St) (H : Hp) (D : Ends), Inv X pins σ H s -> t D σ H -> wpAny (model X.prog X.w) X.A (execs st X.env) (SP X pins D) X.xe s
theorem cI {α : Type} {t : Sem α} {Q Q' : α -> Shared -> Prop} {M : Model} {A : Around} {E : Value -> Shared -> Prop} {s : Shared} (h : wpAny M A t Q E s) (hQ : ∀ a s, Q a s -> Q' a s) : wpAny M A t Q' E s := wpAny_mono h hQ fun _ _ x => x
end L2
namespace L2
open PySem PySem.Spec PyProof.Rows
section
variable {X : Cx}
noncomputable def QX (i : Nat) : TE := fun σ H Q => ∃ v, σ[i]? = some (some v) /\ Q v H
noncomputable def tC (v : V) : TE := fun _ H Q => Q v H
theorem gO {i : Nat} {x : Str} {pos : Pos} (hN : X.N[i]? = some x) (hv : xU X.env.scope x) (hd : (x == ("__debug__" : Str)) = false := by decide) (hcd : (x == ("__classdict__" : Str)) = false := by decide) : PE X (.Name x pos) (QX i) := by
 intro pins s σ H Q I h
 obtain ⟨v, e, h⟩ := h
 obtain ⟨m, hn, hl⟩ := I.loc
 obtain ⟨u, r, l⟩ := hl i x v hN e hv
 have fin : EP X pins σ Q u s := ⟨v, H, I, r, h⟩
 rcases l with ⟨hk, hm⟩ | ⟨hk, c, hc, hcell⟩
 . exact wpAny_Name (wpAny_loadName_local I.ok.kind hk hn hm fin) hd
 . rcases hk with hk | hk
   . exact wpAny_Name (wpAny_loadName_cell I.ok.kind hk hc hcell fin) hd
   . exact wpAny_Name (wpAny_loadName_free I.ok.kind hk hc hcell fin hcd) hd
theorem Mg {i j pos} : PE X (.Constant (.int i) j pos) (tC (.int i)) := fun _ _ _ H _ I h => wpAny_Constant_int ⟨.int i, H, I.tok _, ⟨_, rfl⟩, h⟩
theorem Rt {b j pos} : PE X (.Constant (.bool b) j pos) (tC (.bl b)) := fun _ _ _ H _ I h => Constant_bool ⟨.bl b, H, I, rfl, h⟩
noncomputable def Gl (X : Cx) (x : Str) : Prop := X.env.kindOf x = some .globalImplicit
theorem Fw {E : Value -> Shared -> Prop} {pins : List (Addr × Obj)} {s : Shared} {σ : St} {H : Hp} {x : Str} {u : Value} {pos : Pos} {Q : Value -> Shared -> Prop} (I : Inv X pins σ H s) (hg : Gl X x) (hm : X.mg x = some u) (h : Q u s)
 (hd : (x == ("__debug__" : Str)) = false := by decide) : wpAny (model X.prog X.w) X.A (eval (.Name x pos) X.env) Q E s :=
 Calls.Name_function_global I.ok.kind hg (Calls.loadGlobal_global (by rw [I.ok.glob]; exact I.mod.glob.keeps I.bk) hm h) hd
theorem nD {E : Value -> Shared -> Prop} {pins : List (Addr × Obj)} {s : Shared} {σ : St} {H : Hp} {x : Str} {u : Value} {pos : Pos} {Q : Value -> Shared -> Prop} (I : Inv X pins σ H s) (hg : Gl X x) (hm : X.mg x = none) (hv : bootBuiltins x = some u) (h : Q u s)
 (hn : x ≠ "__name__" := by decide) (hd : (x == ("__debug__" : Str)) = false := by decide) : wpAny (model X.prog X.w) X.A (eval (.Name x pos) X.env) Q E s := by
 obtain ⟨mb, h1, h2⟩ := I.mod.blt
 exact Calls.Name_function_global I.ok.kind hg (Calls.loadGlobal_builtin (by rw [I.ok.glob]; exact I.mod.glob.keeps I.bk) hm (by rw [I.ok.blt]; exact h1.keeps I.bk) ((h2 x hn).trans hv) h) hd
variable {a b : Expr} {ta tb : TE} {pos : Pos}
noncomputable def tB (t : TE) : TT := fun σ H Q => t σ H fun x H1 => ∃ c, x = .bl c /\ Q c H1
theorem Kf {e : Expr} {t : TE} (h : PE X e t) (he : ∀ whole, isTrue e X.env whole = (do let v <- whole; standAt e.pos; holding [v] (truthy v)) := by intro _; rfl) : PT X e (tB t) := by
 intro pins s σ H Q I hw
 refine isTrue_plain (cI (h pins s σ H _ I hw) fun v s1 ⟨x, H1, I1, r1, q1⟩ => ?_) (he _)
 obtain ⟨d, rfl, q⟩ := q1
 cases r1
 exact wpAny_truthy_bool ⟨H1, I1, q⟩
variable {tA Vt : TT} {rest : List Expr}
noncomputable def W8 (t u : TT) : TT := fun σ H Q => t σ H fun c H1 => if c = true then u σ H1 Q else Q false H1
noncomputable def tOr (t u : TT) : TT := fun σ H Q => t σ H fun c H1 => if c = true then Q true H1 else u σ H1 Q
noncomputable def Xy (t : TT) : TT := fun σ H Q => t σ H fun c H1 => Q (!c) H1
theorem G7 (ha : PT X a tA) : PW X (.BoolOp .And [a] pos) tA := by
 intro wh pins s σ H Q I h
 refine isTrue_and (cI (ha pins s σ H Q I h) fun c s1 e => ?_)
 cases c with
 | true => exact isTrue_and_nil e
 | false => exact e
theorem Lg (ha : PT X a tA) : PW X (.BoolOp .Or [a] pos) tA := by
 intro wh pins s σ H Q I h
 refine isTrue_or (cI (ha pins s σ H Q I h) fun c s1 e => ?_)
 cases c with
 | false => exact isTrue_or_nil e
 | true => exact e
theorem Ls (ha : PT X a tA) (hb : PW X (.BoolOp .And (b :: rest) pos) Vt) : PW X (.BoolOp .And (a :: b :: rest) pos) (W8 tA Vt) := by
 intro wh pins s σ H Q I h
 refine isTrue_and (cI (ha pins s σ H _ I h) fun c s1 ⟨H1, I1, q1⟩ => ?_)
 cases c with
 | true => exact hb wh pins s1 σ H1 Q I1 q1
 | false => exact ⟨H1, I1, q1⟩
theorem Qn (ha : PT X a tA) (hb : PW X (.BoolOp .Or (b :: rest) pos) Vt) : PW X (.BoolOp .Or (a :: b :: rest) pos) (tOr tA Vt) := by
 intro wh pins s σ H Q I h
 refine isTrue_or (cI (ha pins s σ H _ I h) fun c s1 ⟨H1, I1, q1⟩ => ?_)
 cases c with
 | true => exact ⟨H1, I1, q1⟩
 | false => exact hb wh pins s1 σ H1 Q I1 q1
theorem Kv (ha : PT X a tA) : PT X (.UnaryOp .Not a pos) (Xy tA) := by
 intro pins s σ H Q I h
 exact isTrue_not (ha pins s σ H (fun c H1 => Q (!c) H1) I h)
noncomputable def SJ (ta tb : TE) : TE := fun σ H Q => ta σ H fun x H1 => ∃ c, x = .bl c /\ if c = true then tb σ H1 Q else Q (.bl false) H1
theorem Mt {op} {t : TE} (h : PE X a t) : PE X (.BoolOp op [a] pos) t := fun pins s σ H Q I hw => BoolOp_one (h pins s σ H Q I hw)
theorem Kc (ha : PE X a ta) (hb : PE X (.BoolOp .And (b :: rest) pos) tb) : PE X (.BoolOp .And (a :: b :: rest) pos) (SJ ta tb) := by
 intro pins s σ H Q I h
 refine BoolOp_and (cI (ha pins s σ H _ I h) fun v s1 ⟨x, H1, I1, r1, q1⟩ => ?_)
 obtain ⟨c, rfl, q1⟩ := q1
 cases r1
 refine wpAny_truthy_bool ?_
 cases c with
 | true => exact hb pins s1 σ H1 Q I1 q1
 | false => exact ⟨.bl false, H1, I1, rfl, q1⟩
end
end L2
namespace L2
open PySem PySem.Spec PyProof.Rows
noncomputable def gw (K : PySem.W.Frag) (H : Hp) (a : Addr) (xs : List V) : Prop :=
 Rd H a (.lst xs) \/
  ∃ (o : Obj) (its : Array Value) (n : Nat), K.lookup a = some o /\ o.cls = .type "list" /\ o.dict = none /\ o.data = .seq its n /\ its.size <= sizeLine /\ Vals xs its.toList
noncomputable def iY (K : PySem.W.Frag) (H : Hp) (a : Addr) (xs : List V) : Prop :=
 Rd H a (.tup xs) \/
  ∃ (o : Obj) (its : Array Value) (n : Nat), K.lookup a = some o /\ o.cls = .type "tuple" /\ o.data = .seq its n /\ its.size <= sizeLine /\ Vals xs its.toList
noncomputable def Yh : Value -> Option V
 | .none => some .non
 | .bool b => some (.bl b)
 | .int i _ => some (.int i)
 | .str x _ => some (.str x)
 | .bytes b _ => some (.YH b)
 | .float b _ => some (.flt b)
 | .ref a => some (.ref a)
 | .type n => some (.ty n)
 | _ => none
theorem RelV.abs {x : V} {u : Value} (r : RelV x u) : Yh u = some x := by
 cases x with
 | non => cases r; rfl
 | bl _ => cases r; rfl
 | int _ => obtain ⟨t, rfl⟩ := r; rfl
 | str _ => obtain ⟨t, rfl⟩ := r; rfl
 | YH _ => obtain ⟨t, rfl⟩ := r; rfl
 | flt _ => obtain ⟨t, rfl⟩ := r; rfl
 | ref _ => cases r; rfl
 | ty _ => cases r; rfl
theorem RelV.inj {x y : V} {u : Value} (r : RelV x u) (q : RelV y u) : x = y := Option.some.inj (r.abs.symm.trans q.abs)
theorem Vals.inj : ∀ {xs ys : List V} {us : List Value}, Vals xs us -> Vals ys us -> xs = ys
 | _, _, _, .nil, .nil => rfl
 | _, _, _, .cons r t, .cons r' t' => by rw [r.inj r', Vals.inj t t']
section
variable {X : Cx} {pins : List (Addr × Obj)} {σ : St} {H : Hp} {s : Shared} {a : Addr} {xs ys : List V}
theorem gw.of {K : PySem.W.Frag} (h : H a = some (.lst xs)) : gw K H a xs := .inl (.inl h)
theorem iY.of {K : PySem.W.Frag} (h : H a = some (.tup xs)) : iY K H a xs := .inl (.inl h)
theorem Inv.list (I : Inv X pins σ H s) (h : gw X.K H a xs) : ∃ its : List Value, Vals xs its /\ PlainL s.heap a its.toArray /\ xs.length <= sizeLine := by
 rcases h with h | ⟨o, its, n, hk, hc, hd, hs, hz, r⟩
 . obtain ⟨z, its, n, r, e⟩ := h.ok I.hok
   exact ⟨its, r, ⟨_, n, e, rfl, rfl, rfl⟩, z⟩
 . refine ⟨its.toList, r, ⟨o, n, I.M6 a o hk, hc, hd, by simpa using hs⟩, ?_⟩
   have e := r.length
   simp only [Array.length_toList] at e
   omega
theorem Inv.tuple (I : Inv X pins σ H s) (h : iY X.K H a xs) : ∃ its : List Value, Vals xs its /\ IsTup s.heap a its.toArray /\ xs.length <= sizeLine := by
 rcases h with h | ⟨o, its, n, hk, hc, hs, hz, r⟩
 . obtain ⟨z, its, r, p⟩ := h.ok I.hok
   exact ⟨its, r, p, z⟩
 . refine ⟨its.toList, r, ⟨o, I.M6 a o hk, hc, n, by simpa using hs⟩, ?_⟩
   have e := r.length
   simp only [Array.length_toList] at e
   omega
theorem Inv.oK (I : Inv X pins σ H s) (h : gw X.K H a xs) (h' : gw X.K H a ys) : xs = ys := by
 obtain ⟨its, r, ⟨o, n, e, _, _, d⟩, _⟩ := I.list h
 obtain ⟨its', r', ⟨o', n', e', _, _, d'⟩, _⟩ := I.list h'
 rw [e] at e'; cases e'
 rw [d] at d'
 injection d' with d1 _
 have : its = its' := by simpa using congrArg Array.toList d1
 subst this
 exact r.inj r'
theorem Inv.kJ (I : Inv X pins σ H s) (h : iY X.K H a xs) (h' : iY X.K H a ys) : xs = ys := by
 obtain ⟨its, r, ⟨o, e, _, n, d⟩, _⟩ := I.tuple h
 obtain ⟨its', r', ⟨o', e', _, n', d'⟩, _⟩ := I.tuple h'
 rw [e] at e'; cases e'
 rw [d] at d'
 injection d' with d1 _
 have : its = its' := by simpa using congrArg Array.toList d1
 subst this
 exact r.inj r'
end
noncomputable abbrev Cx.wish (X : Cx) (E : Value -> Shared -> Prop) : Cx := { X with xe := E }
noncomputable abbrev Cx.Rx (X : Cx) : Cx := X.wish fun _ _ => False
theorem Cx.Ok.wish {X : Cx} (ok : X.Ok) (E : Value -> Shared -> Prop) : (X.wish E).Ok :=
 ⟨ok.mod, ok.kind, ok.glob, ok.blt, ok.above, ok.inj, ok.has, ok.cab, ok.hd, ok.frames, ok.Vr, ok.exf, ok.bs, ok.IV, ok.Dz, ok.Hm, ok.nQ, ok.Pa⟩
theorem Cx.Ok.iu {X : Cx} {E : Value -> Shared -> Prop} (ok : (X.wish E).Ok) : X.Ok :=
 ⟨ok.mod, ok.kind, ok.glob, ok.blt, ok.above, ok.inj, ok.has, ok.cab, ok.hd, ok.frames, ok.Vr, ok.exf, ok.bs, ok.IV, ok.Dz, ok.Hm, ok.nQ, ok.Pa⟩
section
variable {X : Cx} {pins : List (Addr × Obj)} {σ : St} {H : Hp} {s : Shared} {E : Value -> Shared -> Prop}
theorem Inv.wish (I : Inv X pins σ H s) (E : Value -> Shared -> Prop) : Inv (X.wish E) pins σ H s := ⟨I.ok.wish E, I.os, I.bare, I.base, I.loc, I.cell, I.free, I.jh, I.pin, I.hok, I.len⟩
theorem Inv.iu (I : Inv (X.wish E) pins σ H s) : Inv X pins σ H s := ⟨I.ok.iu, I.os, I.bare, I.base, I.loc, I.cell, I.free, I.jh, I.pin, I.hok, I.len⟩
theorem SP.iu {D : Ends} {f : Flow} {s' : Shared} (h : SP (X.wish E) pins D f s') : SP X pins D f s' := by
 cases f with
 | next => obtain ⟨σ', H', I, q⟩ := h; exact ⟨σ', H', I.iu, q⟩
 | brk => obtain ⟨σ', H', I, q⟩ := h; exact ⟨σ', H', I.iu, q⟩
 | cont => obtain ⟨σ', H', I, q⟩ := h; exact ⟨σ', H', I.iu, q⟩
 | ret u => obtain ⟨v, σ', H', I, r, q⟩ := h; exact ⟨v, σ', H', I.iu, r, q⟩
theorem xK.Rx {st : List Stmt} {t : TS} (h : xK X.Rx st t) : xK X st t := fun pins s σ H D I hw =>
 wpAny_mono (h pins s σ H D (I.wish _) hw) (fun _ _ q => q.iu) fun _ _ z => False.elim z
end
section
variable {X : Cx} {st : Stmt} {rest : List Stmt} {t u : TS} {e : Expr} {te : TE} {pos : Pos}
noncomputable def QC : TS := fun D σ H => D.nx σ H
noncomputable def Xo (t u : TS) : TS := fun D σ H => t { D with nx := u D } σ H
theorem Fe : xK X [] QC := fun _ _ σ H _ I h => wpAny_execs_nil ⟨σ, H, I, h⟩
theorem BW (h1 : PS X st t) (h2 : xK X rest u) : xK X (st :: rest) (Xo t u) := by
 intro pins s σ H D I h
 refine wpAny_execs_cons (cI (h1 pins s σ H { D with nx := u D } I h) fun f s1 q => ?_)
 cases f with
 | next =>
   obtain ⟨σ', H', I', q⟩ := q
   exact h2 pins s1 σ' H' D I' q
 | ret v => exact q
 | brk => exact q
 | cont => exact q
theorem Inv.quiet {pins : List (Addr × Obj)} {σ : St} {H : Hp} {s : Shared} (I : Inv X pins σ H s) : interactive X.env = false := by simp [interactive, I.ok.kind]
noncomputable def RJ (te : TE) : TS := fun D σ H => te σ H fun _ H1 => D.nx σ H1
theorem Ff (he : PE X e te) (hs : swapsWith e none pos.line X.env = pure false := by rfl) : PS X (.Expr e pos) (RJ te) := by
 intro pins s σ H D I h
 exact wpAny_Expr_any (cI (he pins s σ H _ I h) fun v s1 ⟨x, H1, I1, r1, q1⟩ => ⟨σ, H1, I1, q1⟩) I.quiet hs
noncomputable def VV (te : TE) : TS := fun D σ H => te σ H D.rt
theorem Bh (he : PE X e te) : PS X (.Return (some e) pos) (VV te) := by
 intro pins s σ H D I h
 exact wpAny_Return_some (cI (he pins s σ H _ I h) fun v s1 ⟨x, H1, I1, r1, q1⟩ => ⟨x, σ, H1, I1, r1, q1⟩)
noncomputable def WQ (c : TT) (t u : TS) : TS := fun D σ H => c σ H fun b H1 => if b = true then t D σ H1 else u D σ H1
theorem Rr {c : Expr} {a b : List Stmt} {tc : TT} (hc : PT X c tc) (ha : xK X a t) (hb : xK X b u) : PS X (.If c a b pos) (WQ tc t u) := by
 intro pins s σ H D I h
 refine wpAny_If (cI (hc pins s σ H _ I h) fun d s1 ⟨H1, I1, q1⟩ => ?_)
 cases d with
 | true => exact ha pins s1 σ H1 D I1 q1
 | false => exact hb pins s1 σ H1 D I1 q1
noncomputable def Ly : TS := fun _ _ _ => False
theorem De : PS X st Ly := fun _ _ _ _ _ _ h => h.elim
end
noncomputable abbrev TG := V -> St -> Hp -> (St -> Hp -> Prop) -> Prop
noncomputable abbrev zO := List V -> St -> Hp -> (St -> Hp -> Prop) -> Prop
noncomputable def PG (X : Cx) (target : Expr) (t : TG) : Prop :=
 ∀ (pins : List (Addr × Obj)) (s : Shared) (σ : St) (H : Hp) (v : V) (u : Value) (Q : St -> Hp -> Prop), Inv X pins σ H s -> RelV v u -> t v σ H Q ->
   wpAny (model X.prog X.w) X.A (assign target X.env u) (fun _ s' => ∃ σ' H', Inv X pins σ' H' s' /\ Q σ' H') X.xe s
noncomputable def Vp (X : Cx) (ts : List Expr) (t : zO) : Prop :=
 ∀ (pins : List (Addr × Obj)) (s : Shared) (σ : St) (H : Hp) (vs : List V) (us : List Value) (Q : St -> Hp -> Prop), Inv X pins σ H s -> Vals vs us -> t vs σ H Q ->
   wpAny (model X.prog X.w) X.A (assignInOrder ((assignEach ts X.env).map (·.2)) us) (fun _ s' => ∃ σ' H', Inv X pins σ' H' s' /\ Q σ' H') X.xe s
noncomputable abbrev Jm := V -> V -> V -> Hp -> (Hp -> Prop) -> Prop
noncomputable def Ss (X : Cx) (t : Jm) : Prop :=
 ∀ (pins : List (Addr × Obj)) (s : Shared) (σ : St) (H : Hp) (o i v : V) (ov iv u : Value) (Q : Hp -> Prop), Inv X pins σ H s -> RelV o ov -> RelV i iv -> RelV v u -> t o i v H Q ->
   wpAny (model X.prog X.w) X.A (setItem ov iv u) (fun _ s' => ∃ H', Inv X pins σ H' s' /\ Q H') X.xe s
noncomputable abbrev T3 := V -> V -> Hp -> VK -> Prop
noncomputable def U9 (X : Cx) (op : Operator) (t : T3) : Prop :=
 ∀ (pins : List (Addr × Obj)) (s : Shared) (σ : St) (H : Hp) (x y : V) (v u : Value) (Q : VK), Inv X pins σ H s -> RelV x v -> RelV y u -> t x y H Q ->
   wpAny (model X.prog X.w) X.A (inplaceOp op v u) (EP X pins σ Q) X.xe s
section
variable {X : Cx} {pos : Pos}
noncomputable def nW (i : Nat) : TG := fun v σ H Q => Q (σ.set i (some v)) H
theorem aF {i : Nat} {x : Str} (hN : X.N.Nodup) (hi : X.N[i]? = some x) (hx : Loc X.env.scope x) (hf : X.fn x = true \/ X.env.scope.names.lookup x = some .local := by first | exact .inl rfl | exact .inr rfl | assumption) : PG X (.Name x pos) (nW i) := by
 intro pins s σ H v u Q I r h
 exact wpAny_assign_Name (iJ I hN hi hx r (fun s' I' => ⟨_, H, I', h⟩) hf)
noncomputable def J6 : zO := fun vs σ H Q => vs = [] /\ Q σ H
noncomputable def Dr (t : TG) (u : zO) : zO := fun vs σ H Q => ∃ v r, vs = v :: r /\ t v σ H fun σ' H' => u r σ' H' Q
theorem dD : Vp X [] J6 := by
 intro pins s σ H vs us Q I r h
 obtain ⟨e, h⟩ := h
 subst e
 cases r
 exact assignInOrder_nil ⟨σ, H, I, h⟩
theorem aK {e : Expr} {es : List Expr} {t : TG} {u : zO} (h1 : PG X e t) (h2 : Vp X es u)
 (hs : (assignEach (e :: es) X.env).map (·.2) = assign e X.env :: (assignEach es X.env).map (·.2) := by rfl) : Vp X (e :: es) (Dr t u) := by
 intro pins s σ H vs us Q I r h
 obtain ⟨v, vr, e1, h⟩ := h
 subst e1
 cases r with
 | cons r rr =>
   rw [hs]
   refine assignInOrder_cons (cI (h1 pins s σ H _ _ _ I r h) fun _ s1 ⟨σ1, H1, I1, q1⟩ => ?_)
   exact h2 pins s1 σ1 H1 _ _ Q I1 rr q1
noncomputable def JX (K : PySem.W.Frag) (n : Nat) (t : zO) : TG := fun v σ H Q => ∃ a xs, v = .ref a /\ iY K H a xs /\ xs.length = n /\ t xs σ H Q
theorem fY {es : List Expr} {k : Nat} {t : zO} {n : Nat} (hc : X.calm = true) (h : Vp X es t)
 (hn : (assignEach es X.env).length = n := by rfl) (hst : (assignEach es X.env).findIdx? (·.1) = none := by rfl) : PG X (.Tuple es k pos) (JX X.K n t) := by
 intro pins s σ H v u Q I r hw
 obtain ⟨a, xs, e1, hq, hl, hw⟩ := hw
 subst e1
 cases r
 obtain ⟨its, rv, ht, hz⟩ := I.tuple hq
 refine assign_Tuple_tuple (I.ok.hd hc) ht (by simp [hn, <- hl, rv.length]) hst fun h' hx => ?_
 have I1 : Inv X pins σ H { s with heap := h' } := I.kept (t' := s.toks) fun b o e => hx b o (Nat.ne_of_lt (Heap.lt_size e)) e
 exact h pins _ σ H xs _ Q I1 (by simpa using rv) hw
noncomputable def V6 (to ti : TE) (t : Jm) : TG := fun v σ H Q => to σ H fun o H1 => ti σ H1 fun i H2 => t o i v H2 fun H3 => Q σ H3
theorem Jq {o i : Expr} {to ti : TE} {t : Jm} (ho : PE X o to) (hi : PE X i ti) (hs : Ss X t)
 (ha : ∀ v, assign (.Subscript o i pos) X.env v = (do
  let ov <- holding [v] (eval o X.env)
  let iv <- holding [v, ov] (eval i X.env)
  standAt pos
  holding [v, ov, iv] (setItem ov iv v)
  release [v, ov, iv] []) := by intro _; rfl) : PG X (.Subscript o i pos) (V6 to ti t) := by
 intro pins s σ H v u Q I r h
 rw [ha]
 refine wpAny_bind (wpAny_holding (cI (ho pins s σ H _ I h) fun ov s1 ⟨x, H1, I1, r1, q1⟩ => ?_))
 refine wpAny_bind (wpAny_holding (cI (hi pins s1 σ H1 _ I1 q1) fun iv s2 ⟨y, H2, I2, r2, q2⟩ => ?_))
 refine wpAny_bind (wpAny_standAt (wpAny_bind (wpAny_holding (cI (hs pins s2 σ H2 x y v ov iv u _ I2 r1 r2 r q2) fun _ s3 ⟨H3, I3, q3⟩ => ?_))))
 exact wpAny_release ⟨σ, H3, I3, q3⟩
noncomputable def Jh (te : TE) (g : TG) : TS := fun D σ H => te σ H fun x H1 => g x σ H1 D.nx
theorem Ce {tg e : Expr} {te : TE} {g : TG} (he : PE X e te) (hg : PG X tg g) (hs : swapsWithSole [tg] e pos.line X.env = pure false := by rfl) (hw : swappedStores [tg] e X.env = pure none := by rfl)
 (h1 : (assignEach [tg] X.env).map (·.2) = [assign tg X.env] := by rfl) : PS X (.Assign [tg] e pos) (Jh te g) := by
 intro pins s σ H D I h
 refine wpAny_Assign_stores (cI (he pins s σ H _ I h) fun v s1 ⟨x, H1, I1, r1, q1⟩ => ?_) hs hw
 rw [h1]
 exact cI (hg pins s1 σ H1 x v _ I1 r1 q1) fun _ s2 q => q
theorem vP {i : Nat} {x : Str} {e : Expr} {te : TE} {pos' : Pos} (hN : X.N.Nodup) (hi : X.N[i]? = some x) (hx : Loc X.env.scope x) (he : PE X e te) (hs : swapsWith e (some (.Name x pos')) pos.line X.env = pure false := by rfl) (hf : X.fn x = true \/ X.env.scope.names.lookup x = some .local := by first | exact .inl rfl | exact .inr rfl | assumption) :
 PS X (.Assign [.Name x pos'] e pos) (Jh te (nW i)) := by
 intro pins s σ H D I h
 refine wpAny_Assign_Name (cI (he pins s σ H _ I h) fun v s1 ⟨y, H1, I1, r1, q1⟩ => ?_) hs
 exact iJ I1 hN hi hx r1 (fun s2 I2 => ⟨_, H1, I2, q1⟩) hf
noncomputable def Xp (i j : Nat) (ta : TA) : TS := fun D σ H => ta σ H fun vs H1 => ∃ v w, vs = [v, w] /\ D.nx ((σ.set i (some v)).set j (some w)) H1
theorem Ld {i j : Nat} {x y : Str} {a b : Expr} {ta : TA} {px py pt : Pos} {kt k2 Mw} (hc : X.calm = true) (hN : X.N.Nodup) (hi : X.N[i]? = some x) (hj : X.N[j]? = some y) (hij : i ≠ j)
 (hx : X.env.scope.names.lookup x = some .local) (hy : X.env.scope.names.lookup y = some .local) (ha : PA X [a, b] ta)
 (hw : swappedStores [.Tuple [.Name x px, .Name y py] kt pt] (.Tuple [a, b] k2 Mw) X.env = pure (some [x, y]))
 (hs : swapsWithSole [.Tuple [.Name x px, .Name y py] kt pt] (.Tuple [a, b] k2 Mw) pos.line X.env = pure false := by rfl) :
 PS X (.Assign [.Tuple [.Name x px, .Name y py] kt pt] (.Tuple [a, b] k2 Mw) pos) (Xp i j ta) := by
 intro pins s σ H D I h
 rw [exec_Assign_arm]
 refine wpAny_bind (wpAny_standAt ?_)
 rw [hs]
 refine wpAny_bind (wpAny_pure ?_)
 rw [if_neg (by decide)]
 refine wpAny_bind (Tuple_ (cI (ha _ pins s σ H _ I h) fun us s1 ⟨vs, H1, I1, r1, q1⟩ => ?_))
 obtain ⟨v, w, e1, q1⟩ := q1
 subst e1
 obtain ⟨u1, u2, rfl, rv, wF⟩ : ∃ u1 u2, us = [u1, u2] /\ RelV v u1 /\ RelV w u2 := by
  cases r1 with
  | cons p q =>
    cases q with
    | cons p' q' =>
      cases q'
      exact ⟨_, _, rfl, p, p'⟩
 refine wpAny_newObj_type ?_ (by show 2 <= sizeLine; decide)
 have I2 : Inv X pins σ H1 { s1 with heap := s1.heap.push { cls := .type "tuple", data := .seq [u1, u2].toArray } } := I1.kept (t' := s1.toks) fun b o e => Heap.get?_push_of_some _ e
 rw [hw]
 refine wpAny_bind (wpAny_pure ?_)
 show wpAny (model X.prog X.w) X.A (do rule "assign.swapped-stores"; let items <- unpackItems (.ref s1.heap.objs.size) 2 none; assignInOrder [fun v => bindName X.env y v, fun v => bindName X.env x v] items.reverse; pure Flow.next) _ _ _
 refine wpAny_bind (wpAny_rule (wpAny_bind (unpackItems_tuple (items := #[u1, u2]) (I.ok.hd hc) (IsTup.new s1.heap _) fun h' hx' => ?_)))
 have I3 := I2.kept (h' := h') (t' := s1.toks) fun b o e => hx' b o (Nat.ne_of_lt (Heap.lt_size e)) e
 show wpAny _ _ (assignInOrder [fun v => bindName X.env y v, fun v => bindName X.env x v] [u2, u1] >>= fun _ => pure Flow.next) _ _ _
 refine wpAny_bind (assignInOrder_cons (wpAny_bindName (iJ I3 hN hj (.inl hy) wF (fun s2 I4 => ?_) (.inr hy))))
 refine assignInOrder_cons (wpAny_bindName (iJ I4 hN hi (.inl hx) rv (fun s3 I5 => assignInOrder_nil (wpAny_pure ?_)) (.inr hx)))
 rw [List.set_comm _ _ (Ne.symm hij)] at I5
 exact ⟨_, H1, I5, q1⟩
noncomputable def Yj (i : Nat) (te : TE) (ti : T3) : TS := fun D σ H => ∃ x, σ[i]? = some (some x) /\ te σ H fun y H1 => ti x y H1 fun z H2 => D.nx (σ.set i (some z)) H2
theorem J3 {i : Nat} {x : Str} {e : Expr} {te : TE} {op : Operator} {ti : T3} {pos' : Pos} (hN : X.N.Nodup) (hi : X.N[i]? = some x) (hx : Loc X.env.scope x) (he : PE X e te) (ho : U9 X op ti) (hf : X.fn x = true \/ X.env.scope.names.lookup x = some .local := by first | exact .inl rfl | exact .inr rfl | assumption) :
 PS X (.AugAssign (.Name x pos') op e pos) (Yj i te ti) := by
 intro pins s σ H D I h
 obtain ⟨v, e1, h⟩ := h
 obtain ⟨m, hn, hl⟩ := I.loc
 have vis : xU X.env.scope x := by rcases hx with k | k; exact .inl k; exact .inr (.inl k)
 obtain ⟨u, r, l⟩ := hl i x v hi e1 vis
 refine wpAny_AugAssign_Name ?_
 have go : wpAny (model X.prog X.w) X.A (eval e X.env) (fun w s₂ => wpAny (model X.prog X.w) X.A (inplaceOp op u w) (fun r s₃ => wpAny (model X.prog X.w) X.A (storeName X.env x r) (fun _ => SP X pins D .next) X.xe s₃) X.xe s₂) X.xe s := by
  refine cI (he pins s σ H _ I h) fun w s1 ⟨y, H1, I1, r1, q1⟩ => ?_
  refine cI (ho pins s1 σ H1 v y u w _ I1 r r1 q1) fun z s2 ⟨zv, H2, I2, r2, q2⟩ => ?_
  exact iJ I2 hN hi hx r2 (fun s3 I3 => ⟨_, H2, I3, q2⟩) hf
 rcases l with ⟨hk, hm⟩ | ⟨hk, c, hc, hcell⟩
 . exact wpAny_loadName_local I.ok.kind hk hn hm go
 . rcases hk with hk | hk
   . exact wpAny_loadName_cell I.ok.kind hk hc hcell go
   . rcases hx with k | k
     . have : X.env.scope.names.lookup x = some .free := hk
       rw [k] at this; cases this
     . have : X.env.scope.names.lookup x = some .free := hk
       rw [k] at this; cases this
noncomputable def X3 (f : Int -> Int -> Int) : T3 := fun x y H Q => ∃ i j, x = .int i /\ y = .int j /\ Q (.int (f i j)) H
theorem J4 : U9 X .Add (X3 fun i j => i + j) := by
 intro pins s σ H x y v u Q I r1 r2 h
 obtain ⟨i, j, e1, e2, q⟩ := h
 subst e1; subst e2
 obtain ⟨t, rfl⟩ := r1
 obtain ⟨t', rfl⟩ := r2
 exact iadd_int ⟨.int _, H, I.tok _, ⟨_, rfl⟩, q⟩
end
structure It where
 go : Nat -> Hp -> Prop
 Ja : Nat -> Hp -> V -> Hp -> Prop
 stop : Nat -> Hp -> Prop
noncomputable def kW (X : Cx) (pins : List (Addr × Obj)) (H : Hp) (b : Addr) : Prop :=
 H b = none /\ b ≠ X.env.locals /\ b ∉ X.fs /\ (b ∈ X.ex \/ X.s₀.heap.objs.size <= b) /\ (∀ x c, X.env.cells.lookup x = some c -> c ≠ b) /\ ∀ p ∈ X.pn ++ pins, p.1 ≠ b
theorem Inv.yE {X : Cx} {pins : List (Addr × Obj)} {σ : St} {H H' : Hp} {s : Shared} {b : Addr} (I : Inv X pins σ H s) (hb : s.heap.objs.size <= b) (hn : H' b = none) : kW X pins H' b := by
 refine ⟨hn, Nat.ne_of_gt (Nat.lt_of_lt_of_le I.lt hb), I.Wm hb, .inr (Nat.le_trans I.sz hb), fun x c e z => ?_, fun p hp z => ?_⟩
 . obtain ⟨v, q⟩ := I.cell x c e
   exact absurd (Nat.lt_of_lt_of_le q.lt (by rw [z]; exact hb)) (Nat.lt_irrefl _)
 . exact absurd (Nat.lt_of_lt_of_le (Heap.lt_size (I.pin p hp).1) (by rw [z]; exact hb)) (Nat.lt_irrefl _)
structure Turn (P : Program) (w : World) (K : PySem.W.Frag) (tg : Expr) (J : It) (fp : List Addr) (it : Addr) (tn : Nat -> Heap -> Prop) : Prop where
 mem : it ∈ fp
 obj : ∀ i h, tn i h -> ∀ b ∈ fp, ∃ o, h.get? b = some o /\ ∀ v, o.data ≠ .cell v
 keep : ∀ i h h', tn i h -> (∀ b ∈ fp, ∀ o, h.get? b = some o -> h'.get? b = some o) -> tn i h'
 item : ∀ (X : Cx), X.prog = P -> X.w = w -> X.K = K -> X.calm = true -> ∀ (i : Nat) (pins : List (Addr × Obj)) (s : Shared) (σ : St) (H : Hp) (E : Value -> Shared -> Prop), Inv X pins σ H s -> (∀ b ∈ fp, kW X pins H b) -> tn i s.heap -> J.go i H ->
  wpAny (model P w) X.A (pyNext (.ref it)) (fun r s1 => ∃ u, r = some u /\
   wpAny (model P w) X.A (letOwnedTupleGo tg (.ref it) u) (fun _ s2 => ∃ x H', Inv X pins σ H' s2 /\ RelV x u /\ J.Ja i H x H' /\ tn (i + 1) s2.heap /\ ∀ b ∈ fp, H' b = none) E s1) E s
 done : ∀ (X : Cx), X.prog = P -> X.w = w -> X.K = K -> X.calm = true -> ∀ (i : Nat) (pins : List (Addr × Obj)) (s : Shared) (σ : St) (H : Hp) (E : Value -> Shared -> Prop), Inv X pins σ H s -> (∀ b ∈ fp, kW X pins H b) -> tn i s.heap -> J.stop i H ->
  wpAny (model P w) X.A (pyNext (.ref it)) (fun r s1 => r = none /\ Inv X pins σ H s1) E s
 self : ∀ (A : Around) (i : Nat) (s : Shared) (Q : Value -> Shared -> Prop) (E : Value -> Shared -> Prop), tn i s.heap -> Q (.ref it) s -> wpAny (model P w) A (pyIter (.ref it)) Q E s
noncomputable abbrev TI := St -> Hp -> (It -> Hp -> Prop) -> Prop
noncomputable def PIE (X : Cx) (pins : List (Addr × Obj)) (σ : St) (tg : Expr) (R : It -> Hp -> Prop) (itv : Value) (s2 : Shared) : Prop :=
 ∃ (it : Addr) (fp : List Addr) (tn : Nat -> Heap -> Prop) (J : It) (H' : Hp), itv = .ref it /\ Inv X pins σ H' s2 /\ Turn X.prog X.w X.K tg J fp it tn /\ tn 0 s2.heap /\ (∀ b ∈ fp, kW X pins H' b) /\ R J H'
noncomputable def PI (X : Cx) (tg iter : Expr) (wi : TI) : Prop :=
 ∀ (pins : List (Addr × Obj)) (s : Shared) (σ : St) (H : Hp) (R : It -> Hp -> Prop), Inv X pins σ H s -> wi σ H R ->
   wpAny (model X.prog X.w) X.A (eval iter X.env) (fun v s1 => wpAny (model X.prog X.w) X.A (pyIter v) (PIE X pins σ tg R) X.xe s1) X.xe s
theorem xZ {M : Model} {A : Around} {E : Value -> Shared -> Prop} {s : Shared} {tg : Expr} {it : Addr} {u : Value} {o : Obj} {n : String} {vs : Array Value} {Q : Unit -> Shared -> Prop} (ho : s.heap.get? it = some o) (hc : o.cls = .type n) (hd : o.data = .fields vs)
 (hn : ["enumerate", "zip", "dict_itemiterator", "dict_reverseitemiterator", "odict_iterator", "itertools.zip_longest", "itertools.pairwise"].contains n = false) (hQ : Q () s) : wpAny M A (letOwnedTupleGo tg (.ref it) u) Q E s := by
 unfold letOwnedTupleGo
 cases tg <;> first
  | exact wpAny_pure hQ
  | (cases u <;> first
   | exact wpAny_pure hQ
   | (refine wpAny_bind (wpAny_load ho ?_)
      rw [hc, hd]
      show wpAny M A (if (["enumerate", "zip", "dict_itemiterator", "dict_reverseitemiterator", "odict_iterator", "itertools.zip_longest", "itertools.pairwise"].contains n && vs[0]? == some (rawInt _)) = true then _ else _) Q E s
      rw [if_neg (by intro h; rw [hn, Bool.false_and] at h; cases h)]
      exact wpAny_pure hQ))
noncomputable def LR (K : PySem.W.Frag) (a : Addr) : It :=
 ⟨fun i H => ∃ xs x, gw K H a xs /\ xs[i]? = some x, fun i H x H' => H' = H /\ ∀ xs, gw K H a xs -> xs[i]? = some x, fun i H => ∃ xs, gw K H a xs /\ xs.length <= i⟩
noncomputable def N6 (K : PySem.W.Frag) (a : Addr) : It :=
 ⟨fun i H => ∃ xs x, iY K H a xs /\ xs[i]? = some x, fun i H x H' => H' = H /\ ∀ xs, iY K H a xs -> xs[i]? = some x, fun i H => ∃ xs, iY K H a xs /\ xs.length <= i⟩
noncomputable def Qp (lo : Int) (n : Nat) : It := ⟨fun i _ => i < n, fun i H x H' => H' = H /\ x = .int (lo + i), fun i _ => n <= i⟩
theorem yZ {P : Program} {w : World} {K : PySem.W.Frag} {tg : Expr} (a it : Addr) : Turn P w K tg (LR K a) [it] it (fun i h => h.IsListIter it a i) where
 mem := by simp
 obj := fun i h st b hb => by
  have e : b = it := by simpa using hb
  subst e
  obtain ⟨o, e, c, d⟩ := st
  exact ⟨o, e, fun v z => by rw [d] at z; cases z⟩
 keep := fun i h h' st k => st.at fun o e => k it (by simp) o e
 item := by
  intro X hP hw hK hc i pins s σ H E I hf st hg
  subst hP hw hK
  obtain ⟨xs, x, hq, hx⟩ := hg
  obtain ⟨its, rv, p, hz⟩ := I.list hq
  obtain ⟨u, hu, ru⟩ := rv.get hx
  obtain ⟨f0, f1, f2, f3, f4, f5⟩ := hf it (by simp)
  refine wpAny_pyNext_list_item st p.isList (x := u) (by simpa using hu) fun h' st' sb => ?_
  have I1 : Inv X pins σ H { s with heap := h' } := I.turned (t' := s.toks) (fun b o hb e => (sb.2 b hb).trans e) f0 f1 f3 f4 f5
  obtain ⟨o, e, c, d⟩ := id st'
  exact ⟨u, rfl, xZ (s := { s with heap := h' }) e c d (by decide) ⟨x, H, I1, ru, ⟨rfl, fun ys hy => by rw [I.oK hy hq]; exact hx⟩, st', fun b hb => (hf b hb).1⟩⟩
 done := by
  intro X hP hw hK hc i pins s σ H E I hf st hg
  subst hP hw hK
  obtain ⟨xs, hq, hx⟩ := hg
  obtain ⟨its, rv, p, hz⟩ := I.list hq
  obtain ⟨f0, f1, f2, f3, f4, f5⟩ := hf it (by simp)
  have hl := rv.length
  exact wpAny_pyNext_list_end (I.ok.hd hc) st p.isList (by simp; omega) fun h' eb => ⟨rfl, I.turned (t' := s.toks) (fun b o hb e => eb b o hb e) f0 f1 f3 f4 f5⟩
 self := fun _ _ _ _ _ st h => wpAny_pyIter_listiter st h
theorem vU {P : Program} {w : World} {K : PySem.W.Frag} {tg : Expr} (a it : Addr) : Turn P w K tg (N6 K a) [it] it (fun i h => h.IsTupleIter it a i) where
 mem := by simp
 obj := fun i h st b hb => by
  have e : b = it := by simpa using hb
  subst e
  obtain ⟨o, e, c, d⟩ := st
  exact ⟨o, e, fun v z => by rw [d] at z; cases z⟩
 keep := fun i h h' st k => st.at fun o e => k it (by simp) o e
 item := by
  intro X hP hw hK hc i pins s σ H E I hf st hg
  subst hP hw hK
  obtain ⟨xs, x, hq, hx⟩ := hg
  obtain ⟨its, rv, p, hz⟩ := I.tuple hq
  obtain ⟨u, hu, ru⟩ := rv.get hx
  obtain ⟨f0, f1, f2, f3, f4, f5⟩ := hf it (by simp)
  refine wpAny_pyNext_tuple_item st (show s.heap.IsTuple a its.toArray from p) (x := u) (by simpa using hu) fun h' st' sb => ?_
  have I1 : Inv X pins σ H { s with heap := h' } := I.turned (t' := s.toks) (fun b o hb e => (sb.2 b hb).trans e) f0 f1 f3 f4 f5
  obtain ⟨o, e, c, d⟩ := id st'
  exact ⟨u, rfl, xZ (s := { s with heap := h' }) e c d (by decide) ⟨x, H, I1, ru, ⟨rfl, fun ys hy => by rw [I.kJ hy hq]; exact hx⟩, st', fun b hb => (hf b hb).1⟩⟩
 done := by
  intro X hP hw hK hc i pins s σ H E I hf st hg
  subst hP hw hK
  obtain ⟨xs, hq, hx⟩ := hg
  obtain ⟨its, rv, p, hz⟩ := I.tuple hq
  obtain ⟨f0, f1, f2, f3, f4, f5⟩ := hf it (by simp)
  have hl := rv.length
  exact wpAny_pyNext_tuple_end (I.ok.hd hc) st (show s.heap.IsTuple a its.toArray from p) (by simp; omega) fun h' eb => ⟨rfl, I.turned (t' := s.toks) (fun b o hb e => eb b o hb e) f0 f1 f3 f4 f5⟩
 self := fun _ _ _ _ _ st h => wpAny_pyIter_tupleiter st h
theorem vh {P : Program} {w : World} {K : PySem.W.Frag} {tg : Expr} (it : Addr) (lo : Int) (n : Nat) : Turn P w K tg (Qp lo n) [it] it (fun i h => IsRangeIter h it (lo + (i : Nat) * 1) ((n : Int) - (i : Nat)) 1) where
 mem := by simp
 obj := fun i h st b hb => by
  have e : b = it := by simpa using hb
  subst e
  exact ⟨_, st, fun v z => by
   have z' : Data.fields _ = Data.cell v := z
   cases z'⟩
 keep := fun i h h' st k => k it (by simp) _ st
 item := by
  intro X hP hw hK hc i pins s σ H E I hf st hg
  subst hP hw hK
  obtain ⟨f0, f1, f2, f3, f4, f5⟩ := hf it (by simp)
  have W := Walks.range (prog := X.prog) (w := X.w) (I.ok.hd hc) it lo 1 n
  refine W.item i s _ _ hg st fun v h' tk hv st' kk => ?_
  obtain ⟨t, rfl⟩ := hv
  have I1 : Inv X pins σ H { s with heap := h', toks := tk } := I.turned (fun b o hb e => kk b o (by simpa using hb) e) f0 f1 f3 f4 f5
  refine ⟨_, rfl, xZ (s := { s with heap := h', toks := tk }) (n := "range_iterator") st' rfl rfl (by decide) ⟨.int (lo + i), H, I1, ⟨t, ?_⟩, ⟨rfl, rfl⟩, st', fun b hb => (hf b hb).1⟩⟩
  rw [Int.mul_one]
 done := by
  intro X hP hw hK hc i pins s σ H E I hf st hg
  subst hP hw hK
  obtain ⟨f0, f1, f2, f3, f4, f5⟩ := hf it (by simp)
  exact wpAny_pyNext_range_end (I.ok.hd hc) st (by have : n <= i := hg; omega) fun h' eb => ⟨rfl, I.turned (t' := s.toks) (fun b o hb e => eb b o hb e) f0 f1 f3 f4 f5⟩
 self := fun _ _ _ _ _ st h => wpAny_pyIter_rangeiter st h
end L2
namespace L2
open PySem PySem.Spec PyProof.Rows
section
variable {X : Cx} {tg : Expr}
theorem sX {pins : List (Addr × Obj)} {σ : St} {H : Hp} {s : Shared} {R : It -> Hp -> Prop} {E : Value -> Shared -> Prop} {lo hi : Int} {t u v : Tok} {tk : Nat} (I : Inv X pins σ H s) (h1 : -(2 ^ 62) <= lo) (h2 : lo < 2 ^ 62) (h3 : -(2 ^ 62) <= hi) (h4 : hi < 2 ^ 62)
 (q : R (Qp lo (hi - lo).toNat) H) : wpAny (model X.prog X.w) X.A (pyIter (.ref s.heap.objs.size)) (PIE X pins σ tg R) E { s with heap := s.heap.push { cls := .type "range", data := .fields #[.int lo t, .int hi u, .int 1 v] }, toks := tk } := by
 refine wpAny_pyIter_range (IsRange.new ..) (small_one h1 h2 h3 h4) ?_
 have I1 : Inv X pins σ H { s with heap := s.heap.push { cls := .type "range", data := .fields #[.int lo t, .int hi u, .int 1 v] }, toks := tk } := I.kept fun b o e => Heap.get?_push_of_some _ e
 refine ⟨(s.heap.push { cls := .type "range", data := .fields #[.int lo t, .int hi u, .int 1 v] }).objs.size, [(s.heap.push { cls := .type "range", data := .fields #[.int lo t, .int hi u, .int 1 v] }).objs.size], _, _, H, rfl,
  I1.kept (t' := tk) fun b o e => Heap.get?_push_of_some _ e, vh _ lo (hi - lo).toNat, ?_, fun b hb => ?_, q⟩
 . have e1 : lo + ((0 : Nat) : Int) * 1 = lo := by simp
   have e2 : (((hi - lo).toNat : Nat) : Int) - ((0 : Nat) : Int) = Builtin.Range.rangeSize lo hi 1 := by rw [rangeSize_one]; split <;> omega
   show IsRangeIter _ _ (lo + ((0 : Nat) : Int) * 1) ((((hi - lo).toNat : Nat) : Int) - ((0 : Nat) : Int)) 1
   rw [e1, e2]
   exact Heap.get?_push_size _ rfl
 . have e : b = (s.heap.push { cls := .type "range", data := .fields #[.int lo t, .int hi u, .int 1 v] }).objs.size := by simpa using hb
   subst e
   exact I1.yE (Nat.le_refl _) (I1.hok.fresh (Nat.le_refl _))
noncomputable def Rk (ta : TA) : TI := fun σ H R => ta σ H fun vs H1 => ∃ j : Int, vs = [.int j] /\ -(2 ^ 62) <= j /\ j < 2 ^ 62 /\ R (Qp 0 j.toNat) H1
noncomputable def R4 (ta : TA) : TI := fun σ H R => ta σ H fun vs H1 => ∃ i j : Int, vs = [.int i, .int j] /\ (-(2 ^ 62) <= i /\ i < 2 ^ 62 /\ -(2 ^ 62) <= j /\ j < 2 ^ 62) /\ R (Qp i (j - i).toNat) H1
theorem yV {a : Expr} {ta : TA} {p pos : Pos} (hg : Gl X "range") (hm : X.mg "range" = none) (ha : PA X [a] ta) (hs : starEach [a] X.env = [(false, eval a X.env)] := by rfl) : PI X tg (.Call (.Name "range" p) [a] [] pos) (Rk ta) := by
 intro pins s σ H R I h
 refine Call_ (nD I hg hm boot_range (PyProof.Rows.callWith_type1 (cI (ha pos pins s σ H _ I h) fun us s1 ⟨vs, H1, I1, r1, q1⟩ => ?_) hs rfl))
 obtain ⟨j, e, q1, q2, q⟩ := q1
 subst e
 cases r1 with
 | cons r rr =>
   cases rr
   obtain ⟨t, rfl⟩ := r
   exact call_range_1 (sX I1 (by omega) (by omega) q1 q2 (by simpa using q))
theorem zg {a b : Expr} {ta : TA} {p pos : Pos} (hg : Gl X "range") (hm : X.mg "range" = none) (ha : PA X [a, b] ta) (hs : starEach [a, b] X.env = [(false, eval a X.env), (false, eval b X.env)] := by rfl) (hs2 : starEach [b] X.env = [(false, eval b X.env)] := by rfl) :
 PI X tg (.Call (.Name "range" p) [a, b] [] pos) (R4 ta) := by
 intro pins s σ H R I h
 refine Call_ (nD I hg hm boot_range (PyProof.Rows.callWith_type1 (cI (ha pos pins s σ H _ I h) fun us s1 ⟨vs, H1, I1, r1, q1⟩ => ?_) (by rw [hs, hs2]) (by rw [hs2]; rfl)))
 obtain ⟨i, j, e, ⟨q1, q2, q3, q4⟩, q⟩ := q1
 subst e
 cases r1 with
 | cons r rr =>
   cases rr with
   | cons r' rr =>
     cases rr
     obtain ⟨t, rfl⟩ := r
     obtain ⟨t', rfl⟩ := r'
     exact call_range_2 (sX I1 q1 q2 q3 q4 q)
noncomputable def Yl (wi : TI) (g : TG) (tb : TS) : TS := fun D σ H => wi σ H fun J H1 => ∃ W : Nat -> Nat -> St -> Hp -> Prop, (∃ m, W 0 m σ H1) /\ ∀ i m σ H, W i m σ H ->
 (J.stop i H /\ D.nx σ H) \/ (J.go i H /\ ∃ N : St -> Hp -> Prop, (∀ σ' H', N σ' H' -> ∃ m', m' < m /\ W (i + 1) m' σ' H') /\ ∀ x H', J.Ja i H x H' -> g x σ H' fun σ2 H2 => tb { D with nx := N, ct := N, bk := D.nx } σ2 H2)
noncomputable def o6 (fp : List Addr) (h : Heap) : List (Addr × Obj) := fp.filterMap fun b => (h.get? b).map fun o => (b, o)
theorem gU {fp : List Addr} {h : Heap} {b : Addr} {o : Obj} (hb : b ∈ fp) (e : h.get? b = some o) : (b, o) ∈ o6 fp h := List.mem_filterMap.mpr ⟨b, hb, by rw [e]; rfl⟩
theorem yO {fp : List Addr} {h : Heap} {p : Addr × Obj} (hp : p ∈ o6 fp h) : p.1 ∈ fp /\ h.get? p.1 = some p.2 := by
 obtain ⟨b, hb, e⟩ := List.mem_filterMap.mp hp
 cases q : h.get? b with
 | none => rw [q] at e; cases e
 | some o =>
   rw [q] at e
   have e' : (b, o) = p := Option.some.inj e
   subst e'
   exact ⟨hb, q⟩
theorem Inv.pinned {pins : List (Addr × Obj)} {σ : St} {H : Hp} {s : Shared} {fp : List Addr} (I : Inv X pins σ H s) (hf : ∀ b ∈ fp, kW X pins H b) (ho : ∀ b ∈ fp, ∃ o, s.heap.get? b = some o /\ ∀ v, o.data ≠ .cell v) : Inv X (pins ++ o6 fp s.heap) σ H s :=
 I.xO fun p hp => (List.mem_append.mp hp).elim (fun z => I.pin p (List.mem_append_right _ z)) fun z => by
  obtain ⟨hb, e⟩ := yO z
  obtain ⟨f0, f1, f2, _⟩ := hf p.1 hb
  obtain ⟨o, e', d⟩ := ho p.1 hb
  rw [e] at e'; cases e'
  exact ⟨e, f0, f1, f2, d⟩
theorem Inv.jN {pins pl : List (Addr × Obj)} {σ : St} {H : Hp} {s : Shared} (I : Inv X (pins ++ pl) σ H s) : Inv X pins σ H s := I.xO fun p hp => I.pin p (List.mem_append_right _ (List.mem_append_left _ hp))
theorem LC {iter : Expr} {body : List Stmt} {wi : TI} {g : TG} {tb : TS} {pos : Pos} (hp : PassesOwn (model X.prog X.w) X.A X.env X.xe) (hc : X.calm = true) (hi : PI X tg iter wi) (hg : PG X tg g) (hb : xK X body tb)
 (hs : ∀ x, foldedSetIterable iter X.env x = pure x := by intro _; rfl) : PS X (.For tg iter body [] pos) (Yl wi g tb) := by
 intro pins s σ H D I h
 refine wpAny_For (cI (hi pins s σ H _ I h) fun v s1 h1 => cI h1 fun itv s2 h2 => ?_) hs
 obtain ⟨it, fp, tn, J, H2, e, I2, T, st2, f2, W, ⟨m0, w0⟩, turn⟩ := h2
 subst e
 -- what stays true of the iterator's objects through the loop
 have stat : ∀ {H' : Hp}, (∀ b ∈ fp, H' b = none) -> ∀ b ∈ fp, kW X pins H' b := fun hn b hb => ⟨hn b hb, (f2 b hb).2⟩
 refine codeAny_forLoop_any (fun n s' => ∃ i σ' H', Inv X pins σ' H' s' /\ tn i s'.heap /\ (∀ b ∈ fp, H' b = none) /\ W i n σ' H') ?_ m0 ⟨0, σ, H2, I2, st2, fun b hb => (f2 b hb).1, w0⟩
 rintro n s3 ⟨i, σ3, H3, I3, st3, fr3, w3⟩
 rcases turn i n σ3 H3 w3 with ⟨stop, qn⟩ | ⟨go, N, hN, step⟩
 . refine wpAny_passesOwn hp (cI (T.done X rfl rfl rfl hc i pins s3 σ3 H3 X.xe I3 (stat fr3) st3 stop) fun r s4 ⟨hr, I4⟩ => ?_)
   subst hr
   exact wpAny_execs_nil ⟨σ3, H3, I4, qn⟩
 . refine wpAny_passesOwn hp (cI (T.item X rfl rfl rfl hc i pins s3 σ3 H3 X.xe I3 (stat fr3) st3 go) fun r s4 ⟨u, hr, h4⟩ => ?_)
   subst hr
   refine wpAny_passesOwn hp (cI h4 fun _ s5 ⟨x, H5, I5, r5, y5, YM, fr5⟩ => ?_)
   have I5' := I5.pinned (stat fr5) (T.obj _ _ YM)
   refine wpAny_passesOwn hp (cI (hg _ s5 σ3 H5 x u _ I5' r5 (step x H5 y5)) fun _ s6 ⟨σ6, H6, I6, q6⟩ => ?_)
   refine wpAny_passesOwn hp (cI (hb _ s6 σ6 H6 _ I6 q6) fun f s7 q7 => ?_)
   have again : ∀ {σ7 : St} {H7 : Hp}, Inv X (pins ++ o6 fp s5.heap) σ7 H7 s7 -> N σ7 H7 -> ∃ m, m < n /\ ∃ i σ' H', Inv X pins σ' H' s7 /\ tn i s7.heap /\ (∀ b ∈ fp, H' b = none) /\ W i m σ' H' := fun {σ7 H7} I7 n7 => by
    obtain ⟨m', hm, w7⟩ := hN σ7 H7 n7
    refine ⟨m', hm, i + 1, σ7, H7, I7.jN, T.keep _ _ _ YM fun b hb o e => (I7.pin (b, o) (List.mem_append_right _ (List.mem_append_right _ (gU hb e)))).1, fun b hb => ?_, w7⟩
    obtain ⟨o, e, d⟩ := T.obj _ _ YM b hb
    exact (I7.pin (b, o) (List.mem_append_right _ (List.mem_append_right _ (gU hb e)))).2.1
   cases f with
   | next => obtain ⟨σ7, H7, I7, n7⟩ := q7; exact again I7 n7
   | cont => obtain ⟨σ7, H7, I7, n7⟩ := q7; exact again I7 n7
   | brk => obtain ⟨σ7, H7, I7, q7⟩ := q7; exact ⟨σ7, H7, I7.jN, q7⟩
   | ret v => obtain ⟨x7, σ7, H7, I7, r7, q7⟩ := q7; exact ⟨x7, σ7, H7, I7.jN, r7, q7⟩
end
end L2
namespace L2
open PySem PySem.Spec PyProof.Rows
noncomputable abbrev R2 := V -> V -> Hp -> VK -> Prop
noncomputable def fB (X : Cx) (f : Value -> Value -> Sem Value) (r : R2) : Prop :=
 ∀ (pins : List (Addr × Obj)) (s : Shared) (σ : St) (H : Hp) (x y : V) (v u : Value) (Q : VK), Inv X pins σ H s -> RelV x v -> RelV y u -> r x y H Q ->
   wpAny (model X.prog X.w) X.A (f v u) (EP X pins σ Q) X.xe s
noncomputable def YD (X : Cx) (f : Value -> Sem Value) (r : V -> Hp -> VK -> Prop) : Prop :=
 ∀ (pins : List (Addr × Obj)) (s : Shared) (σ : St) (H : Hp) (x : V) (v : Value) (Q : VK), Inv X pins σ H s -> RelV x v -> r x H Q ->
   wpAny (model X.prog X.w) X.A (f v) (EP X pins σ Q) X.xe s
noncomputable def dq (X : Cx) (f : Value) (r : List V -> Hp -> VK -> Prop) : Prop :=
 ∀ (pins : List (Addr × Obj)) (s : Shared) (σ : St) (H : Hp) (xs : List V) (us : List Value) (Q : VK), Inv X pins σ H s -> Vals xs us -> r xs H Q ->
   wpAny (model X.prog X.w) X.A (call f us) (EP X pins σ Q) X.xe s
noncomputable def M4 (r : R2) (ta tb : TE) : TE := fun σ H Q => ta σ H fun x H1 => tb σ H1 fun y H2 => r x y H2 Q
noncomputable def Z7 (r : V -> Hp -> VK -> Prop) (ta : TE) : TE := fun σ H Q => ta σ H fun x H1 => r x H1 Q
noncomputable def rI (C : Int -> Int -> Prop) (g : Int -> Int -> V) : R2 := fun x y H Q => ∃ i j, x = .int i /\ y = .int j /\ C i j /\ Q (g i j) H
noncomputable def Ec (g : Int -> Int -> V) : R2 := fun x y H Q => ∃ i j, x = .int i /\ y = .int j /\ Q (g i j) H
noncomputable def rU (g : Int -> V) : V -> Hp -> VK -> Prop := fun x H Q => ∃ i, x = .int i /\ Q (g i) H
section
variable {X : Cx} {a b c : Expr} {ta tb tc : TE} {pos : Pos}
theorem JB (ha : PE X a ta) (hb : PE X b tb) {pins : List (Addr × Obj)} {s : Shared} {σ : St} {H : Hp} {R : V -> V -> Hp -> Prop} (I : Inv X pins σ H s)
 (h : ta σ H fun x H1 => tb σ H1 fun y H2 => R x y H2) {Q : Value -> Shared -> Prop} {f : Value -> Value -> Sem Value}
 (hf : ∀ v u s2 x y H2, Inv X pins σ H2 s2 -> RelV x v -> RelV y u -> R x y H2 -> wpAny (model X.prog X.w) X.A (f v u) Q X.xe s2) :
 wpAny (model X.prog X.w) X.A (eval a X.env) (fun v s₁ => wpAny (model X.prog X.w) X.A (eval b X.env) (fun u s₂ => wpAny (model X.prog X.w) X.A (f v u) Q X.xe s₂) X.xe s₁) X.xe s := by
 refine cI (ha pins s σ H _ I h) fun v s1 ⟨x, H1, I1, r1, q1⟩ => ?_
 refine cI (hb pins s1 σ H1 _ I1 q1) fun u s2 ⟨y, H2, I2, r2, q2⟩ => ?_
 exact hf v u s2 x y H2 I2 r1 r2 q2
theorem Qe {op : Operator} {r : R2} (ho : fB X (binaryOp op) r) (ha : PE X a ta) (hb : PE X b tb) : PE X (.BinOp a op b pos) (M4 r ta tb) := by
 intro pins s σ H Q I h
 exact wpAny_BinOp (JB ha hb I h fun v u s2 x y H2 I2 rx ry q => ho pins s2 σ H2 x y v u Q I2 rx ry q)
theorem Rh {op : UnaryOp} {r : V -> Hp -> VK -> Prop} (ho : YD X (unaryOp op) r) (ha : PE X a ta) : PE X (.UnaryOp op a pos) (Z7 r ta) := by
 intro pins s σ H Q I h
 exact UnaryOp_ (cI (ha pins s σ H _ I h) fun v s1 ⟨x, H1, I1, r1, q1⟩ => ho pins s1 σ H1 x v Q I1 r1 q1)
theorem Xf {f : Value -> Value -> Sem Value} {C : Int -> Int -> Prop} {g : Int -> Int -> Int}
 (rule : ∀ (i j : Int) (t u : Tok) (s : Shared) (Q : Value -> Shared -> Prop) (E : Value -> Shared -> Prop), C i j -> Q (.int (g i j) s.toks) { s with toks := s.toks + 1 } -> wpAny (model X.prog X.w) X.A (f (.int i t) (.int j u)) Q E s) :
 fB X f (rI C fun i j => .int (g i j)) := by
 intro pins s σ H x y v u Q I rx ry h
 obtain ⟨i, j, rfl, rfl, hc, q⟩ := h
 obtain ⟨t, rfl⟩ := rx
 obtain ⟨t', rfl⟩ := ry
 exact rule i j t t' s _ _ hc ⟨.int (g i j), H, I.tok _, ⟨_, rfl⟩, q⟩
theorem Qx {f : Value -> Value -> Sem Value} {g : Int -> Int -> Int}
 (rule : ∀ (i j : Int) (t u : Tok) (s : Shared) (Q : Value -> Shared -> Prop) (E : Value -> Shared -> Prop), Q (.int (g i j) s.toks) { s with toks := s.toks + 1 } -> wpAny (model X.prog X.w) X.A (f (.int i t) (.int j u)) Q E s) :
 fB X f (Ec fun i j => .int (g i j)) := by
 intro pins s σ H x y v u Q I rx ry h
 obtain ⟨i, j, rfl, rfl, q⟩ := h
 obtain ⟨t, rfl⟩ := rx
 obtain ⟨t', rfl⟩ := ry
 exact rule i j t t' s _ _ ⟨.int (g i j), H, I.tok _, ⟨_, rfl⟩, q⟩
theorem Hd {f : Value -> Value -> Sem Value} {g : Int -> Int -> Bool}
 (rule : ∀ (i j : Int) (t u : Tok) (s : Shared) (Q : Value -> Shared -> Prop) (E : Value -> Shared -> Prop), Q (.bool (g i j)) s -> wpAny (model X.prog X.w) X.A (f (.int i t) (.int j u)) Q E s) :
 fB X f (Ec fun i j => .bl (g i j)) := by
 intro pins s σ H x y v u Q I rx ry h
 obtain ⟨i, j, rfl, rfl, q⟩ := h
 obtain ⟨t, rfl⟩ := rx
 obtain ⟨t', rfl⟩ := ry
 exact rule i j t t' s _ _ ⟨.bl (g i j), H, I, rfl, q⟩
noncomputable def XC (i j : Int) : Prop := 0 <= j /\ j <= 1000000 /\ i.natAbs < 2 ^ 64
noncomputable def LK (i j : Int) : Prop := (-(2 ^ 64) < i /\ i < 2 ^ 64) \/ (-(2 ^ 64) < j /\ j < 2 ^ 64)
theorem LK.ok {i j : Int} (h : LK i j) : IntMulOk i j := by
 rcases h with ⟨h1, h2⟩ | ⟨h1, h2⟩
 . exact .of_left (intBits_le_64 h1 h2)
 . exact .of_right (intBits_le_64 h1 h2)
theorem Mp : fB X (binaryOp .Add) (Ec fun i j => .int (i + j)) := Qx fun _ _ _ _ _ _ _ q => add_int q
theorem Ms : fB X (binaryOp .Sub) (Ec fun i j => .int (i - j)) := Qx fun _ _ _ _ _ _ _ q => sub_int q
theorem Lq : fB X (binaryOp .Mult) (rI LK fun i j => .int (i * j)) := Xf fun _ _ _ _ _ _ _ hc q => mul_int q hc.ok
theorem Jy : fB X (binaryOp .Mod) (rI (fun _ j => 0 < j) fun i j => .int (i % j)) := Xf fun i j _ _ _ _ _ hc q => by
 have h1 : (0 : Int) < j := hc
 exact mod_int' (by omega) (by rw [Int.fmod_eq_emod_of_nonneg i (by omega)]; exact q)
theorem Jv : fB X (binaryOp .Pow) (rI XC fun i j => .int (i ^ j.toNat)) := Xf fun _ _ _ _ _ _ _ hc q => pow_int_small hc.1 hc.2.1 hc.2.2 q
theorem unI {f : Value -> Sem Value} {g : Int -> Int}
 (rule : ∀ (i : Int) (t : Tok) (s : Shared) (Q : Value -> Shared -> Prop) (E : Value -> Shared -> Prop), Q (.int (g i) s.toks) { s with toks := s.toks + 1 } -> wpAny (model X.prog X.w) X.A (f (.int i t)) Q E s) :
 YD X f (rU fun i => .int (g i)) := by
 intro pins s σ H x v Q I rx h
 obtain ⟨i, rfl, q⟩ := h
 obtain ⟨t, rfl⟩ := rx
 exact rule i t s _ _ ⟨.int (g i), H, I.tok _, ⟨_, rfl⟩, q⟩
theorem KY : YD X (unaryOp .USub) (rU fun i => .int (-i)) := unI fun _ _ _ _ _ q => neg_int q
end
section
variable {X : Cx} {a b c : Expr} {ta tb tc : TE} {pos : Pos}
theorem Qg : fB X (compareOp .Lt) (Ec fun i j => .bl (decide (i < j))) := Hd fun _ _ _ _ _ _ _ q => lt_int q
theorem RG : fB X (compareOp .LtE) (Ec fun i j => .bl (decide (i <= j))) := Hd fun _ _ _ _ _ _ _ q => le_int q
theorem Q6 : fB X (compareOp .Gt) (Ec fun i j => .bl (decide (j < i))) := Hd fun _ _ _ _ _ _ _ q => gt_int q
theorem RX : fB X (compareOp .GtE) (Ec fun i j => .bl (decide (j <= i))) := Hd fun _ _ _ _ _ _ _ q => ge_int q
theorem aU (b : Expr) {op : CmpOp} (h : op ≠ .In := by decide) (h2 : op ≠ .NotIn := by decide) : behindInMarks op b = false := by
 have e1 : (op == CmpOp.In) = false := by cases op <;> first | rfl | exact absurd rfl h
 have e2 : (op == CmpOp.NotIn) = false := by cases op <;> first | rfl | exact absurd rfl h2
 cases b <;> simp [behindInMarks, e1, e2]
theorem Fq {op : CmpOp} {r : R2} (ho : fB X (compareOp op) r) (ha : PE X a ta) (hb : PE X b tb) (hm : behindInMarks op b = false) : PE X (.Compare a [op] [b] pos) (M4 r ta tb) := by
 intro pins s σ H Q I h
 exact wpAny_Compare1 (JB ha hb I h fun v u s2 x y H2 I2 rx ry q => ho pins s2 σ H2 x y v u Q I2 rx ry q) hm
noncomputable def Ie (t : TE) : TT := fun σ H Q => t σ H fun x H' => ∃ k, x = .bl k /\ Q k H'
theorem Gd {op : CmpOp} {r : R2} (ho : fB X (compareOp op) r) (ha : PE X a ta) (hb : PE X b tb) (hm : behindInMarks op b = false) : PT X (.Compare a [op] [b] pos) (Ie (M4 r ta tb)) := by
 intro pins s σ H Q I h
 refine wpAny_isTrue_Compare1 (cI (ha pins s σ H _ I h) fun v s1 ⟨x, H1, I1, r1, q1⟩ => cI (hb pins s1 σ H1 _ I1 q1) fun u s2 ⟨y, H2, I2, r2, q2⟩ =>
  cI (ho pins s2 σ H2 x y v u _ I2 r1 r2 q2) fun c s3 ⟨z, H3, I3, r3, k, e, q3⟩ => ?_) hm
 subst e
 cases r3
 exact wpAny_truthy_bool ⟨H3, I3, q3⟩
noncomputable def vO (r r' : R2) (ta tb tc : TE) : TE := fun σ H Q => ta σ H fun x H1 => tb σ H1 fun y H2 => r x y H2 fun z H3 => ∃ k, z = .bl k /\
 (if k = true then tc σ H3 fun w' H4 => r' y w' H4 Q else Q (.bl false) H3)
theorem zW {op op' : CmpOp} {r r' : R2} (ho : fB X (compareOp op) r) (ho' : fB X (compareOp op') r') (ha : PE X a ta) (hb : PE X b tb) (hc : PE X c tc)
 (hm : lastMarks [op, op'] [b, c] = false := by with_unfolding_all rfl) : PE X (.Compare a [op, op'] [b, c] pos) (vO r r' ta tb tc) := by
 intro pins s σ H Q I h
 refine Compare_chain (cI (ha pins s σ H _ I h) fun v s1 ⟨x, H1, I1, r1, q1⟩ => chain_link (cI (hb pins s1 σ H1 _ I1 q1) fun u s2 ⟨y, H2, I2, r2, q2⟩ =>
  cI (ho pins s2 σ H2 x y v u _ I2 r1 r2 q2) fun d s3 ⟨z, H3, I3, r3, k, e, q3⟩ => ?_)) hm
 subst e
 cases r3
 refine wpAny_truthy_bool ?_
 cases k with
 | false => exact ite_ff ⟨.bl false, H3, I3, rfl, q3⟩
 | true => exact ite_tt (chain_last (cI (hc pins s3 σ H3 _ I3 q3) fun w' s4 ⟨z', H4, I4, r4, q4⟩ => ho' pins s4 σ H4 y z' u w' Q I4 r2 r4 q4))
theorem Dg {op op' : CmpOp} {r r' : R2} (ho : fB X (compareOp op) r) (ho' : fB X (compareOp op') r') (ha : PE X a ta) (hb : PE X b tb) (hc : PE X c tc)
 (hm : lastMarks [op, op'] [b, c] = false := by with_unfolding_all rfl) : PT X (.Compare a [op, op'] [b, c] pos) (Ie (vO r r' ta tb tc)) := by
 intro pins s σ H Q I h
 refine isTrue_chain (cI (ha pins s σ H _ I h) fun v s1 ⟨x, H1, I1, r1, q1⟩ => test_link (cI (hb pins s1 σ H1 _ I1 q1) fun u s2 ⟨y, H2, I2, r2, q2⟩ =>
  cI (ho pins s2 σ H2 x y v u _ I2 r1 r2 q2) fun d s3 ⟨z, H3, I3, r3, k, e, q3⟩ => ?_)) hm
 subst e
 cases r3
 refine wpAny_truthy_bool ?_
 cases k with
 | false =>
   obtain ⟨k', e', q'⟩ := q3
   cases e'
   exact ite_ff ⟨H3, I3, q'⟩
 | true =>
   refine ite_tt (test_last (cI (hc pins s3 σ H3 _ I3 q3) fun w' s4 ⟨z', H4, I4, r4, q4⟩ => cI (ho' pins s4 σ H4 y z' u w' _ I4 r2 r4 q4) fun d' s5 ⟨z2, H5, I5, r5, k2, e2, q5⟩ => ?_))
   subst e2
   cases r5
   exact wpAny_truthy_bool ⟨H5, I5, q5⟩
theorem rQ : (sizeLine : Nat) < 2 ^ 63 := by rw [sizeLine_eq]; decide
theorem vd : fB X (binaryOp .Add) (fun x y H Q => ∃ i j, x = .str i /\ y = .str j /\ i.length + j.length <= sizeLine /\ Q (.str (i ++ j)) H) := by
 intro pins s σ H x y v u Q I rx ry h
 obtain ⟨i, j, rfl, rfl, hz, q⟩ := h
 obtain ⟨t, rfl⟩ := rx
 obtain ⟨t', rfl⟩ := ry
 exact add_str (fun t' tk => ⟨.str (i ++ j), H, I.tok _, ⟨_, rfl⟩, q⟩) hz
theorem vals1 {x : V} {us : List Value} (r : Vals [x] us) : ∃ u, us = [u] /\ RelV x u := by
 cases r with
 | cons r1 r2 => cases r2; exact ⟨_, rfl, r1⟩
theorem vals2 {x y : V} {us : List Value} (r : Vals [x, y] us) : ∃ u w', us = [u, w'] /\ RelV x u /\ RelV y w' := by
 cases r with
 | cons r1 r2 =>
   cases r2 with
   | cons r3 r4 => cases r4; exact ⟨_, _, rfl, r1, r3⟩
theorem yQ (hc : X.calm = true) : dq X (.builtin "max") (fun xs H Q => ∃ i j, xs = [.int i, .int j] /\ Q (.int (if j > i then j else i)) H) := by
 intro pins s σ H xs us Q I r h
 obtain ⟨i, j, rfl, q⟩ := h
 obtain ⟨u, w', rfl, ⟨t, rfl⟩, ⟨t', rfl⟩⟩ := vals2 r
 refine max_two_ints (I.ok.hd hc) fun h' tk k => ⟨_, H, I.kept k, ?_, q⟩
 by_cases hj : j > i
 . rw [if_pos hj, if_pos hj]; exact ⟨_, rfl⟩
 . rw [if_neg hj, if_neg hj]; exact ⟨_, rfl⟩
theorem yS (hc : X.calm = true) : dq X (.builtin "min") (fun xs H Q => ∃ i j, xs = [.int i, .int j] /\ Q (.int (if j < i then j else i)) H) := by
 intro pins s σ H xs us Q I r h
 obtain ⟨i, j, rfl, q⟩ := h
 obtain ⟨u, w', rfl, ⟨t, rfl⟩, ⟨t', rfl⟩⟩ := vals2 r
 refine min_two_ints (I.ok.hd hc) fun h' tk k => ⟨_, H, I.kept k, ?_, q⟩
 by_cases hj : j < i
 . rw [if_pos hj, if_pos hj]; exact ⟨_, rfl⟩
 . rw [if_neg hj, if_neg hj]; exact ⟨_, rfl⟩
theorem qt : dq X (.type "int") (fun xs H Q => (∃ i, xs = [.int i] /\ Q (.int i) H) \/ ∃ k, xs = [.bl k] /\ Q (.int (if k then 1 else 0)) H) := by
 intro pins s σ H xs us Q I r h
 rcases h with ⟨i, rfl, q⟩ | ⟨k, rfl, q⟩
 . obtain ⟨u, rfl, t, rfl⟩ := vals1 r
   exact call_int_int ⟨.int i, H, I, ⟨_, rfl⟩, q⟩
 . obtain ⟨u, rfl, r1⟩ := vals1 r
   cases r1
   exact call_int_bool ⟨.int (if k then 1 else 0), H, I.tok _, ⟨_, rfl⟩, q⟩
end
end L2
namespace L2
open PySem PySem.Spec PyProof.Rows
theorem lZ.some_of {v : V} {o : Option Value} (r : lZ (some v) o) : ∃ u, o = some u /\ RelV v u := by
 cases o with
 | none => exact (show False from r).elim
 | some u => exact ⟨u, rfl, r⟩
end L2
namespace L2
open PySem PySem.Spec PyProof.Rows
structure iB (k : Nat) (A : Around) : Prop where
 hd : A.handled = none
 dp : A.depth + 3 * k + 5 < recursionLimit
 un : A.units + 16 * k + 200 < cLine
theorem iB.deeper {k : Nat} {A : Around} (r : iB (k + 1) A) (env : Env) : iB k (A.deeper env) :=
 ⟨r.hd, by have := r.dp; show A.depth + 1 + 3 * k + 5 < _; omega, by have := r.un; show A.units + 3 + 16 * k + 200 < _; omega⟩
theorem iB.depth {k : Nat} {A : Around} (r : iB k A) : A.depth < recursionLimit := by have := r.dp; omega
noncomputable def V8 : TA := fun _ H Q => Q [] H
noncomputable def Py (ta : TE) (tr : TA) : TA := fun σ H Q => ta σ H fun x H1 => tr σ H1 fun xs H2 => Q (x :: xs) H2
section
variable {X : Cx} {e : Expr} {es : List Expr} {te : TE} {t : TA} {pos : Pos}
theorem jn : PA X [] V8 := fun _ _ _ _ H Q I h => Calls.spliced_nil ⟨[], H, I, .nil, h⟩
theorem eN (ha : PE X e te) (hr : PA X es t) (hs : starEach (e :: es) X.env = (false, eval e X.env) :: starEach es X.env := by rfl) : PA X (e :: es) (Py te t) := by
 intro pos pins s σ H Q I h
 rw [hs]
 show wpAny _ _ (spliced ((false, eval e X.env) :: backTo pos (starEach es X.env))) _ _ s
 refine Calls.spliced_cons (cI (ha pins s σ H _ I h) fun u s1 ⟨x, H1, I1, r1, q1⟩ => ?_)
 exact cI (hr pos pins s1 σ H1 _ I1 q1) fun us s2 ⟨xs, H2, I2, r2, q2⟩ => ⟨x :: xs, H2, I2, .cons r1 r2, q2⟩
noncomputable def V2 (t : TA) : TE := fun σ H Q => t σ H fun xs H1 => xs.length <= sizeLine /\ ∀ p, H1 p = none -> Q (.ref p) (upd H1 p (.tup xs))
noncomputable def WM (t : TA) : TE := fun σ H Q => t σ H fun xs H1 => xs.length <= sizeLine /\ ∀ p, H1 p = none -> Q (.ref p) (upd H1 p (.lst xs))
theorem rE {x1} (h : PA X es t) : PE X (.Tuple es x1 pos) (V2 t) := by
 intro pins s σ H Q I hq
 refine wpAny_Tuple_spliced (cI (h pos pins s σ H _ I hq) fun us s1 ⟨xs, H1, I1, r, z, q⟩ => ⟨by rw [<- r.length]; exact z, ?_⟩)
 have hf : H1 s1.heap.objs.size = none := I1.hok.fresh (Nat.le_refl _)
 refine ⟨.ref s1.heap.objs.size, upd H1 s1.heap.objs.size (.tup xs), I1.laid (t' := s1.toks) (fun b u e => Heap.get?_push_of_some _ e) (Nat.le_refl _) ?_, rfl, q _ hf⟩
 exact ⟨z, us, r, ⟨_, Heap.get?_push_size _ rfl, rfl, _, rfl⟩⟩
theorem Js (h : PA X es t) : PE X (.List es pos) (WM t) := by
 intro pins s σ H Q I hq
 refine wpAny_List_spliced (cI (h pos pins s σ H _ I hq) fun us s1 ⟨xs, H1, I1, r, z, q⟩ => ⟨by rw [<- r.length]; exact z, ?_⟩)
 have hf : H1 s1.heap.objs.size = none := I1.hok.fresh (Nat.le_refl _)
 refine ⟨.ref s1.heap.objs.size, upd H1 s1.heap.objs.size (.lst xs), I1.laid (t' := s1.toks) (fun b u e => Heap.get?_push_of_some _ e) (Nat.le_refl _) ?_, rfl, q _ hf⟩
 exact ⟨z, us, 0, r, Heap.get?_push_size _ rfl⟩
end
noncomputable abbrev Sp := List V -> Hp -> VK -> XK -> Prop
noncomputable abbrev Ad := List Env -> Hp -> Shared -> XK -> Value -> Shared -> Prop
structure Gy (P : Program) (w : World) (K : PySem.W.Frag) (mg : Str -> Option Value) (base : Heap) (A : Around) (outer : List Env) (s : Shared) (H : Hp) : Prop where
 frames : A.frames = some outer
 mod : Mod K mg base
 bs : ∀ b o, base.get? b = some o -> s.heap.get? b = some o /\ H b = none
 IV : base.objs.size <= s.heap.objs.size
 nQ : s.heap.FunFrames base outer
 Pa : ∀ b ∈ frs outer, H b = none
 hok : j7 P w H s.heap
 bare : AllBare s.gens
noncomputable def CE (outer : List Env) (P : Program) (w : World) (H : Hp) (s : Shared) (Q : VK) (u : Value) (s' : Shared) : Prop :=
 ∃ v H', s'.os = s.os /\ AllBare s'.gens /\ Un (frs outer) [] H H' s.heap s'.heap /\ j7 P w H' s'.heap /\ RelV v u /\ Q v H'
noncomputable def CR (CX : Ad) (outer : List Env) (P : Program) (w : World) (H : Hp) (s : Shared) (Q : VK) (E : XK) (r : Result) (s' : Shared) : Prop :=
 match r with
 | .ok (.ret u) => CE outer P w H s Q u s'
 | .ok _ => False
 | .error e => CX outer H s E e s'
structure cj (P : Program) (w : World) (K : PySem.W.Frag) (mg : Str -> Option Value) (base : Heap) (CX : Ad) (k : Nat) (f : Addr) (fd : FuncData) (ps : List Str) (sp : Sp) : Prop where
 len : ∀ vs H Q E, sp vs H Q E -> vs.length = ps.length
 run : ∀ (A : Around) (outer : List Env) (s : Shared) (H : Hp) (args : Args) (us : List Value) (vs : List V) (Q : VK) (E : XK), iB k A -> Gy P w K mg base A outer s H -> BindsTo s fd args (ps.zip us) -> Vals vs us -> sp vs H Q E ->
  codeAny (model P w) A (.call (.ref f) args) (CR CX outer P w H s Q E) s
section
variable {X : Cx} {pins : List (Addr × Obj)} {σ : St} {H : Hp} {s s' : Shared}
theorem Inv.env0 (I : Inv X pins σ H s) : Gy X.prog X.w X.K X.mg X.base X.A X.stack s H :=
 ⟨I.ok.frames, I.ok.mod, I.bs, Nat.le_trans I.ok.IV I.sz, I.stack, I.xQ, I.hok, I.bare⟩
theorem Inv.after {Q : VK} {u : Value} (I : Inv X pins σ H s) (h : CE X.stack X.prog X.w H s Q u s') : EP X pins σ Q u s' := by
 obtain ⟨v, H', os, bare, un, hok, r, q⟩ := h
 obtain ⟨hh, g, d, t, os'⟩ := s'
 obtain rfl : os' = s.os := os
 exact ⟨v, H', I.call (h' := hh) (g' := g) (d' := d) (t' := t) (ch := []) un hok bare (fun b z => absurd z (by simp)), r, q⟩
end
noncomputable def Q3 (sp : Sp) (Jb : List V) (E : XK) (t : TA) : TE := fun σ H Q => t σ H fun vs H1 => sp (vs ++ Jb) H1 Q E
noncomputable def Binds (K : PySem.W.Frag) (fd : FuncData) (ps : List Str) (ds : List Value) : Prop :=
 ∀ (s : Shared) (us : List Value), K.In s.heap -> (us ++ ds).length = ps.length -> BindsTo s fd ⟨us, []⟩ (ps.zip (us ++ ds))
theorem Binds.all {K : PySem.W.Frag} {fd : FuncData} {ps : List Str} (h : ∀ us : List Value, us.length = ps.length -> bindArgs fd ⟨us, []⟩ = pure (ps.zip us)) : Binds K fd ps [] := fun s us _ hl => by
 rw [List.append_nil] at hl ⊢
 exact .of_eq (h us hl)
noncomputable def Passes (CX : Ad) (X : Cx) (E : XK) : Prop := ∀ (pins : List (Addr × Obj)) (σ : St) (H : Hp) (s : Shared) (e : Value) (s' : Shared), Inv X pins σ H s -> CX X.stack H s E e s' -> X.xe e s'
section
variable {X : Cx} {CX : Ad} {k : Nat} {f C : Addr} {fd : FuncData} {ps : List Str} {sp : Sp} {Jb : List V} {ds : List Value} {E : XK} {x m : Str} {p pos apos : Pos} {e o : Expr} {es : List Expr} {ta : TE} {t : TA}
theorem KD {pins : List (Addr × Obj)} {σ : St} {H : Hp} {s : Shared} {Q : VK} {us : List Value} {vs : List V} (F : cj X.prog X.w X.K X.mg X.base CX k f fd ps sp) (hr : iB k X.A) (hb : Binds X.K fd ps ds) (hd : Vals Jb ds) (hx : Passes CX X E)
 (I : Inv X pins σ H s) (r : Vals vs us) (h : sp (vs ++ Jb) H Q E) : wpAny (model X.prog X.w) X.A (call (.ref f) us) (EP X pins σ Q) X.xe s := by
 have r2 : Vals (vs ++ Jb) (us ++ ds) := r.append hd
 have hl : (us ++ ds).length = ps.length := by rw [<- r2.length]; exact F.len _ _ _ _ h
 refine wpAny_call (codeAny_mono (F.run X.A X.stack s H ⟨us, []⟩ (us ++ ds) (vs ++ Jb) Q E hr I.env0 (hb s us I.M6 hl) r2 h) fun r s' hq => ?_)
 cases r with
 | error e => exact hx pins σ H s e s' I hq
 | ok fl =>
   cases fl with
   | ret u => exact I.after hq
   | next => exact False.elim hq
   | brk => exact False.elim hq
   | cont => exact False.elim hq
theorem Gi (F : cj X.prog X.w X.K X.mg X.base CX k f fd ps sp) (hr : iB k X.A) (hg : Gl X x) (hm : X.mg x = some (.ref f)) (hk : PySem.W.keepIn X.K (.ref f) = true) (hb : Binds X.K fd ps ds) (hd : Vals Jb ds) (hx : Passes CX X E)
 (ha : PA X (e :: es) t) (hdb : (x == ("__debug__" : Str)) = false := by decide) (he : starEach (e :: es) X.env = (false, eval e X.env) :: starEach es X.env := by rfl) (hpl : (backTo pos (starEach es X.env)).any (·.1) = false := by rfl) :
 PE X (.Call (.Name x p) (e :: es) [] pos) (Q3 sp Jb E t) := by
 intro pins s σ H Q I h
 refine wpAny_Call_Name_kw (Fw I hg hm ?_ hdb)
 refine PySem.W.callWith_K (h₀ := X.base) I.ok.mod.YK hk (cI (ha pos pins s σ H _ I h) fun us s1 ⟨vs, H1, I1, r, q⟩ => ⟨I1.M6, ?_⟩) he hpl
 exact KD F hr hb hd hx I1 r q
end
structure aO (N P : List Str) (sc : Scope) : Prop where
 kind : sc.kind = .function
 co : sc.isCoroutine = false
 gen : sc.isGenerator = false
 nd : N.Nodup
 pre : N.take P.length = P
 par : ∀ x ∈ P, sc.names.lookup x = some .local \/ sc.names.lookup x = some .cell
 Mx : ∀ y ∈ sc.names, y.2 ≠ .free
theorem pW {kindOf : Str -> Option NameKind} {x : Str} : ∀ {binds : List (Str × Value)} {m : Str -> Option Value}, (∀ v, (x, v) ∉ binds) -> bindL kindOf binds m x = m x
 | [], _, _ => rfl
 | (n, v) :: r, m, h => by
   unfold bindL
   rw [pW fun w hw => h w (List.mem_cons_of_mem _ hw)]
   split
   . have : x ≠ n := by rintro rfl; exact h v List.mem_cons_self
     simp [this]
   . rfl
theorem pY {kindOf : Str -> Option NameKind} {x : Str} : ∀ {binds : List (Str × Value)} {m : Str -> Option Value}, (∀ v, (x, v) ∉ binds) -> bindC kindOf binds m x = m x
 | [], _, _ => rfl
 | (n, v) :: r, m, h => by
   unfold bindC
   rw [pY fun w hw => h w (List.mem_cons_of_mem _ hw)]
   split
   . rfl
   . have : x ≠ n := by rintro rfl; exact h v List.mem_cons_self
     simp [this]
theorem pM {kindOf : Str -> Option NameKind} {x : Str} {v : Value} : ∀ {P : List Str} {vs : List Value} {i : Nat} {m : Str -> Option Value}, P.Nodup -> P[i]? = some x -> vs[i]? = some v -> kindOf x = some .local ->
 bindL kindOf (P.zip vs) m x = some v
 | [], _, _, _, _, h, _, _ => by simp at h
 | _ :: _, [], _, _, _, _, h, _ => by simp at h
 | p :: P, w :: vs, 0, m, nd, h1, h2, hk => by
   simp at h1 h2; subst h1; subst h2
   show bindL kindOf ((p, w) :: P.zip vs) m p = _
   unfold bindL
   rw [pW fun v hv => (List.nodup_cons.mp nd).1 (List.of_mem_zip hv).1, if_pos hk]
   simp
 | p :: P, w :: vs, i + 1, m, nd, h1, h2, hk => by
   show bindL kindOf ((p, w) :: P.zip vs) m x = _
   unfold bindL
   exact pM (i := i) (List.nodup_cons.mp nd).2 (by simpa using h1) (by simpa using h2) hk
theorem qu {kindOf : Str -> Option NameKind} {x : Str} {v : Value} : ∀ {P : List Str} {vs : List Value} {i : Nat} {m : Str -> Option Value}, P.Nodup -> P[i]? = some x -> vs[i]? = some v -> kindOf x ≠ some .local ->
 bindC kindOf (P.zip vs) m x = some v
 | [], _, _, _, _, h, _, _ => by simp at h
 | _ :: _, [], _, _, _, _, h, _ => by simp at h
 | p :: P, w :: vs, 0, m, nd, h1, h2, hk => by
   simp at h1 h2; subst h1; subst h2
   show bindC kindOf ((p, w) :: P.zip vs) m p = _
   unfold bindC
   rw [pY fun v hv => (List.nodup_cons.mp nd).1 (List.of_mem_zip hv).1, if_neg hk]
   simp
 | p :: P, w :: vs, i + 1, m, nd, h1, h2, hk => by
   show bindC kindOf ((p, w) :: P.zip vs) m x = _
   unfold bindC
   exact qu (i := i) (List.nodup_cons.mp nd).2 (by simpa using h1) (by simpa using h2) hk
noncomputable def start (N : List Str) (vs : List V) : St := vs.map some ++ List.replicate (N.length - vs.length) none
noncomputable def wz (CX : Ad) (P : Program) (w : World) (K : PySem.W.Frag) (mg : Str -> Option Value) (base : Heap) (N : List Str) (qual : Str) (scope : Scope) (f : Addr) (cd : Value) (A : Around) (outer : List Env) (s : Shared) (H : Hp) (E : XK) : Cx where
 prog := P
 w := w
 K := K
 mg := mg
 base := base
 A := A.deeper (envOfC qual scope s.heap.objs.size f cd)
 N := N
 s₀ := s
 H₀ := H
 env := envOfC qual scope s.heap.objs.size f cd
 outer := outer
 stack := envOfC qual scope s.heap.objs.size f cd :: outer
 ex := []
 calm := true
 fn := fun _ => true
 pn := []
 xe := fun e s' => wpAny (model P w) (A.deeper (envOfC qual scope s.heap.objs.size f cd)) (leaving (envOfC qual scope s.heap.objs.size f cd) e) (fun _ s'' => CX outer H s E e s'') (fun e' s'' => CX outer H s E e' s'') s'
theorem tu {sc : Scope} {n : Nat} {x : Str} (h : sc.names.lookup x = some .cell) : ∃ c, (cellsFrom n sc.names []).lookup x = some c := by
 have q := PySem.W.cellsFrom_some sc.names n [] (.inl h)
 exact Option.isSome_iff_exists.mp q
theorem yD {CX : Ad} {P : Program} {w : World} {K : PySem.W.Frag} {mg : Str -> Option Value} {base : Heap} {N ps : List Str} {qual : Str} {scope : Scope} {f : Addr} {cd : Value} {A : Around} {outer : List Env} {s s1 : Shared} {H : Hp} {E : XK} {us : List Value} {vs : List V}
 (S : aO N ps scope) (hd : A.handled = none) (e0 : Gy P w K mg base A outer s H) (hl : vs.length = ps.length) (r : Vals vs us)
 (x : InCallC s s.heap.objs.size (bindL (envOfC qual scope s.heap.objs.size f cd).kindOf (ps.zip us) fun _ => none) (cellsFrom (s.heap.objs.size + 1) scope.names []) (bindC (envOfC qual scope s.heap.objs.size f cd).kindOf (ps.zip us) fun _ => none) s1) :
 Inv (wz CX P w K mg base N qual scope f cd A outer s H E) [] (start N vs) H s1 := by
 have hpl : ps.length <= N.length := by have := congrArg List.length S.pre; rw [List.length_take] at this; omega
 obtain ⟨h1, tk, rfl, hk⟩ := x.done
 have S6 : ∀ b : Addr, b ∉ (wz CX P w K mg base N qual scope f cd A outer s H E).ex := fun b z => absurd (show b ∈ ([] : List Addr) from z) (by simp)
 refine ⟨⟨e0.mod, S.kind, rfl, rfl, Nat.le_refl _, fun y z c h1 h2 => ?_, fun y hy => ?_, fun y c _ h => ?_, fun _ => hd, Around.frames_deeper e0.frames, .inr ⟨rfl, rfl⟩, fun b z => absurd z (S6 b), e0.bs, e0.IV, fun b _ _ => S6 b, fun b z => absurd z (S6 b), e0.nQ, e0.Pa⟩,
  rfl, e0.bare, Un.kept hk, ⟨_, x.toInCall.ns, fun i y v h1 h2 h3 => ?_⟩, fun y c h => ⟨_, x.cell y c h⟩, e0.hok.fresh (Nat.le_refl _), fun y c h => ?_, fun p hp => absurd (show p ∈ ([] : List (Addr × Obj)) from hp) (by simp), e0.hok.kept hk, ?_⟩
 . exact name_of_addr x.apart (PySem.mem_of_lookup h1) (PySem.mem_of_lookup h2)
 . have hy : scope.names.lookup y = some .cell \/ scope.names.lookup y = some .free := hy
   rcases hy with hy | hy
   . exact tu hy
   . exact absurd rfl (S.Mx _ (PySem.mem_of_lookup hy))
 . exact Nat.le_of_lt (x.above y c (PySem.mem_of_lookup h))
 . have hi : i < vs.length := by
    unfold start at h2
    by_cases hi : i < vs.length
    . exact hi
    . rw [List.getElem?_append_right (by simpa using hi)] at h2
      rw [List.getElem?_replicate] at h2
      split at h2 <;> cases h2
   have ha : vs[i]? = some v := by
    unfold start at h2
    rw [List.getElem?_append_left (by simpa using hi), List.getElem?_map] at h2
    cases e : vs[i]? with
    | none => rw [e] at h2; cases h2
    | some a => rw [e] at h2; cases h2; rfl
   obtain ⟨u, hu, rv⟩ := r.get ha
   have hp : ps[i]? = some y := by
    rw [<- S.pre, List.getElem?_take_of_lt (by omega)]; exact h1
   have ndP : ps.Nodup := by rw [<- S.pre]; exact S.nd.sublist (List.take_sublist _ _)
   refine ⟨u, rv, ?_⟩
   rcases S.par y (List.mem_of_getElem? hp) with k | k
   . exact .inl ⟨k, pM ndP hp hu k⟩
   . obtain ⟨c, e⟩ := tu (n := s.heap.objs.size + 1) k
     refine .inr ⟨.inl k, c, e, ?_⟩
     have q := x.cell y c e
     rw [qu ndP hp hu (by show scope.names.lookup y ≠ _; rw [k]; decide)] at q
     exact q
 . exact e0.hok.fresh (Nat.le_of_lt (x.above y c (PySem.mem_of_lookup h)))
 . unfold start
   show _ = N.length
   rw [List.length_append, List.length_map, List.length_replicate]
   omega
theorem SN {CX : Ad} {P : Program} {w : World} {K : PySem.W.Frag} {mg : Str -> Option Value} {base : Heap} {k : Nat} {f : Addr} {name qual : Str} {params : Arguments} {body : List Stmt} {scope : Scope} {dV kV doc pm cdv ct oc : Value} {an od : Option Addr}
 {osl : Array (Option Value)} {N ps : List Str} {sp : Sp} (lk : K.lookup f = some ⟨oc, od, .func (PySem.W.fnOf name qual params body scope dV kV doc pm an cdv ct), osl⟩) (hcd : PySem.W.codeIn K cdv qual = true) (S : aO N ps scope)
 (len : ∀ vs H Q E, sp vs H Q E -> vs.length = ps.length)
 (hbody : ∀ (A : Around) (outer : List Env) (s : Shared) (H : Hp) (vs : List V) (Q : VK) (E : XK), iB k (A.deeper (envOfC qual scope s.heap.objs.size f cdv)) -> sp vs H Q E ->
  ∃ t, xK (wz CX P w K mg base N qual scope f cdv A outer s H E) body t /\ t { nx := fun _ H' => Q .non H', rt := Q } (start N vs) H) :
 cj P w K mg base CX (k + 1) f (PySem.W.fnOf name qual params body scope dV kV doc pm an cdv ct) ps sp := by
 refine ⟨len, fun A outer s H args us vs Q E hr e0 hb r hsp => ?_⟩
 have hl := len _ _ _ _ hsp
 have KX : K.In s.heap := e0.mod.YK.keeps fun b o e => (e0.bs b o e).1
 have lim : s.heap.NoLimit := e0.mod.nolimit.keeps fun b o e => (e0.bs b o e).1
 have hkind : ∀ y ∈ ps.zip us, scope.names.lookup y.1 = some .local \/ (scope.names.lookup y.1 = some .cell /\ ((cellsFrom (s.heap.objs.size + 1) scope.names []).lookup y.1).isSome = true) := fun ⟨n, v⟩ hy => by
  rcases S.par n (List.of_mem_zip hy).1 with q | q
  . exact .inl q
  . exact .inr ⟨q, PySem.W.cellsFrom_some _ _ _ (.inl q)⟩
 refine codeAny_call_function hr.depth (KX _ _ lk) rfl S.co S.gen rfl (PySem.W.codeRec_of KX hcd) (hb _ _ _ _ ?_)
 refine wpAny_newFunctionEnv_cells S.kind hkind fun env he s1 x => ?_
 subst he
 refine ⟨lim.keeps x.toInCall.keep, codeAny_func ?_⟩
 obtain ⟨t, ht, hq⟩ := hbody A outer s H vs Q E (hr.deeper _) hsp
 have I : Inv (wz CX P w K mg base N qual scope f cdv A outer s H E) [] (start N vs) H s1 := yD S hr.hd e0 hl r x
 refine wpAny_mono (ht [] s1 (start N vs) H _ I hq) (fun fl s' hs => ?_) fun e s' hs => hs
 have fin : ∀ {σ' : St} {H' : Hp} {v : V} {u : Value}, Inv (wz CX P w K mg base N qual scope f cdv A outer s H E) [] σ' H' s' -> RelV v u -> Q v H' -> CE outer P w H s Q u s' :=
  fun {σ' H' v u} J rv q => ⟨v, H', J.os, J.bare, J.base, J.hok, rv, q⟩
 cases fl with
 | ret u =>
   obtain ⟨v, σ', H', J, rv, q⟩ := hs
   exact fin J rv q
 | next =>
   obtain ⟨σ', H', J, q⟩ := hs
   exact fin (v := V.non) (u := Value.none) J rfl q
 | brk =>
   obtain ⟨_, _, _, q⟩ := hs
   exact False.elim q
 | cont =>
   obtain ⟨_, _, _, q⟩ := hs
   exact False.elim q
end L2
namespace L2
open PySem PySem.Spec PyProof.Rows
section
variable {X : Cx} {x : Str} {p pos : Pos} {e : Expr} {es : List Expr} {t : TA} {id T : String} {r : List V -> Hp -> VK -> Prop}
noncomputable def Uh (r : List V -> Hp -> VK -> Prop) (t : TA) : TE := fun σ H Q => t σ H fun vs H1 => r vs H1 Q
theorem eY (hc : dq X (.builtin id) r) (hg : Gl X x) (hm : X.mg x = none) (hv : bootBuiltins x = some (.builtin id)) (ha : PA X (e :: es) t) (hn : x ≠ "__name__" := by decide) (hdb : (x == ("__debug__" : Str)) = false := by decide)
 (he : starEach (e :: es) X.env = (false, eval e X.env) :: starEach es X.env := by rfl) (hpl : (backTo pos (starEach es X.env)).any (·.1) = false := by rfl) : PE X (.Call (.Name x p) (e :: es) [] pos) (Uh r t) := by
 intro pins s σ H Q I h
 refine wpAny_Call_Name_kw (nD I hg hm hv ?_ hn hdb)
 exact PyProof.Rows.callWith_builtin1 (cI (ha pos pins s σ H _ I h) fun us s1 ⟨vs, H1, I1, r1, q1⟩ => hc pins s1 σ H1 vs us Q I1 r1 q1) he hpl
theorem j8 (hc : dq X (.type T) r) (hg : Gl X x) (hm : X.mg x = none) (hv : bootBuiltins x = some (.type T)) (ha : PA X (e :: es) t) (hn : x ≠ "__name__" := by decide) (hdb : (x == ("__debug__" : Str)) = false := by decide)
 (he : starEach (e :: es) X.env = (false, eval e X.env) :: starEach es X.env := by rfl) (hpl : (backTo pos (starEach es X.env)).any (·.1) = false := by rfl) : PE X (.Call (.Name x p) (e :: es) [] pos) (Uh r t) := by
 intro pins s σ H Q I h
 refine wpAny_Call_Name_kw (nD I hg hm hv ?_ hn hdb)
 exact PyProof.Rows.callWith_type1 (cI (ha pos pins s σ H _ I h) fun us s1 ⟨vs, H1, I1, r1, q1⟩ => hc pins s1 σ H1 vs us Q I1 r1 q1) he hpl
end
end L2
namespace HT
open PySem PyProof.Rows
section
variable {prog : Program} {w : World} {A : Around} {E : Value -> Shared -> Prop} {s : Shared}
theorem EY {t b : Addr} {vs ws : List Value} {Q : Value -> Shared -> Prop} (ht : IsTup s.heap t vs.toArray) (hb : IsTup s.heap b ws.toArray) (hv : vs ≠ [])
 (h1 : ws = [] -> Q (.ref t) s) (h2 : ws ≠ [] -> Q (.ref s.heap.objs.size) { s with heap := s.heap.push { cls := .type "tuple", data := .seq (vs ++ ws).toArray } })
 (hsz : vs.length + ws.length <= sizeLine) : wpAny (model prog w) A (binaryOp .Add (.ref t) (.ref b)) Q E s := by
 obtain ⟨⟨cls, dd, data, sl⟩, ho, hc, n, hd⟩ := id ht
 obtain ⟨⟨cls2, dd2, data2, sl2⟩, ho2, hc2, n2, hd2⟩ := id hb
 simp only at hc hd hc2 hd2
 subst hc hd hc2 hd2
 have e : vs.toArray ++ ws.toArray = (vs ++ ws).toArray := by simp
 by_cases hw : ws = []
 . exact concat_meets ⟨_, ho, rfl⟩ ⟨_, ho2, rfl⟩ noFill_tuple_add seq_tuple_add PySem.F.slot_tuple_add PySem.F.entry_tuple_add (PySem.F.args_tuple_add_2 _ _)
    (tuple_addW1 t b vs.toArray ws.toArray n n2 dd dd2 sl sl2 (by simpa using hv) (by simp [hw])) ⟨ho, ho2, h1 hw⟩
 . refine concat_meets ⟨_, ho, rfl⟩ ⟨_, ho2, rfl⟩ noFill_tuple_add seq_tuple_add PySem.F.slot_tuple_add PySem.F.entry_tuple_add (PySem.F.args_tuple_add_2 _ _)
    (tuple_addW2 t b vs.toArray ws.toArray n n2 dd dd2 sl sl2 (by simpa using hv) (by simpa using hw) (by rw [List.size_toArray, List.size_toArray]; exact hsz)) ⟨ho, ho2, ?_⟩
   rw [e]
   exact h2 hw
noncomputable def cN (n d : Nat) : Option Int -> Nat
 | none => d
 | some v => if v < 0 then (v + (n : Int)).toNat else min v.toNat n
theorem JW (n d : Nat) (hd : d <= n) (o : Option Int) : cN n d o <= n := by
 cases o with
 | none => exact hd
 | some v =>
   show (if v < 0 then (v + (n : Int)).toNat else min v.toNat n) <= n
   by_cases hv : v < 0
   . rw [if_pos hv]; omega
   . rw [if_neg hv]; exact Nat.min_le_right _ _
theorem wY (v : Int) (n d : Nat) : (if v < 0 then max (v + (n : Int)) 0 else min v (n : Int)) = ((cN n d (some v) : Nat) : Int) := by
 show (if v < 0 then max (v + (n : Int)) 0 else min v (n : Int)) = (((if v < 0 then (v + (n : Int)).toNat else min v.toNat n) : Nat) : Int)
 by_cases hv : v < 0
 . simp only [if_pos hv]; omega
 . simp only [if_neg hv]; omega
theorem wg (lo hi : Option Int) (n : Nat) : Builtin.Slice.sliceAdjust lo hi 1 (n : Int) = (((cN n 0 lo : Nat) : Int), ((cN n n hi : Nat) : Int)) := by
 have h1 : ¬ ((1 : Int) < 0) := by omega
 unfold Builtin.Slice.sliceAdjust
 simp only [h1, if_false]
 refine Prod.ext ?_ ?_
 . cases lo with
   | none => rfl
   | some v => exact wY v n 0
 . cases hi with
   | none => rfl
   | some v => exact wY v n n
theorem vY (i j : Nat) : Builtin.Slice.slicePlaces (i : Int) (j : Int) 1 = j - i := by
 unfold Builtin.Slice.slicePlaces
 have h1 : (1 : Int) > 0 := by omega
 simp only [h1, if_true, Int.ediv_one]
 split <;> omega
theorem oU {v : Value} {o : Option Int} {Q : Option Int -> Shared -> Prop} (p : IsPart v o) (h : Q o s) : wpAny (model prog w) A (Builtin.Slice.slicePartIndex v) Q E s := by
 cases p with
 | none => exact slicePart_none h
 | int i t => exact slicePart_int h
theorem gC {sl : Addr} {vl vu : Value} {lo hi : Option Int} {n : Nat} {Q : Int × Int × Nat -> Shared -> Prop} (hs : s.heap.IsSliceOf sl vl vu .none) (pl : IsPart vl lo) (pu : IsPart vu hi)
 (h : Q (((cN n 0 lo : Nat) : Int), 1, cN n n hi - cN n 0 lo) s) : wpAny (model prog w) A (Builtin.Slice.sliceApplied (.ref sl) (pure (n : Int))) Q E s := by
 obtain ⟨os, hos, hcs, hds⟩ := id hs
 unfold Builtin.Slice.sliceApplied Builtin.Slice.sliceFields
 refine wpAny_bind (wpAny_bind (wpAny_field hos hds (x := vl) rfl (wpAny_bind (wpAny_field hos hds (x := vu) rfl (wpAny_bind (wpAny_field hos hds (x := .none) rfl (wpAny_pure ?_)))))))
 refine wpAny_bind (slicePart_none ?_)
 show wpAny _ _ (if ((1 : Int) == 0) = true then _ else _) _ _ s
 rw [if_neg (by decide)]
 refine wpAny_bind (oU pl (wpAny_bind (oU pu (wpAny_bind (wpAny_pure ?_)))))
 show wpAny _ _ (match Builtin.Slice.sliceAdjust lo hi 1 (n : Int) with | (lo, hi) => pure (lo, (1 : Int), Builtin.Slice.slicePlaces lo hi 1)) _ _ s
 rw [wg lo hi n]
 show wpAny _ _ (pure (((cN n 0 lo : Nat) : Int), (1 : Int), Builtin.Slice.slicePlaces ((cN n 0 lo : Nat) : Int) ((cN n n hi : Nat) : Int) 1)) _ _ s
 rw [vY]
 exact wpAny_pure h
theorem zT (xs : Array Value) (i k : Nat) : ((List.range k).filterMap fun (m : Nat) => xs[((i : Int) + (m : Int) * 1).toNat]?).toArray = ((xs.toList.drop i).take k).toArray := by
 have e : (fun (m : Nat) => xs[((i : Int) + (m : Int) * 1).toNat]?) = fun m => xs[i + m]? := by
  funext m
  have : ((i : Int) + (m : Int) * 1).toNat = i + m := by omega
  rw [this]
 rw [e]
 have := pick_run xs i k
 rw [List.filterMap_map] at this
 have e2 : ((fun x => xs[x]?) ∘ fun x => i + x) = fun m => xs[i + m]? := rfl
 rw [e2] at this
 rw [this]
theorem jC {t sl : Addr} {items : Array Value} {vl vu : Value} {lo hi : Option Int} {Q : Value -> Shared -> Prop} (ht : IsTup s.heap t items) (hs : s.heap.IsSliceOf sl vl vu .none) (pl : IsPart vl lo) (pu : IsPart vu hi)
 (hw : ¬ (cN items.size 0 lo = 0 /\ cN items.size items.size hi = items.size))
 (h : Q (.ref s.heap.objs.size) { s with heap := s.heap.push { cls := .type "tuple", data := .seq ((items.toList.drop (cN items.size 0 lo)).take (cN items.size items.size hi - cN items.size 0 lo)).toArray } })
 (hsz : items.size <= sizeLine) : wpAny (model prog w) A (getItem (.ref t) (.ref sl)) Q E s := by
 have yq : sizeOk (.seq ((items.toList.drop (cN items.size 0 lo)).take (cN items.size items.size hi - cN items.size 0 lo)).toArray) := by
  show ((items.toList.drop (cN items.size 0 lo)).take (cN items.size items.size hi - cN items.size 0 lo)).toArray.size <= sizeLine
  rw [List.size_toArray, List.length_take, List.length_drop, Array.length_toList]
  omega
 have hj : cN items.size items.size hi <= items.size := JW _ _ (Nat.le_refl _) hi
 obtain ⟨os, hos, hcs, hds⟩ := id hs
 have hTs : s.TypeIs (.ref sl) "slice" := ⟨os, hos, hcs⟩
 unfold getItem
 try with_reducible refine wpAny_holding ?_
 first | refine wpAny_bind (wpAny_pure ?_) | skip
 refine wpAny_bind (wpAny_sequenceKey ht.typeIs (by decide) ?_)
 refine wpAny_bind (wpAny_callSpecial?_slot (name := Str.ofString "__getitem__") ht.typeIs PyProof.Rows.slot_tuple_getitem
  (wpAny_call_entry PyProof.Rows.slot_tuple_getitem ht.typeIs entry_tuple_getitem ?_ (args_tuple_getitem _ _)))
 show wpAny _ _ (Builtin.Tuple.tupleItemsOf (.ref t) >>= _) _ _ s
 refine wpAny_bind (tupleItemsOf_ ht ?_)
 refine wpAny_bind (wpAny_typeOf hTs ?_)
 rw [if_pos (by decide)]
 refine wpAny_bind (gC hs pl pu ?_)
 have hno : ¬ ((((cN items.size 0 lo : Nat) : Int) == 0 && (1 : Int) == 1 && (cN items.size items.size hi - cN items.size 0 lo) == items.size) = true) := by
  intro q
  rw [Bool.and_eq_true, Bool.and_eq_true] at q
  have q1 : ((cN items.size 0 lo : Nat) : Int) = 0 := eq_of_beq q.1.1
  have q2 : cN items.size items.size hi - cN items.size 0 lo = items.size := eq_of_beq q.2
  exact hw ⟨by omega, by omega⟩
 show wpAny _ _ (if (((cN items.size 0 lo : Nat) : Int) == 0 && (1 : Int) == 1 && (cN items.size items.size hi - cN items.size 0 lo) == items.size) = true then _ else _) _ _ s
 rw [if_neg hno, zT]
 first
  | exact wpAny_bind (m := Builtin.Tuple.tupleExact _) (wpAny_newObj_type (wpAny_pure ⟨_, rfl, wpAny_pure h⟩) yq)
  | exact wpAny_bind (m := Builtin.Tuple.tupleExact _) (wpAny_newObj_type (wpAny_bind (wpAny_pure (wpAny_pure ⟨_, rfl, wpAny_pure h⟩))) yq)
  | exact wpAny_bind (wpAny_bind (m := Builtin.Tuple.tupleExact _) (wpAny_newObj_type (wpAny_pure (wpAny_pure ⟨_, rfl, wpAny_pure h⟩)) yq))
  | exact wpAny_bind (wpAny_bind (m := Builtin.Tuple.tupleExact _) (wpAny_newObj_type (wpAny_pure ⟨_, rfl, wpAny_pure h⟩) yq))
end
end HT
namespace L2
open PySem PySem.Spec PyProof.Rows
noncomputable abbrev TO := St -> Hp -> (Option Int -> Hp -> Prop) -> Prop
noncomputable def PO (X : Cx) (e : Option Expr) (t : TO) : Prop :=
 ∀ (pins : List (Addr × Obj)) (s : Shared) (σ : St) (H : Hp) (Q : Option Int -> Hp -> Prop), Inv X pins σ H s -> t σ H Q ->
   wpAny (model X.prog X.w) X.A (evalPart e X.env) (fun u s' => ∃ o H', Inv X pins σ H' s' /\ IsPart u o /\ Q o H') X.xe s
noncomputable def G8 : TO := fun _ H Q => Q none H
noncomputable def RP (t : TE) : TO := fun σ H Q => t σ H fun x H1 => ∃ i, x = .int i /\ Q (some i) H1
section
variable {X : Cx} {e : Expr} {te : TE} {lo hi : Option Expr} {tl th : TO} {pos p2 : Pos}
theorem Ep : PO X none G8 := by
 intro pins s σ H Q I h
 rw [evalPart_none]
 exact wpAny_pure ⟨none, H, I, .none, h⟩
theorem GJ (h : PE X e te) : PO X (some e) (RP te) := by
 intro pins s σ H Q I hw
 rw [evalPart_some]
 refine cI (h pins s σ H _ I hw) fun u s1 ⟨x, H1, I1, r1, q1⟩ => ?_
 obtain ⟨i, rfl, q⟩ := q1
 obtain ⟨t, rfl⟩ := r1
 exact ⟨some i, H1, I1, .int i t, q⟩
noncomputable def Vf (X : Cx) (r : V -> Option Int -> Option Int -> Hp -> VK -> Prop) : Prop :=
 ∀ (pins : List (Addr × Obj)) (s : Shared) (σ : St) (H : Hp) (x : V) (v vl vu : Value) (lo hi : Option Int) (sl : Addr) (Q : VK), Inv X pins σ H s -> RelV x v -> s.heap.IsSliceOf sl vl vu .none -> IsPart vl lo -> IsPart vu hi -> r x lo hi H Q ->
   ∃ T id, typeLookup (.type T) "__getitem__" = pure (some (.builtin id)) /\ s.TypeIs v T /\ wpAny (model X.prog X.w) X.A (getItem v (.ref sl)) (EP X pins σ Q) X.xe s
noncomputable def tSl (r : V -> Option Int -> Option Int -> Hp -> VK -> Prop) (te : TE) (tl th : TO) : TE := fun σ H Q => te σ H fun x H1 => tl σ H1 fun l H2 => th σ H2 fun u H3 => r x l u H3 Q
theorem ug {r : V -> Option Int -> Option Int -> Hp -> VK -> Prop} (hr : Vf X r) (he : PE X e te) (hl : PO X lo tl) (hu : PO X hi th) : PE X (.Subscript e (.Slice lo hi none p2) pos) (tSl r te tl th) := by
 intro pins s σ H Q I h
 refine Subscript_ (cI (he pins s σ H _ I h) fun v s1 ⟨x, H1, I1, r1, q1⟩ => ?_)
 refine wpAny_Slice (cI (hl pins s1 σ H1 _ I1 q1) fun vl s2 ⟨l, H2, I2, pl, q2⟩ => cI (hu pins s2 σ H2 _ I2 q2) fun vu s3 ⟨u, H3, I3, pu, q3⟩ => ?_)
 rw [evalPart_none]
 refine wpAny_pure ?_
 have I4 : Inv X pins σ H3 { s3 with heap := s3.heap.push { cls := .type "slice", data := .fields #[vl, vu, .none] } } := I3.kept (t' := s3.toks) fun b ob q => Heap.get?_push_of_some _ q
 obtain ⟨T, id, hT, ht, hg⟩ := hr pins { s3 with heap := s3.heap.push { cls := .type "slice", data := .fields #[vl, vu, .none] } } σ H3 x v vl vu l u s3.heap.objs.size Q I4 r1 (Heap.IsSliceOf.new ..) pl pu q3
 show wpAny (model X.prog X.w) X.A (subscriptTail e (.Slice lo hi none p2) v (.ref s3.heap.objs.size)) (EP X pins σ Q) X.xe { s3 with heap := s3.heap.push { cls := .type "slice", data := .fields #[vl, vu, .none] } }
 exact tail_any (ops := [.ref s3.heap.objs.size, v]) ht hT hg (by with_unfolding_all rfl)
noncomputable def sG (xs : List V) (lo hi : Option Int) : List V := (xs.drop (HT.cN xs.length 0 lo)).take (HT.cN xs.length xs.length hi - HT.cN xs.length 0 lo)
theorem lO (xs : List V) (lo hi : Option Int) : (sG xs lo hi).length <= xs.length := by
 unfold sG
 rw [List.length_take, List.length_drop]
 omega
noncomputable def XS (K : PySem.W.Frag) : V -> Option Int -> Option Int -> Hp -> VK -> Prop := fun x lo hi H Q => ∃ a xs, x = .ref a /\ iY K H a xs /\
 ¬ (HT.cN xs.length 0 lo = 0 /\ HT.cN xs.length xs.length hi = xs.length) /\ ∀ p, H p = none -> Q (.ref p) (upd H p (.tup (sG xs lo hi)))
theorem KQ : Vf X (XS X.K) := by
 intro pins s σ H x v vl vu lo hi sl Q I rx hs pl pu h
 obtain ⟨a, xs, rfl, hx, hw, q⟩ := h
 cases rx
 obtain ⟨its, r, ht, hz⟩ := I.tuple hx
 have hlen : its.toArray.size = xs.length := by rw [List.size_toArray]; exact r.length.symm
 refine ⟨"tuple", _, PyProof.Rows.slot_tuple_getitem.lookup, ht.typeIs, ?_⟩
 refine HT.jC ht hs pl pu (by rw [hlen]; exact hw) ?_ (by rw [hlen]; exact hz)
 rw [hlen]
 refine ⟨.ref s.heap.objs.size, _, I.laid (t' := s.toks) (o := .tup (sG xs lo hi)) (fun b ob q => Heap.get?_push_of_some _ q) (Nat.le_refl _) ?_, rfl, q _ (I.hok.fresh (Nat.le_refl _))⟩
 exact ⟨Nat.le_trans (lO xs lo hi) hz, _, (r.drop (HT.cN xs.length 0 lo)).take (HT.cN xs.length xs.length hi - HT.cN xs.length 0 lo), IsTup.new _ _⟩
noncomputable def PJ (K : PySem.W.Frag) : R2 := fun x y H Q => ∃ a b xs ys, x = .ref a /\ y = .ref b /\ iY K H a xs /\ iY K H b ys /\ xs ≠ [] /\ xs.length + ys.length <= sizeLine /\
 (ys = [] -> Q (.ref a) H) /\ (ys ≠ [] -> ∀ p, H p = none -> Q (.ref p) (upd H p (.tup (xs ++ ys))))
theorem Vals.mJ {xs : List V} {us : List Value} (r : Vals xs us) : us = [] ↔ xs = [] := by
 cases r with
 | nil => simp
 | cons _ _ => simp
theorem Gb : fB X (binaryOp .Add) (PJ X.K) := by
 intro pins s σ H x y v u Q I rx ry h
 obtain ⟨a, b, xs, ys, rfl, rfl, ha, hb, hx, hz, q1, q2⟩ := h
 cases rx
 cases ry
 obtain ⟨its, r1, p1, _⟩ := I.tuple ha
 obtain ⟨its2, r2, p2, _⟩ := I.tuple hb
 refine HT.EY p1 p2 (fun z => hx (r1.mJ.mp z)) (fun z => ⟨.ref a, H, I, rfl, q1 (r2.mJ.mp z)⟩) (fun z => ?_) (by rw [<- r1.length, <- r2.length]; exact hz)
 refine ⟨.ref s.heap.objs.size, _, I.laid (t' := s.toks) (o := .tup (xs ++ ys)) (fun b ob q => Heap.get?_push_of_some _ q) (Nat.le_refl _) ?_, rfl, q2 (fun w => z (r2.mJ.mpr w)) _ (I.hok.fresh (Nat.le_refl _))⟩
 exact ⟨by rw [List.length_append]; exact hz, _, r1.append r2, IsTup.new _ _⟩
end
end L2
namespace L2
open PySem PySem.Spec PyProof.Rows
noncomputable def jx (n : Nat) (i : Int) : Option Nat := if 0 <= i then (if i < n then some i.toNat else none) else if -(n : Int) <= i then some (i + n).toNat else none
noncomputable def O7 {α : Type} (xs : List α) (i : Int) : Option α := (jx xs.length i).bind fun j => xs[j]?
theorem yl {n : Nat} {i : Int} {j : Nat} (h : jx n i = some j) : seqIndex? i n = some j /\ j < n /\ -(n : Int) <= i /\ i < n := by
 unfold jx at h
 by_cases h0 : 0 <= i
 . rw [if_pos h0] at h
   by_cases h1 : i < n
   . rw [if_pos h1] at h
     have e : i.toNat = j := Option.some.inj h
     exact ⟨by rw [seqIndex_of h0 h1, e], by omega, by omega, h1⟩
   . rw [if_neg h1] at h; cases h
 . rw [if_neg h0] at h
   by_cases h1 : -(n : Int) <= i
   . rw [if_pos h1] at h
     have e : (i + n).toNat = j := Option.some.inj h
     exact ⟨by rw [seqIndex_neg (by omega) h1, e], by omega, h1, by omega⟩
   . rw [if_neg h1] at h; cases h
theorem xV {α : Type} {xs : List α} {i : Int} {v : α} (h : O7 xs i = some v) : ∃ j, seqIndex? i xs.length = some j /\ xs[j]? = some v /\ j < xs.length /\ -(xs.length : Int) <= i /\ i < xs.length := by
 unfold O7 at h
 cases e : jx xs.length i with
 | none => rw [e] at h; cases h
 | some j =>
   rw [e] at h
   obtain ⟨h1, h2, h3, h4⟩ := yl e
   exact ⟨j, h1, h, h2, h3, h4⟩
noncomputable def yh (b : Expr) : Prop := ∀ o i, subscripted b false o i = operate [o, i] (getItem o i)
noncomputable def Us (X : Cx) (r : R2) : Prop :=
 ∀ (value slice : Expr) (pins : List (Addr × Obj)) (s : Shared) (σ : St) (H : Hp) (x y : V) (v u : Value) (Q : VK), Inv X pins σ H s -> RelV x v -> RelV y u -> r x y H Q ->
   subscripted slice false v u = operate [v, u] (getItem v u) -> wpAny (model X.prog X.w) X.A (subscriptTail value slice v u) (EP X pins σ Q) X.xe s
noncomputable def ZZ (X : Cx) (id : String) (r : V -> List V -> Hp -> VK -> Prop) : Prop :=
 ∀ (pins : List (Addr × Obj)) (s : Shared) (σ : St) (H : Hp) (x : V) (xs : List V) (v : Value) (us : List Value) (Q : VK), Inv X pins σ H s -> RelV x v -> Vals xs us -> r x xs H Q ->
   wpAny (model X.prog X.w) X.A (call (.builtin id) (v :: us)) (EP X pins σ Q) X.xe s
section
variable {X : Cx} {a b : Expr} {ta tb : TE} {pos : Pos}
theorem Q4 {r : R2} (hr : Us X r) (ha : PE X a ta) (hb : PE X b tb) (hs : yh b) : PE X (.Subscript a b pos) (M4 r ta tb) := by
 intro pins s σ H Q I h
 exact Subscript_ (JB ha hb I h fun v u s2 x y H2 I2 rx ry q => hr a b pins s2 σ H2 x y v u Q I2 rx ry q (hs _ _))
noncomputable def Xl (K : PySem.W.Frag) : R2 := fun x y H Q => ∃ p xs i v, x = .ref p /\ y = .int i /\ gw K H p xs /\ O7 xs i = some v /\ Q v H
noncomputable def Xw (K : PySem.W.Frag) : R2 := fun x y H Q => ∃ p xs i v, x = .ref p /\ y = .int i /\ iY K H p xs /\ O7 xs i = some v /\ Q v H
theorem Ez : Us X (Xl X.K) := by
 intro value slice pins s σ H x y v u Q I rx ry h hs
 obtain ⟨p, xs, i, z, rfl, rfl, hq, he, q⟩ := h
 cases rx
 obtain ⟨t, rfl⟩ := ry
 obtain ⟨its, r, pl, hz⟩ := I.list hq
 obtain ⟨j, h1, h2, h3, h4, h5⟩ := xV he
 obtain ⟨w, ew, wF⟩ := r.get h2
 have hl := r.length
 have hn := rQ
 have fin : EP X pins σ Q w s := ⟨z, H, I, wF, q⟩
 by_cases h0 : 0 <= i
 . have hj : i.toNat = j := by
    rw [seqIndex_of h0 h5] at h1
    exact Option.some.inj h1
   exact item_listR pl.isList h0 (by omega) (by rw [hj]; simpa using ew) fin hs
 . have hj : (i + (its.toArray.size : Int)).toNat = j := by
    rw [seqIndex_neg (by omega) h4] at h1
    rw [List.size_toArray, <- hl]
    exact Option.some.inj h1
   exact subscriptTail_builtinR (x := w) pl.isList.typeIs slot_list_getitem.lookup
    (wpAny_getItem_list_neg (Q := fun r s' => r = w /\ EP X pins σ Q r s') pl.isList (by omega) (by rw [List.size_toArray] <;> omega) (by omega) (by rw [hj]; simpa using ew) ⟨rfl, fin⟩) hs
theorem Lb : Us X (Xw X.K) := by
 intro value slice pins s σ H x y v u Q I rx ry h hs
 obtain ⟨p, xs, i, z, rfl, rfl, hq, he, q⟩ := h
 cases rx
 obtain ⟨t, rfl⟩ := ry
 obtain ⟨its, r, pl, hz⟩ := I.tuple hq
 obtain ⟨j, h1, h2, h3, h4, h5⟩ := xV he
 obtain ⟨w, ew, wF⟩ := r.get h2
 have hl := r.length
 have hn := rQ
 have fin : EP X pins σ Q w s := ⟨z, H, I, wF, q⟩
 exact subscriptTail_builtinR (x := w) pl.typeIs slot_tuple_getitem.lookup
  (getItem_tuple (j := j) (Q := fun r s' => r = w /\ EP X pins σ Q r s') pl (by omega) (by omega) (by rw [List.size_toArray, <- hl]; exact h1) (by simpa using ew) ⟨rfl, fin⟩) hs
theorem vo (its : List Value) (n j : Nat) (u : Value) : Obj.mapSeq (·.setIfInBounds j u) { cls := .type "list", data := .seq its.toArray n } = { cls := .type "list", data := .seq (its.set j u).toArray n } := by
 simp [Obj.mapSeq]
theorem Inv.lst {pins : List (Addr × Obj)} {σ : St} {H : Hp} {s : Shared} {p : Addr} {xs : List V} (I : Inv X pins σ H s) (h : H p = some (.lst xs)) :
 ∃ (its : List Value) (n : Nat), Vals xs its /\ s.heap.get? p = some { cls := .type "list", data := .seq its.toArray n } /\ xs.length <= sizeLine := by
 obtain ⟨z, its, n, r, e⟩ := I.hok p _ h
 exact ⟨its, n, r, e, z⟩
theorem Inv.K4 {pins : List (Addr × Obj)} {σ : St} {H : Hp} {s : Shared} {p : Addr} {xs ys : List V} {its its' : List Value} {n n' : Nat} {f : Obj -> Obj} (I : Inv X pins σ H s) (h : H p = some (.lst xs))
 (ho : s.heap.get? p = some { cls := .type "list", data := .seq its.toArray n }) (hf : f { cls := .type "list", data := .seq its.toArray n } = { cls := .type "list", data := .seq its'.toArray n' }) (r : Vals ys its') (hz : ys.length <= sizeLine) (t : Nat) :
 Inv X pins σ (upd H p (.lst ys)) { s with heap := s.heap.update p f, toks := t } := by
 have e : (s.heap.update p f).get? p = some { cls := .type "list", data := .seq its'.toArray n' } := by
  rw [Heap.get?_update_self f ho (by rw [hf] <;> rfl), hf]
 refine I.write (x := p) (e := p) (by rw [h]; trivial) (.inl rfl) (fun b u hb q => (Heap.get?_update_other _ _ (Ne.symm hb)).trans q) ⟨_, e⟩ ?_
 exact ⟨hz, its', n', r, e⟩
noncomputable def R7 : V -> V -> V -> Hp -> (Hp -> Prop) -> Prop := fun o i v H Q => ∃ p xs k j, o = .ref p /\ i = .int k /\ H p = some (.lst xs) /\ jx xs.length k = some j /\ Q (upd H p (.lst (xs.set j v)))
theorem set_list : Ss X R7 := by
 intro pins s σ H o i v ov iv u Q I ro ri rv h
 obtain ⟨p, xs, k, j, rfl, rfl, hp, hj, q⟩ := h
 cases ro
 obtain ⟨t, rfl⟩ := ri
 obtain ⟨its, n, r, ho, hz⟩ := I.lst hp
 obtain ⟨h1, h2, h3, h4⟩ := yl hj
 have hl := r.length
 have hn := rQ
 have I' : Inv X pins σ (upd H p (.lst (xs.set j v))) { s with heap := s.heap.update p (Obj.mapSeq (·.setIfInBounds j u)) } :=
  I.K4 hp ho (vo its n j u) (r.set rv j) (by rw [List.length_set]; exact hz) s.toks
 by_cases h0 : 0 <= k
 . have hk : k.toNat = j := by
    rw [seqIndex_of h0 h4] at h1
    exact Option.some.inj h1
   exact PySem.W.ki_setAt ho h0 (by omega) (by rw [List.size_toArray, <- hl]; exact h4) (by rw [hk]; exact ⟨_, I', q⟩)
 . have hk : (k + (its.toArray.size : Int)).toNat = j := by
    rw [seqIndex_neg (by omega) h3] at h1
    rw [List.size_toArray, <- hl]
    exact Option.some.inj h1
   exact PySem.W.ki_setBack ho (by omega) (by rw [List.size_toArray, <- hl]; exact h3) (by omega) (by rw [hk]; exact ⟨_, I', q⟩)
theorem rM (lo hi : Option Int) (n : Nat) : (sliceBounds lo hi none n).1 = ((HT.cN n 0 lo : Nat) : Int) /\ (sliceBounds lo hi none n).2.1 = ((HT.cN n n hi : Nat) : Int) /\ (sliceBounds lo hi none n).2.2 = 1 := by
 refine ⟨?_, ?_, rfl⟩
 . cases lo with
   | none => simp [sliceBounds, HT.cN]
   | some i =>
     simp only [sliceBounds, HT.cN, Option.getD_none, show (1 : Int) > 0 by decide, if_true]
     by_cases h : i < 0
     . simp only [h, if_true] <;> omega
     . simp only [h, if_false] <;> omega
 . cases hi with
   | none => simp [sliceBounds, HT.cN]
   | some i =>
     simp only [sliceBounds, HT.cN, Option.getD_none, show (1 : Int) > 0 by decide, if_true]
     by_cases h : i < 0
     . simp only [h, if_true] <;> omega
     . simp only [h, if_false] <;> omega
theorem pD (its : List Value) (lo hi : Option Int) : slicePick its.toArray lo hi none = ((its.drop (HT.cN its.length 0 lo)).take (HT.cN its.length its.length hi - HT.cN its.length 0 lo)).toArray := by
 obtain ⟨h1, h2, h3⟩ := rM lo hi its.toArray.size
 unfold slicePick
 rw [h1, h2, h3]
 simp only [sliceRange_one, pick_run, List.size_toArray] <;> rfl
noncomputable def X7 (K : PySem.W.Frag) : V -> Option Int -> Option Int -> Hp -> VK -> Prop := fun x lo hi H Q => ∃ a xs, x = .ref a /\ gw K H a xs /\ ∀ p, H p = none -> Q (.ref p) (upd H p (.lst (sG xs lo hi)))
theorem Gm : Vf X (X7 X.K) := by
 intro pins s σ H x v vl vu lo hi sl Q I rx hs pl pu h
 obtain ⟨a, xs, rfl, hx, q⟩ := h
 cases rx
 obtain ⟨its, r, ht, hz⟩ := I.list hx
 have hlen := r.length
 refine ⟨"list", _, slot_list_getitem.lookup, ht.isList.typeIs, ?_⟩
 refine wpAny_getItem_list_slice ht.isList hs pl pu .none (by simp) ?_ (by rw [List.size_toArray] <;> omega)
 rw [pD, <- hlen]
 refine ⟨.ref s.heap.objs.size, _, I.laid (t' := s.toks) (o := .lst (sG xs lo hi)) (fun b ob q => Heap.get?_push_of_some _ q) (Nat.le_refl _) ?_, rfl, q _ (I.hok.fresh (Nat.le_refl _))⟩
 exact ⟨Nat.le_trans (lO xs lo hi) hz, _, 0, (r.drop (HT.cN xs.length 0 lo)).take (HT.cN xs.length xs.length hi - HT.cN xs.length 0 lo), Heap.get?_push_size _ rfl⟩
theorem rO : dq X (.builtin "len") (fun xs H Q => ∃ p ys, xs = [.ref p] /\ (gw X.K H p ys \/ iY X.K H p ys) /\ Q (.int ys.length) H) := by
 intro pins s σ H xs us Q I r h
 obtain ⟨p, ys, rfl, hq, q⟩ := h
 obtain ⟨u, rfl, rx⟩ := vals1 r
 cases rx
 have hn := rQ
 rcases hq with hq | hq
 . obtain ⟨its, r', pl, hz⟩ := I.list hq
   have hlen := r'.length
   exact Calls.call_len_list pl.isList (by simp only [List.size_toArray] <;> omega) ⟨.int ys.length, H, I.tok _, ⟨s.toks + 1, by rw [List.size_toArray, hlen]⟩, q⟩
 . obtain ⟨its, r', pl, hz⟩ := I.tuple hq
   have hlen := r'.length
   exact len_tuple pl (by simp only [List.size_toArray] <;> omega) ⟨.int ys.length, H, I.tok _, ⟨s.toks + 1, by rw [List.size_toArray, hlen]⟩, q⟩
theorem rP : dq X (.type "list") (fun xs H Q => ∃ p ys, xs = [.ref p] /\ (gw X.K H p ys \/ iY X.K H p ys) /\ ∀ l, H l = none -> Q (.ref l) (upd H l (.lst ys))) := by
 intro pins s σ H xs us Q I r h
 obtain ⟨p, ys, rfl, hq, q⟩ := h
 obtain ⟨u, rfl, rx⟩ := vals1 r
 cases rx
 have fin : ∀ (its : List Value), Vals ys its -> ys.length <= sizeLine -> ∀ (h' : Heap) (c' : Nat), (∀ b o', s.heap.get? b = some o' -> h'.get? b = some o') ->
  h'.get? s.heap.objs.size = some { cls := .type "list", dict := none, data := .seq its.toArray c', slots := #[] } -> EP X pins σ Q (.ref s.heap.objs.size) { s with heap := h' } := fun its r' hz h' c' kp e =>
  ⟨.ref s.heap.objs.size, _, I.laid (t' := s.toks) kp (Nat.le_refl _) (show bQ X.prog X.w _ h' _ (.lst ys) from ⟨hz, its, c', r', e⟩), rfl, q _ (I.hok.fresh (Nat.le_refl _))⟩
 rcases hq with hq | hq
 . obtain ⟨its, r', pl, hz⟩ := I.list hq
   have hlen := r'.length
   obtain ⟨o, ho, hc, n, hd⟩ := pl.isList
   exact call_list_seq p (.inl rfl) ho hc hd (fun h' c' kp e => fin its r' hz h' c' kp e) (by simp only [List.size_toArray] <;> omega)
 . obtain ⟨its, r', pl, hz⟩ := I.tuple hq
   have hlen := r'.length
   obtain ⟨o, ho, hc, n, hd⟩ := pl
   exact call_list_seq p (.inr rfl) ho hc hd (fun h' c' kp e => fin its r' hz h' c' kp e) (by simp only [List.size_toArray] <;> omega)
theorem jd : dq X (.type "tuple") (fun xs H Q => ∃ p ys, xs = [.ref p] /\ ((gw X.K H p ys /\ ∀ l, H l = none -> Q (.ref l) (upd H l (.tup ys))) \/ (iY X.K H p ys /\ Q (.ref p) H))) := by
 intro pins s σ H xs us Q I r h
 obtain ⟨p, ys, rfl, h⟩ := h
 obtain ⟨u, rfl, rx⟩ := vals1 r
 cases rx
 rcases h with ⟨hq, q⟩ | ⟨hq, q⟩
 . obtain ⟨its, r', pl, hz⟩ := I.list hq
   have hlen := r'.length
   refine call_tuple_list pl.isList (fun h' kp => ?_) (by simp only [List.size_toArray] <;> omega)
   have I1 : Inv X pins σ H { s with heap := h' } := I.kept (t' := s.toks) kp
   have I2 : Inv X pins σ (upd H h'.objs.size (.tup ys)) { s with heap := h'.push { cls := .type "tuple", data := .seq its.toArray } } :=
    I1.laid (t' := s.toks) (fun b o e => Heap.get?_push_of_some _ e) (Nat.le_refl _) (show bQ X.prog X.w _ _ _ (.tup ys) from ⟨hz, its, r', IsTup.new _ _⟩)
   exact ⟨.ref h'.objs.size, _, I2, rfl, q _ (I1.hok.fresh (Nat.le_refl _))⟩
 . obtain ⟨its, r', pl, hz⟩ := I.tuple hq
   exact call_tuple_same pl ⟨.ref p, H, I, rfl, q⟩
noncomputable def ZL (K : PySem.W.Frag) (T : String) (x : V) (H : Hp) : Prop := match x with
 | .str _ => T = "str"
 | .int _ => T = "int"
 | .ref p => (T = "list" /\ ∃ xs, gw K H p xs) \/ (T = "tuple" /\ ∃ o, K.lookup p = some o /\ o.cls = .type "tuple" /\ o.dict = none) \/
  (T = "dict" /\ ((∃ kvs, H p = some (.dK kvs)) \/ ∃ kvs, H p = some (.dT kvs))) \/ (T = "set" /\ ∃ S n, H p = some (.set S n))
 | _ => False
theorem JZ {pins : List (Addr × Obj)} {σ : St} {H : Hp} {s : Shared} {T : String} {x : V} {v : Value} (I : Inv X pins σ H s) (r : RelV x v) (ty : ZL X.K T x H) :
 s.TypeIs v T /\ ∀ a, v = .ref a -> ∃ ob, s.heap.get? a = some ob /\ ob.dict = none := by
 cases x with
 | str z =>
   obtain ⟨t, rfl⟩ := r
   cases (show T = "str" from ty)
   exact ⟨typeIs_str s z t, fun _ e => nomatch e⟩
 | int i =>
   obtain ⟨t, rfl⟩ := r
   cases (show T = "int" from ty)
   exact ⟨typeIs_int s i t, fun _ e => nomatch e⟩
 | ref p =>
   cases r
   rcases ty with ⟨rfl, xs, hq⟩ | ⟨rfl, o, hk, hc, hd⟩ | ⟨rfl, hk⟩ | ⟨rfl, S, n, hk⟩
   . obtain ⟨its, _, pl, _⟩ := I.list hq
     refine ⟨pl.isList.typeIs, fun a e => ?_⟩
     cases e
     obtain ⟨o, n, e, c, hd, _⟩ := pl
     exact ⟨o, e, hd⟩
   . refine ⟨⟨o, I.M6 p o hk, hc⟩, fun a e => ?_⟩
     cases e
     exact ⟨o, I.M6 _ o hk, hd⟩
   . have z : ∃ o, s.heap.get? p = some o /\ o.ExactDict := by
      rcases hk with ⟨kvs, hk⟩ | ⟨kvs, hk⟩
      . obtain ⟨_, _, _, _, o, _, _, e, ex, _⟩ := I.hok p _ hk
        exact ⟨o, e, ex⟩
      . obtain ⟨_, _, _, _, o, _, _, e, ex, _⟩ := I.hok p _ hk
        exact ⟨o, e, ex⟩
     obtain ⟨o, e, ex⟩ := z
     refine ⟨⟨o, e, ex.1⟩, fun a e2 => ?_⟩
     cases e2
     exact ⟨o, e, ex.2.1⟩
   . obtain ⟨o, _, _, _, e, ex, _⟩ := I.hok p _ hk
     refine ⟨⟨o, e, ex.1⟩, fun a e2 => ?_⟩
     cases e2
     exact ⟨o, e, ex.2.1⟩
 | _ => exact False.elim ty
noncomputable def tBM (K : PySem.W.Frag) (T : String) (r : V -> List V -> Hp -> VK -> Prop) (to : TE) (t : TA) : TE := fun σ H Q => to σ H fun x H1 => ZL K T x H1 /\ t σ H1 fun xs H2 => r x xs H2 Q
variable {o e : Expr} {es : List Expr} {to : TE} {t : TA} {name : Str} {apos cpos : Pos} {T id : String} {r : V -> List V -> Hp -> VK -> Prop}
theorem R5 (pa : PlainAttrs T) (slot : Slot T name id) (hty : typeOf (.builtin id) = pure (.type "method_descriptor")) (hm : ZZ X id r) (ho : PE X o to) (ha : PA X (e :: es) t)
 (hbase : attributeBase o name X.env (eval o X.env) = eval o X.env := by rfl)
 (hfew : ((backTo cpos (starEach (e :: es) X.env)).all (fun x => !x.1) && (backToKw cpos (keywordEach [] X.env)).all (fun x => x.1.isSome)
  && decide ((e :: es).length + ([] : List Keyword).length + (if ([] : List Keyword).isEmpty then 0 else 1) < 30)) = true := by rfl)
 (hline : (apos.endLine == cpos.line) = true := by rfl) (hs : starEach (e :: es) X.env = (false, eval e X.env) :: starEach es X.env := by rfl) (hplain : (backTo cpos (starEach es X.env)).any (·.1) = false := by rfl) :
 PE X (.Call (.Attribute o name apos) (e :: es) [] cpos) (tBM X.K T r to t) := by
 intro pins s σ H Q I h
 refine wpAny_Call_method_late hbase hfew hline rfl (cI (ho pins s σ H _ I h) fun v s1 ⟨x, H1, I1, r1, ty, q1⟩ => ?_)
 obtain ⟨h1, h2⟩ := JZ I1 r1 ty
 refine ⟨T, id, pa, slot, hty, h1, h2, ?_⟩
 have hA := ha cpos pins s1 σ H1 _ I1 q1
 rw [hs] at hA ⊢
 refine Calls.callWith_builtin (by show (false || (backTo cpos (starEach es X.env)).any (·.1)) = false; rw [hplain] <;> rfl) (Calls.evalArgs_plain ?_)
 exact cI hA fun us s2 ⟨vs, H2, I2, r2, q2⟩ => hm pins s2 σ H2 x vs v us Q I2 r1 r2 q2
/- xs.append(e), list.index on a module's tuple .. are ZZ facts of 06m -/
end
end L2
namespace L2
open PySem PySem.Spec PyProof.Rows
noncomputable def MtM (X : Cx) (id : String) (r : V -> List V -> Hp -> VK -> Prop) : Prop :=
 ∀ (pins : List (Addr × Obj)) (s : Shared) (σ : St) (H : Hp) (x : V) (xs : List V) (v : Value) (us : List Value) (Q : VK), Inv X pins σ H s -> RelV x v -> Vals xs us -> r x xs H Q ->
   wpAny (model X.prog X.w) X.A (call (.builtin id) (v :: us)) (EP X pins σ Q) X.xe s
theorem Vals.one : ∀ {x : V} {us : List Value}, Vals [x] us -> ∃ u, us = [u] /\ RelV x u
 | _, _, .cons r .nil => ⟨_, rfl, r⟩
theorem Vals.two : ∀ {x y : V} {us : List Value}, Vals [x, y] us -> ∃ u v, us = [u, v] /\ RelV x u /\ RelV y v
 | _, _, _, .cons r (.cons q .nil) => ⟨_, _, rfl, r, q⟩
theorem Vals.zero : ∀ {us : List Value}, Vals [] us -> us = []
 | _, .nil => rfl
theorem Vals.rep {xs : List V} {us : List Value} (h : Vals xs us) : ∀ k : Nat, Vals (List.replicate k xs).flatten (List.replicate k us).flatten
 | 0 => .nil
 | k + 1 => by
   rw [List.replicate_succ, List.replicate_succ, List.flatten_cons, List.flatten_cons]
   exact Vals.append h (Vals.rep h k)
theorem foldl_rep (its : List Value) : ∀ (k : Nat) (acc : List Value),
 List.foldl (fun x1 x2 => x1 ++ x2) acc.toArray (List.replicate k its.toArray) = (acc ++ (List.replicate k its).flatten).toArray
 | 0, acc => by simp
 | k + 1, acc => by
   have e : acc.toArray ++ its.toArray = (acc ++ its).toArray := by simp
   have e2 : (acc ++ its) ++ (List.replicate k its).flatten = acc ++ (List.replicate (k + 1) its).flatten := by
    rw [List.replicate_succ, List.flatten_cons, List.append_assoc]
   rw [<- e2, <- foldl_rep its k (acc ++ its), <- e, List.replicate_succ, List.foldl_cons]
section
variable {X : Cx} {pins : List (Addr × Obj)} {σ : St} {H : Hp} {s : Shared} {l b : Addr} {xs ys zs : List V}
theorem Inv.Ys {its its' : List Value} {n : Nat} {f : Array Value -> Array Value} {t' : Nat} (I : Inv X pins σ H s) (hH : H l = some (.lst xs))
 (e : s.heap.get? l = some { cls := .type "list", data := .seq its.toArray n }) (hf : f its.toArray = its'.toArray) (hv : Vals ys its') (hz : ys.length <= sizeLine) :
 Inv X pins σ (upd H l (.lst ys)) { s with heap := s.heap.update l (Obj.mapSeq f), toks := t' } := by
 have q := PySem.IsL.update e f
 rw [hf] at q
 refine I.write (x := l) (e := l) (by rw [hH]; exact trivial) (.inl rfl) (fun b' u hb hu => (Heap.get?_update_other s.heap (Obj.mapSeq f) (Ne.symm hb)).trans hu) ⟨_, q⟩ ?_
 exact ⟨hz, its', _, hv, q⟩
theorem Inv.JQ {its : List Value} {t' : Nat} (I : Inv X pins σ H s) (hv : Vals ys its) (hz : ys.length <= sizeLine) :
 Inv X pins σ (upd H s.heap.objs.size (.lst ys)) { s with heap := s.heap.push { cls := .type "list", data := .seq its.toArray }, toks := t' } :=
 I.laid (fun _ _ q => Heap.get?_push_of_some _ q) (Nat.le_refl _) ⟨hz, its, 0, hv, Heap.get?_push_size _ rfl⟩
theorem Inv.fresh (I : Inv X pins σ H s) : H s.heap.objs.size = none := I.hok.fresh (Nat.le_refl _)
theorem Inv.Yo (I : Inv X pins σ H s) (hH : H l = some (.lst xs)) : xs.length <= sizeLine /\ ∃ (its : List Value) (n : Nat), Vals xs its /\ xs.length = its.length /\ s.heap.get? l = some { cls := .type "list", data := .seq its.toArray n } := by
 obtain ⟨z, its, n, r, e⟩ := I.hok l _ hH
 exact ⟨z, its, n, r, r.length, e⟩
theorem Cg {n : Nat} (h : n <= sizeLine) : Builtin.List.listTooLong n = false := by
 unfold Builtin.List.listTooLong
 exact decide_eq_false (by omega)
end
section
variable {X : Cx}
noncomputable def Hk : V -> List V -> Hp -> VK -> Prop := fun x vs H Q => ∃ l xs y, x = .ref l /\ vs = [y] /\ H l = some (.lst xs) /\ xs.length < sizeLine /\ Q .non (upd H l (.lst (xs ++ [y])))
theorem pQ : MtM X "list.append" Hk := by
 intro pins s σ H x vs v us Q I rx rv h
 obtain ⟨l, xs, y, rfl, rfl, hH, hz, q⟩ := h
 cases rx
 obtain ⟨u, rfl, ru⟩ := rv.one
 obtain ⟨z, its, n, r, hl, e⟩ := I.Yo hH
 refine call_meets F.slot_list_append ⟨_, e, rfl⟩ F.entry_list_append (F.args_list_append_2 _ _) (PySem.list_append l its.toArray n u (by rw [List.size_toArray]; omega)) ⟨e, ?_⟩
 refine ⟨.non, _, I.Ys (its' := its ++ [u]) hH e (by simp) (r.append (.cons ru .nil)) ?_, rfl, q⟩
 rw [List.length_append, List.length_singleton]
 omega
theorem len_rep {α : Type} (xs : List α) (k : Nat) : (List.replicate k xs).flatten.length = k * xs.length := by
 induction k with
 | zero => simp
 | succ k ih => rw [List.replicate_succ, List.flatten_cons, List.length_append, ih, Nat.succ_mul, Nat.add_comm]
end
end L2
namespace Vu
open PySem PySem.W PySem.Calls PyProof.Rows
theorem mD {P : Params} {h : Heap} : ∀ (ns : List Int) (vs : List Value), WellAll P h vs (ns.map WData.int) -> IntsAre vs ns := by
 intro ns
 induction ns with
 | nil =>
   intro vs w
   rw [List.map_nil] at w
   cases w
   exact .nil
 | cons n ns ih =>
   intro vs w
   rw [List.map_cons] at w
   cases w with
   | cons a b =>
     cases a
     exact .cons _ _ (ih _ b)
theorem yW {l : OpenLaw} {n : Nat} (hn : l.most = some n) {P : Params} {h : Heap} {args : List WData} {vals : List Value}
 (hpre : l.row.toRowW.claim.pre args = true) (hwl : WellAll P h vals args) :
 ∃ a vs ns, vals = [Value.ref a] /\ args = [WData.list (ns.map WData.int)] /\ h.get? a = some { cls := .type "list", data := .seq vs.toArray } /\ IntsAre vs ns /\ ns.length <= n := by
 have hsh : WShape.hasAll [] args [.list .int] = true := (pre_splitW hpre).1
 have hc : l.pre.holds [] { args := args } = true := (pre_splitW hpre).2
 obtain ⟨d, r, rfl, h1, h2⟩ := hasAllW_cons hsh
 obtain rfl := hasAllW_nil h2
 obtain ⟨xs, rfl, h3⟩ := hasW_list h1
 obtain ⟨ns, rfl⟩ := items_int h3
 have hlen : ns.length <= n := by
  unfold OpenLaw.pre at hc
  have h4 : (WTm.not (.lt (.lit (.int (n : Int))) (.len (.arg 0)))).holds [] { args := [.list (ns.map .int)] } = true := by
   have h4 := (holds_andW hc).1
   rw [hn] at h4
   exact h4
  have h5 := condW_of h4 (w_not (w_lt w_lit (w_len_list (w_arg rfl))))
  rw [List.length_map] at h5
  refine Nat.le_of_not_lt fun q => ?_
  have q' : (n : Int) < ((ns.length : Nat) : Int) := by omega
  first
   | (rw [decide_eq_true q'] at h5; exact absurd h5 (by decide))
   | (simp at h5; omega)
 cases hwl with
 | cons w1 w2 =>
   cases w2
   cases w1 with
   | list ho hall => exact ⟨_, _, ns, rfl, rfl, ho, mD ns _ hall, hlen⟩
theorem yI (l : OpenLaw) (args : List WData) : l.row.toRowW.claim.post args (.bool true) args = true :=
 postW_of (r := l.row.toRowW) (X := (true == true))
  (show WShape.has [] (.bool true) .bool = true by first | rfl | decide | simp [WShape.has, WShape.arms, WShape.armsAll])
  (show (WTm.eq .res (.lit (.bool true))).value [] { args := args, res := some (.bool true), after := args } = some (.bool (true == true)) from w_eq_bool (w_res rfl) w_lit) rfl
theorem uG {l : OpenLaw} {n : Nat} {q : Program} {loose : List Str} {XP : (Str -> Option Value) -> Heap -> Prop} {YP : World -> Heap -> Prop} {d : DefRec}
 (hn : l.most = some n) (hdf : d.params.defaults = [])
 (call : ∀ (w : World) (s₀ s₁ : Shared) (mg mb : Str -> Option Value) (fa : Addr) (o : Obj) (pm cd doc : Value) (a : Addr) (vs : List Value) (ns : List Int),
  Ground q loose [] XP w s₀ mg mb s₁.heap -> YP w s₁.heap ->
  s₁.heap.get? fa = some o -> o.data = .func (docDef d.name d.params d.body d.scope pm cd doc) -> s₁.heap.CodeRec cd d.name -> mg d.name = some (.ref fa) ->
  s₁.heap.get? a = some { cls := .type "list", data := .seq vs.toArray } -> IntsAre vs ns -> ns.length <= n -> s₁.gens = #[] ->
  codeAny (model l.prog w) callerA (.call (.ref fa) ⟨[.ref a], []⟩) (fun r s' => r = .ok (.ret (.bool true)) /\ OldK s₁.heap s'.heap /\ s'.os = s₁.os /\ AllBare s'.gens) s₁) :
 WalkO q loose XP YP l.row.toRowW d [] (fun f vs => PySem.call f vs) := by
 intro w s₀ s₁ mg mb G Y fa o pm cd doc dV kV ho hd hcd hD hmg hg args vals as hpre hlay hrd hwl hlo
 obtain rfl : dV = .none := Dflts.none hD hdf
 obtain rfl : kV = .none := Dflts.noKw hD
 obtain ⟨a, vs, ns, rfl, rfl, hobj, hints, hlen⟩ := yW hn hpre hwl
 refine enter_call (codeAny_mono (call w s₀ s₁ mg mb fa o pm cd doc a vs ns G Y ho (fd_plain hd) hcd hmg hobj hints hlen hg) fun r s' hq => ?_)
 obtain ⟨rfl, h2, h3, h4⟩ := hq
 exact ⟨.inl ⟨.bool true, .bool true, [], rfl, fun _ => rfl, .bool true, yI l _, fun _ => ⟨List.Pairwise.nil, fun _ hm => (nomatch hm)⟩⟩, h2, h3, h4⟩
end Vu
namespace L2
open PySem PySem.Spec PyProof.Rows
theorem p6 : ∀ {vs : List Value} {ns : List Int}, IntsAre vs ns -> Vals (ns.map V.int) vs
 | _, _, .nil => .nil
 | _, _, .cons n t h => .cons ⟨t, rfl⟩ (p6 h)
noncomputable def Only (H : Hp) : Prop := ∀ b, H b = none \/ ∃ o xs, H b = some (.gq o (.lst xs))
theorem BZ {P : Program} {w : World} {K : PySem.W.Frag} {mg mb : Str -> Option Value} {CX : Ad} {k : Nat} {fa a : Addr} {fd : FuncData} {x : Str} {sp : Sp} {s₁ : Shared} {vs : List Value} {ns : List Int}
 (KX : K.In s₁.heap) (hns : s₁.heap.Ns mainGlobals mg) (hb : s₁.heap.Ns builtinsNs mb) (hbb : ∀ x : Str, x ≠ "__name__" -> mb x = bootBuiltins x) (hlim : s₁.heap.NoLimit) (hg : s₁.gens = #[])
 (ha : s₁.heap.get? a = some { cls := .type "list", data := .seq vs.toArray }) (hi : IntsAre vs ns) (hl : ns.length <= sizeLine) (hr : iB k callerA)
 (F : ∀ base : Heap, K.In base -> base.Ns mainGlobals mg -> cj P w K mg base CX k fa fd [x] sp) (hbind : ∀ (s : Shared) (u : Value), BindsTo s fd ⟨[u], []⟩ [(x, u)])
 (hsp : ∀ H : Hp, Only H -> gw K H a (ns.map V.int) -> sp [.ref a] H (fun v _ => v = .bl true) fun _ _ _ => False)
 (S7 : ∀ H e s', CX [] H s₁ (fun _ _ _ => False) e s' -> False) :
 codeAny (model P w) callerA (.call (.ref fa) ⟨[.ref a], []⟩) (fun r s' => r = .ok (.ret (.bool true)) /\ OldK s₁.heap s'.heap /\ s'.os = s₁.os /\ AllBare s'.gens) s₁ := by
 have rv := p6 hi
 have lenV := hi.length
 -- from an abstract heap in which nothing but the script may be tracked
 have core : ∀ H : Hp, Only H -> gw K H a (ns.map V.int) -> j7 P w H s₁.heap -> (∀ b, H b ≠ none -> b = a) -> (H a ≠ none -> K.lookup a = none) ->
  codeAny (model P w) callerA (.call (.ref fa) ⟨[.ref a], []⟩) (fun r s' => r = .ok (.ret (.bool true)) /\ OldK s₁.heap s'.heap /\ s'.os = s₁.os /\ AllBare s'.gens) s₁ := by
  intro H hO hS hok hA hK
  have yr : ∀ {b : Addr} {o : Obj}, s₁.heap.get? b = some o -> H b = none -> (qK s₁.heap H).get? b = some o := fun e n => Bs e n
  have S6 : ∀ {b : Addr} {o : Obj} {es : Array DictEntry} {ep : Nat}, s₁.heap.get? b = some o -> o.data = .dict es ep -> H b = none := fun {b o es ep} e d => by
   cases q : H b with
   | none => rfl
   | some u =>
     have e' : b = a := hA b (by rw [q]; simp)
     subst e'
     rw [ha] at e; cases e
     have d' : Data.seq vs.toArray _ = Data.dict es ep := d
     cases d'
  have Vv : ∀ {b : Addr} {m : Str -> Option Value}, s₁.heap.Ns b m -> (qK s₁.heap H).Ns b m := fun {b m} ⟨o, es, ep, e, d, r⟩ => ⟨o, es, ep, yr e (S6 e d), d, r⟩
  have hKb : K.In (qK s₁.heap H) := fun b o e => yr (KX b o e) (by
   cases q : H b with
   | none => rfl
   | some u =>
     have e' : b = a := hA b (by rw [q]; simp)
     subst e'
     rw [hK (by rw [q]; simp)] at e; cases e)
  have hM : Mod K mg (qK s₁.heap H) := ⟨hKb, Vv hns, ⟨mb, Vv hb, hbb⟩, let ⟨mc, h1, h2⟩ := hlim; ⟨mc, Vv h1, h2⟩⟩
  have e0 : Gy P w K mg (qK s₁.heap H) callerA [] s₁ H := ⟨rfl, hM, fun b o e => El e, Nat.le_of_eq (yx _ _), trivial, fun b hb => absurd (show b ∈ ([] : List Addr) from hb) (by simp), hok, .of_eq hg⟩
  refine codeAny_mono ((F _ hKb (Vv hns)).run callerA [] s₁ H ⟨[.ref a], []⟩ [.ref a] [.ref a] _ _ hr e0 (hbind s₁ (.ref a)) (.cons rfl .nil) (hsp H hO hS)) fun r s' h => ?_
  cases r with
  | error e => exact (S7 H e s' h).elim
  | ok fl =>
    cases fl with
    | next => exact False.elim h
    | brk => exact False.elim h
    | cont => exact False.elim h
    | ret u =>
      obtain ⟨v, H', os, bare, un, hok', r', q⟩ := h
      have q' : v = .bl true := q
      subst q'
      obtain rfl : u = Value.bool true := r'
      refine ⟨rfl, OldK.of_keep fun b o e => ?_, os, bare⟩
      cases q : H b with
      | none => exact un.keep b o e q (by intro z; exact absurd (show b ∈ ([] : List Addr) from z) (by simp)) (by simp)
      | some u =>
        rcases hO b with z | ⟨ob, xs, z⟩
        . rw [q] at z; cases z
        . have z2 := un.rT b ob _ z
          obtain ⟨e1, _⟩ := hok b _ z
          obtain ⟨e2, _⟩ := hok' b _ z2
          rw [e] at e1; cases e1
          exact e2
 cases hk : K.lookup a with
 | some o =>
   -- the script is one of the module's own objects
   have e := KX a o hk
   rw [ha] at e
   cases e
   refine core (fun _ => none) (fun _ => .inl rfl) (.inr ⟨_, vs.toArray, _, hk, rfl, rfl, rfl, by rw [List.size_toArray, lenV]; exact hl, by simpa using rv⟩) (fun b u z => by have z' : (none : Option HO) = some u := z; cases z') (fun b z => absurd rfl z) fun z => absurd rfl z
 | none =>
   refine core (fun b => if b = a then some (.gq { cls := .type "list", data := .seq vs.toArray } (.lst (ns.map V.int))) else none) (fun b => ?_) (.inl (.inr ⟨{ cls := .type "list", data := .seq vs.toArray }, if_pos rfl⟩)) (fun b u z => ?_) (fun b z => ?_) fun _ => hk
   . by_cases hb : b = a
     . exact .inr ⟨_, _, if_pos hb⟩
     . exact .inl (if_neg hb)
   . by_cases hb : b = a
     . have z' := (if_pos hb).symm.trans z
       cases z'
       subst hb
       exact ⟨ha, by rw [List.length_map]; exact hl, vs, _, rv, ha⟩
     . have z' := (if_neg hb).symm.trans z
       cases z'
   . by_cases hb : b = a
     . exact hb
     . exact absurd (if_neg hb) z
end L2
namespace L2
open PySem PySem.Spec PyProof.Rows
theorem En {l : PySem.W.OpenLaw} {n k : Nat} {q : Program} {loose : List Str} {XP : (Str -> Option Value) -> Heap -> Prop} {YP : World -> Heap -> Prop} {d : DefRec} {K : Params -> PySem.W.Frag} {CX : World -> Ad} {sp : World -> Sp} {x : Str}
 (hn : l.most = some n) (hn2 : n <= sizeLine) (hdf : d.params.defaults = []) (hr : iB k callerA)
 (hY : ∀ (w : World) (h : Heap), YP w h -> (K w.params).In h)
 (F : ∀ (w : World) (mg : Str -> Option Value) (fa : Addr) (h : Heap), (K w.params).In h -> h.Ns mainGlobals mg -> mg d.name = some (.ref fa) ->
  ∃ fd : FuncData, (∀ (s : Shared) (u : Value), BindsTo s fd ⟨[u], []⟩ [(x, u)]) /\
    ∀ base : Heap, (K w.params).In base -> base.Ns mainGlobals mg -> cj l.prog w (K w.params) mg base (CX w) k fa fd [x] (sp w))
 (hsp : ∀ (w : World) (H : Hp) (a : Addr) (ns : List Int), ns.length <= n -> Only H -> gw (K w.params) H a (ns.map V.int) -> sp w [.ref a] H (fun v _ => v = .bl true) fun _ _ _ => False)
 (S7 : ∀ (w : World) (H : Hp) (s : Shared) (e : Value) (s' : Shared), CX w [] H s (fun _ _ _ => False) e s' -> False) :
 PySem.W.WalkO q loose XP YP l.row.toRowW d [] (fun f vs => PySem.call f vs) := by
 refine Vu.uG hn hdf fun w s₀ s₁ mg mb fa o pm cd doc a vs ns G Y ho hd hcd hmg hobj hints hlen hg => ?_
 have KX := hY w _ Y
 obtain ⟨fd, hb, hF⟩ := F w mg fa _ KX G.T.g hmg
 exact BZ KX G.T.g G.T.b G.T.builtins G.T.nolimit hg hobj hints (Nat.le_trans hlen hn2) hr hF hb (fun H hO hS => hsp w H a ns hlen hO hS) fun H e s' => S7 w H s₁ e s'
theorem Be {l : PySem.W.OpenLaw} {n k : Nat} {q : Program} {loose : List Str} {XP : (Str -> Option Value) -> Heap -> Prop} {YP : World -> Heap -> Prop} {d : DefRec} {K : Params -> PySem.W.Frag} {CX : Ad} {sp : PySem.W.Frag -> Sp} {x : Str}
 (hn : l.most = some n) (hn2 : n <= sizeLine) (hdf : d.params.defaults = []) (hr : iB k callerA)
 (hY : ∀ (w : World) (h : Heap), YP w h -> (K w.params).In h)
 (F : ∀ (w : World) (mg : Str -> Option Value) (fa : Addr) (h : Heap), (K w.params).In h -> h.Ns mainGlobals mg -> mg d.name = some (.ref fa) ->
  ∃ fd : FuncData, (∀ (s : Shared) (u : Value), BindsTo s fd ⟨[u], []⟩ [(x, u)]) /\
    ∀ base : Heap, (K w.params).In base -> base.Ns mainGlobals mg -> cj l.prog w (K w.params) mg base CX k fa fd [x] (sp (K w.params)))
 (hsp : ∀ (K : PySem.W.Frag) (H : Hp) (a : Addr) (ns : List Int), ns.length <= n -> Only H -> gw K H a (ns.map V.int) -> sp K [.ref a] H (fun v _ => v = .bl true) fun _ _ _ => False)
 (S7 : ∀ (H : Hp) (s : Shared) (e : Value) (s' : Shared), CX [] H s (fun _ _ _ => False) e s' -> False) :
 PySem.W.WalkO q loose XP YP l.row.toRowW d [] (fun f vs => PySem.call f vs) :=
 En (K := K) (CX := fun _ => CX) (sp := fun w => sp (K w.params)) hn hn2 hdf hr hY F (fun w H a ns h1 h2 h3 => hsp (K w.params) H a ns h1 h2 h3) fun _ H s e s' => S7 H s e s'
end L2
/- THE LAST THEOREM (shape; LID, My.* are aaw):
   My.Adr: a structure of the addresses that your layer names (classes, functions); My.Txt K t: a structure (Prop) of the equations over K;
   My.YQ : {K} {implicit addresses ..} (e1 : nsIn K mainGlobals "law" = some (some (.ref f))) (e2 : K.lookup f = some ⟨oc, od, .func (fnOf "law" "law" params body scope dV kV doc pm an cdv ct), sl⟩) (e3 : codeIn K cdv "law" = true) .. : ∃ t, My.Txt K t
set_option maxRecDepth 100000 in
set_option maxHeartbeats 0 in
(the tactic k_is has no namespace: write k_is) -/
namespace L2
open PySem PySem.Spec PyProof.Rows
noncomputable def gZ (s : Stmt) : Arguments := match s with
 | .FunctionDef _ a _ _ _ _ _ _ _ _ => a
 | _ => { posonlyargs := [], args := [], vararg := none, kwonlyargs := [], kw_defaults := [], kwarg := none, defaults := [] }
noncomputable def fH (s : Stmt) : List Stmt := match s with
 | .FunctionDef _ _ b _ _ _ _ _ _ _ => b
 | _ => []
noncomputable def aD (s : Stmt) : Scope := match s with
 | .FunctionDef _ _ _ _ _ _ sc _ _ _ => sc
 | _ => { kind := .function, names := [], isGenerator := false, isCoroutine := false }
noncomputable abbrev gG : Ad := fun _ _ _ _ _ _ => False
noncomputable abbrev E0 : XK := fun _ _ _ => False
theorem Qc {X : Cx} : Passes gG X E0 := fun _ _ _ _ _ _ _ h => h.elim
structure ig (K : PySem.W.Frag) (x qual : Str) (st : Stmt) (f : Addr) (fd : FuncData) : Prop where
 ex : ∃ (oc : Value) (od : Option Addr) (kV doc pm : Value) (an : Option Addr) (cdv ct : Value) (osl : Array (Option Value)),
  fd = PySem.W.fnOf x qual (gZ st) (fH st) (aD st) .none kV doc pm an cdv ct /\ K.lookup f = some ⟨oc, od, .func fd, osl⟩ /\ PySem.W.codeIn K cdv qual = true
 kp : PySem.W.keepIn K (.ref f) = true
section
variable {P : Program} {w : World} {K : PySem.W.Frag} {mg : Str -> Option Value} {base : Heap}
theorem ig.ok {x qual : Str} {st : Stmt} {f : Addr} {fd : FuncData} {N ps : List Str} {k : Nat} {sp : Sp} (F : ig K x qual st f fd) (S : aO N ps (aD st)) (len : ∀ vs H Q E, sp vs H Q E -> vs.length = ps.length)
 (hbody : ∀ (cdv : Value) (A : Around) (outer : List Env) (s : Shared) (H : Hp) (vs : List V) (Q : VK) (E : XK), iB k (A.deeper (envOfC qual (aD st) s.heap.objs.size f cdv)) -> sp vs H Q E ->
  ∃ t, xK (wz gG P w K mg base N qual (aD st) f cdv A outer s H E).Rx (fH st) t /\ t { nx := fun _ H' => Q .non H', rt := Q } (start N vs) H) : cj P w K mg base gG (k + 1) f fd ps sp := by
 obtain ⟨oc, od, kV, doc, pm, an, cdv, ct, osl, rfl, lk, hcd⟩ := F.ex
 refine SN lk hcd S len fun A outer s H vs Q E hr hsp => ?_
 obtain ⟨t, h, q⟩ := hbody cdv A outer s H vs Q E hr hsp
 exact ⟨t, h.Rx, q⟩
theorem ig.binds {x qual : Str} {st : Stmt} {f : Addr} {fd : FuncData} {ps : List Str} (F : ig K x qual st f fd)
 (h : ∀ (kV doc pm : Value) (an : Option Addr) (cdv ct : Value) (us : List Value), us.length = ps.length -> bindArgs (PySem.W.fnOf x qual (gZ st) (fH st) (aD st) .none kV doc pm an cdv ct) ⟨us, []⟩ = pure (ps.zip us)) : Binds K fd ps [] := by
 obtain ⟨oc, od, kV, doc, pm, an, cdv, ct, osl, rfl, lk, hcd⟩ := F.ex
 exact .all (h kV doc pm an cdv ct)
theorem Ke {x qual : Str} {st : Stmt} {f : Addr} {oc : Value} {od an : Option Addr} {osl : Array (Option Value)} {kV doc pm cdv ct : Value} (l : K.lookup f = some ⟨oc, od, .func (PySem.W.fnOf x qual (gZ st) (fH st) (aD st) .none kV doc pm an cdv ct), osl⟩)
 (c : PySem.W.codeIn K cdv qual = true) (k : PySem.W.keepIn K (.ref f) = true) : ig K x qual st f (PySem.W.fnOf x qual (gZ st) (fH st) (aD st) .none kV doc pm an cdv ct) := ⟨⟨oc, od, kV, doc, pm, an, cdv, ct, osl, rfl, l, c⟩, k⟩
end
noncomputable def aQ (H H' : Hp) : Prop := ∀ b o, H b = some o -> H' b = some o
theorem aQ.refl (H : Hp) : aQ H H := fun _ _ h => h
theorem aQ.trans {H H1 H2 : Hp} (a : aQ H H1) (b : aQ H1 H2) : aQ H H2 := fun c o h => b c o (a c o h)
theorem aQ.seq {K : PySem.W.Frag} {H H' : Hp} {a : Addr} {xs : List V} (e : aQ H H') (h : gw K H a xs) : gw K H' a xs := by
 rcases h with (h | ⟨o, h⟩) | h
 . exact .inl (.inl (e _ _ h))
 . exact .inl (.inr ⟨o, e _ _ h⟩)
 . exact .inr h
end L2
end
section
namespace HH
open PySem
inductive Dc where
 | k (kvs : List (Int × Int)) | t (kvs : List (List Int × Int))
 deriving DecidableEq
inductive D where
 | non | bl (b : Bool) | int (i : Int) | str (s : Str) | tup (ds : List D) | lst (ds : List D) | cQ (m : Dc)
 deriving Inhabited
mutual
noncomputable def bL : D -> D -> Bool
 | .non, .non => true
 | .bl a, .bl b => a == b
 | .bl a, .int i => (if a then (1 : Int) else 0) == i
 | .int i, .bl a => i == (if a then (1 : Int) else 0)
 | .int i, .int j => i == j
 | .str a, .str b => a == b
 | .tup xs, .tup ys => gR xs ys
 | .lst xs, .lst ys => gR xs ys
 | .cQ a, .cQ b => decide (a = b)
 | _, _ => false
noncomputable def gR : List D -> List D -> Bool
 | [], [] => true
 | x :: xs, y :: ys => bL x y && gR xs ys
 | _, _ => false
end
noncomputable def dR : Nat -> D -> Bool
 | _, .non => true | _, .bl _ => true | _, .int _ => true | _, .str _ => true
 | 0, .tup _ => false | 0, .lst _ => false | _, .cQ _ => false
 | n + 1, .tup ds => ds.all (dR n)
 | n + 1, .lst ds => ds.all (dR n)
inductive Sl where
 | aV | val (b : Bool) (d : D) | own (b : Bool) (ds : List D) | lent (ds : List D) | fc (m : Dc)
 deriving Inhabited
inductive R where
 | val (d : D) | own (ds : List D)
 deriving Inhabited
noncomputable def R.d : R -> D
 | .val d => d
 | .own ds => .lst ds
inductive Res (α : Type) where
 | ok (a : α) (ρ : List Sl) | exc (k : Nat) (ρ : List Sl) | stuck
 deriving Inhabited
noncomputable def Res.bind {α β : Type} (f : α -> List Sl -> Res β) : Res α -> Res β
 | .ok a ρ => f a ρ
 | .exc _ _ => .stuck
 | .stuck => .stuck
noncomputable def lift {α : Type} (o : Option α) (ρ : List Sl) : Res α := match o with
 | some a => .ok a ρ
 | none => .stuck
inductive Op where | add | sub | mul | fdiv | mod | pow | shl | shr | band | zG
 deriving DecidableEq
inductive Cm where | eq | ne | lt | le | gt | ge | isN | S8 | inn | DK | isT | zH | leT
 deriving DecidableEq
inductive Ty where | int | bool | str | tuple | list | none
 deriving DecidableEq
inductive U6 where | len | list | tuple | min2 | max2 | S9 | Tc | sum | all | any | sorted | abs | int | YS | YT | Jc | rvs | YW | keys | uM | o7
 deriving DecidableEq
inductive P where
 | var (i : Nat)
 | con (d : D)
 | glob (x : Str) (d : D)
 | bin (o : Op) (a b : P)
 | neg (a : P)
 | not (a : P)
 | and (a b : P)
 | or (a b : P)
 | cmp (o : Cm) (a b : P)
 | chain (o o' : Cm) (a b c : P)
 | ife (c a b : P)
 | tup (as : List P)
 | lst (as : List P)
 | idx (a i : P)
 | slice (a lo hi : P)
 | call (f : Nat) (as : List P)
 | blt (b : U6) (as : List P)
 | inst (ts : List Ty) (a : P)
 | pop (x : Nat)
 | comp (src : P) (n : Nat) (is : List Nat) (one : Bool) (test : Option P) (elt : P)
 | sE (a b : P)
 | enm (a : P)
 | zip (a b : P)
 | rev (a : P)
 | Td (i : Nat) (b : P) (n : Nat) (is : List Nat) (one : Bool) (test : Option P) (elt : P)
 | Pb (x : Nat) (k d : P)
 | vw (x : Nat)
 | Te (x : Nat) (ks : List P)
 | DN (x : Nat) (ks : List P) (d : P)
 deriving Inhabited
noncomputable abbrev lim : Nat := 16777216
noncomputable def nj : D -> D -> Option R
 | .int i, .int j => some (.val (.int (i + j)))
 | .lst xs, .lst ys => if xs.length + ys.length <= lim then some (.own (xs ++ ys)) else none
 | .tup xs, .tup ys => if xs.length + ys.length <= lim then some (.val (.tup (xs ++ ys))) else none
 | .str x, .str y => if x.length + y.length <= lim then some (.val (.str (x ++ y))) else none
 | _, _ => none
noncomputable def oW : D -> D -> Option R
 | .int i, .int j => if ((-18446744073709551616 < i /\ i < 18446744073709551616) \/ (-18446744073709551616 < j /\ j < 18446744073709551616)) then some (.val (.int (i * j))) else none
 | .lst xs, .int k => if 0 <= k /\ 0 < xs.length /\ xs.length * k.toNat <= lim then some (.own (List.replicate k.toNat xs).flatten) else none
 | .tup xs, .int k => if 0 <= k /\ 0 < xs.length /\ xs.length * k.toNat <= lim then some (.val (.tup (List.replicate k.toNat xs).flatten)) else none
 | _, _ => none
noncomputable def uf : D -> D -> Option R
 | .int i, .int j => some (.val (.int (i - j)))
 | _, _ => none
noncomputable def oE : D -> D -> Option R
 | .int i, .int j => if 0 < j /\ j < 1606938044258990275541962092341162602522202993782792835301376 then some (.val (.int (i / j))) else none
 | _, _ => none
noncomputable def uh : D -> D -> Option R
 | .int i, .int j => if 0 < j then some (.val (.int (i % j))) else none
 | _, _ => none
noncomputable def sJ : D -> D -> Option R
 | .int i, .int j => if 0 <= j /\ j <= 1000 /\ i.natAbs < 18446744073709551616 then some (.val (.int (i ^ j.toNat))) else none
 | _, _ => none
noncomputable def Dd : D -> D -> Option R
 | .int i, .int j => if 0 <= j /\ j <= 1000 /\ i.natAbs < 18446744073709551616 then some (.val (.int (i * 2 ^ j.toNat))) else none
 | _, _ => none
noncomputable def Df : D -> D -> Option R
 | .int i, .int j => if 0 <= j then some (.val (.int (i / 2 ^ j.toNat))) else none
 | _, _ => none
noncomputable def vZ : D -> D -> Option R
 | .int i, .int j => some (.val (.int (Builtin.bitAnd i j)))
 | _, _ => none
noncomputable def flat : D -> Bool
 | .tup _ => false | .lst _ => false | .cQ _ => false | _ => true
noncomputable def items : D -> Option (List D)
 | .lst ds => some ds
 | .tup ds => some ds
 | _ => none
noncomputable def Dp : D -> Option (List D)
 | .tup ds => some ds
 | _ => none
noncomputable def Dj (x y : D) : Option Bool := if dR 8 x && dR 8 y then some (bL x y) else none
noncomputable def CZ (x y : D) : Option Bool := if dR 8 x && dR 8 y then some (!bL x y) else none
noncomputable def Eb (f : Int -> Int -> Bool) : D -> D -> Option Bool
 | .int i, .int j => some (f i j)
 | _, _ => none
noncomputable def jc : D -> Bool
 | .non => true
 | _ => false
noncomputable def Z6 (neg : Bool) (x : D) : D -> Option Bool
 | .non => some (if neg then !jc x else jc x)
 | _ => none
noncomputable def pG (neg : Bool) (x y : D) : Option Bool := (items y).bind fun ys => if (flat x && ys.all flat) = true then some (if neg then !(ys.any fun y => bL y x) else ys.any fun y => bL y x) else none
noncomputable def U4 (neg : Bool) : D -> D -> Option Bool
 | .bl b, .bl true => some (if neg then !b else b)
 | _, _ => none
noncomputable def bz : List Int -> List Int -> Bool
 | [], _ :: _ => true
 | i :: is, j :: js => decide (i < j) || (decide (i = j) && bz is js)
 | _, [] => false
noncomputable def dj : D -> Int
 | .int i => i
 | _ => 0
noncomputable def cX : D -> List Int
 | .int i => [i]
 | .tup ds => ds.map dj
 | _ => []
noncomputable def di : D -> Bool
 | .int _ => true
 | _ => false
noncomputable def Dc.get : Dc -> D -> Option (Option Int)
 | .k kvs, .int i => some ((kvs.find? fun kv => decide (kv.1 = i)).map (·.2))
 | _, _ => none
noncomputable def putD {κ : Type} [DecidableEq κ] (kvs : List (κ × Int)) (k : κ) (v : Int) : List (κ × Int) :=
 if (kvs.any fun kv => decide (kv.1 = k)) = true then kvs.map (fun kv => if kv.1 = k then (kv.1, v) else kv) else kvs ++ [(k, v)]
noncomputable def Dc.put : Dc -> D -> Int -> Option Dc
 | .k kvs, .int i, v => if kvs.length < lim then some (.k (putD kvs i v)) else none
 | _, _, _ => none
noncomputable def Dc.u6 : Dc -> List D -> Option (Option Int)
 | .t kvs, ds => if ds.all di = true then some ((kvs.find? fun kv => decide (kv.1 = ds.map dj)).map (·.2)) else none
 | _, _ => none
noncomputable def Dc.Mj : Dc -> List D -> Int -> Option Dc
 | .t kvs, ds, v => if ds.all di = true /\ kvs.length < lim then some (.t (putD kvs (ds.map dj) v)) else none
 | _, _, _ => none
noncomputable def xM : D -> List D -> Option R
 | .cQ m, ks => (m.u6 ks).bind fun o => o.map fun v => .val (.int v)
 | _, _ => none
noncomputable def qy : D -> D -> Option R
 | .cQ m, k => (m.get k).bind fun o => o.map fun v => .val (.int v)
 | _, _ => none
noncomputable def sy : Op -> D -> D -> Option R
 | .add => nj
 | .mul => oW
 | .sub => uf
 | .fdiv => oE
 | .mod => uh
 | .pow => sJ
 | .shl => Dd
 | .shr => Df
 | .band => vZ
 | .zG => qy
noncomputable def Qu : D -> D -> Option Bool
 | .int i, .int j => some (decide (i < j))
 | .tup xs, .tup ys => if (xs.all di && ys.all di) = true then some (bz (xs.map dj) (ys.map dj)) else none
 | _, _ => none
noncomputable def W5 : D -> D -> Option Bool
 | .int i, .int j => some (decide (i <= j))
 | .tup xs, .tup ys => if (xs.all di && ys.all di) = true then some (!bz (ys.map dj) (xs.map dj)) else none
 | _, _ => none
noncomputable def cm : Cm -> D -> D -> Option Bool
 | .eq => Dj
 | .ne => CZ
 | .lt => Qu
 | .le => Eb fun i j => decide (i <= j)
 | .leT => W5
 | .gt => Eb fun i j => decide (j < i)
 | .ge => Eb fun i j => decide (j <= i)
 | .isN => Z6 false
 | .S8 => Z6 true
 | .inn => pG false
 | .DK => pG true
 | .isT => U4 false
 | .zH => U4 true
noncomputable def lX (o : Cm) (x y : D) : Option R := (cm o x y).map fun k => .val (.bl k)
noncomputable def jx (n : Nat) (i : Int) : Option Nat := if 0 <= i then (if i < n then some i.toNat else none) else if -(n : Int) <= i then some (i + n).toNat else none
noncomputable def at' {α : Type} (xs : List α) (i : Int) : Option α := (jx xs.length i).bind fun j => xs[j]?
noncomputable def cN (n d : Nat) : Option Int -> Nat
 | none => d
 | some i => if 0 <= i then min i.toNat n else (i + n).toNat
noncomputable def cut {α : Type} (xs : List α) (lo hi : Option Int) : List α := (xs.drop (cN xs.length 0 lo)).take (cN xs.length xs.length hi - cN xs.length 0 lo)
noncomputable def optI : D -> Option (Option Int)
 | .non => some none
 | .int i => some (some i)
 | _ => none
noncomputable def oh : D -> Option Int
 | .int i => some i
 | _ => none
noncomputable def uJ : D -> Option Bool
 | .bl b => some b
 | _ => none
noncomputable def uX (x y : D) : Option R := (items x).bind fun ds => (oh y).bind fun i => (at' ds i).map .val
noncomputable def Gz (x : D) : Option R := (oh x).map fun i => .val (.int (-i))
noncomputable def Br : P -> Bool
 | .con .non => true
 | _ => false
noncomputable def part (p : P) (d : D) : Option (Option Int) := if Br p then some none else (oh d).map some
noncomputable def JD : D -> Option (Option Int) -> Option (Option Int) -> Option R
 | .lst xs, some lo, some hi => some (.own (cut xs lo hi))
 | .tup xs, some lo, some hi => some (.val (.tup (cut xs lo hi)))
 | _, _, _ => none
noncomputable def cJ : Ty -> D -> Bool
 | .int, .int _ => true | .int, .bl _ => true | .bool, .bl _ => true | .str, .str _ => true | .tuple, .tup _ => true | .list, .lst _ => true | .none, .non => true
 | _, _ => false
noncomputable def lW : D -> Bool
 | .tup (x :: xs) => (x :: xs).all di
 | _ => false
noncomputable def sortable (ds : List D) : Bool := decide (ds.length < 64) && (ds.all di || ds.all lW)
noncomputable def iQ (ds : List D) : List D := ds.mergeSort fun a b => !bz (cX b) (cX a)
noncomputable def lF : D -> Option (List D)
 | .lst ds => some ds
 | _ => none
noncomputable def blt : U6 -> List D -> Option R
 | .len, [x] => (items x).map fun ds => .val (.int ds.length)
 | .list, [x] => (items x).map fun ds => .own ds
 | .tuple, [x] => (items x).map fun ds => .val (.tup ds)
 | .min2, [.int i, .int j] => some (.val (.int (if j < i then j else i)))
 | .max2, [.int i, .int j] => some (.val (.int (if i < j then j else i)))
 | .S9, [x] => ((items x).bind fun ds => ds.mapM oh).bind fun ns => ns.min?.map fun i => .val (.int i)
 | .Tc, [x] => ((items x).bind fun ds => ds.mapM oh).bind fun ns => ns.max?.map fun i => .val (.int i)
 | .sum, [x] => ((items x).bind fun ds => ds.mapM oh).map fun ns => .val (.int ns.sum)
 | .YS, [x] => ((items x).bind fun ds => ds.mapM oh).map fun ns => .val (match ns.min? with | some i => .int i | none => .non)
 | .YT, [x] => ((items x).bind fun ds => ds.mapM oh).map fun ns => .val (match ns.max? with | some i => .int i | none => .non)
 | .all, [x] => ((lF x).bind fun ds => ds.mapM uJ).map fun bs => .val (.bl (bs.all id))
 | .any, [x] => ((lF x).bind fun ds => ds.mapM uJ).map fun bs => .val (.bl (bs.any id))
 | .sorted, [x] => (lF x).bind fun ds => if sortable ds then some (.own (iQ ds)) else none
 | .abs, [.int i] => some (.val (.int (if i < 0 then -i else i)))
 | .int, [.int i] => some (.val (.int i))
 | .int, [.bl b] => some (.val (.int (if b then 1 else 0)))
 | .Jc, [.lst ds] => if ds.length <= 16777216 then some (.own ds) else none
 | .rvs, [.tup ds] => some (.val (.tup ds.reverse))
 | .YW, [.lst ds] => some (.own ds.reverse)
 | .keys, [.cQ (.k kvs)] => some (.val (.tup (kvs.map fun p => .int p.1)))
 | .o7, [.cQ (.t kvs)] => if sortable (kvs.map fun p => .tup (p.1.map D.int)) then some (.own (iQ (kvs.map fun p => .tup (p.1.map D.int)))) else none
 | .uM, [.cQ (.k kvs)] => if sortable (kvs.map fun p => .int p.1) then some (.own (iQ (kvs.map fun p => .int p.1))) else none
 | _, _ => none
noncomputable def pk (ρ : List Sl) (i : Nat) : Option D := match ρ[i]? with
 | some (.val _ d) => some d
 | some (.own _ ds) => some (.lst ds)
 | some (.lent ds) => some (.lst ds)
 | _ => none
noncomputable def Ks (ρ : List Sl) (i : Nat) : Option (List D) := match pk ρ i with
 | some (.lst ds) => some ds
 | _ => none
noncomputable abbrev Ev := List Sl -> Res R
noncomputable def isVar : P -> Option Nat
 | .var i => some i
 | _ => none
noncomputable def fj (i : Option Nat) (e : Ev) (ρ : List Sl) : Res D := match i with
 | some i => lift (pk ρ i) ρ
 | none => (e ρ).bind fun r ρ => .ok r.d ρ
noncomputable def jj (i : Option Nat) (e : Ev) (j : Option Nat) (f : Ev) (ρ : List Sl) : Res (D × D) := match i with
 | some i => (lift (pk ρ i) ρ).bind fun _ ρ => (fj j f ρ).bind fun y ρ => (lift (pk ρ i) ρ).bind fun x ρ => .ok (x, y) ρ
 | none => (fj none e ρ).bind fun x ρ => (fj j f ρ).bind fun y ρ => .ok (x, y) ρ
noncomputable def jB (e : Ev) (ρ : List Sl) : Res Bool := (e ρ).bind fun r ρ => lift (uJ r.d) ρ
inductive Arg where
 | dat (d : D) | tmp (ds : List D) | fu (i : Nat)
noncomputable def tV : R -> Arg
 | .val d => .dat d
 | .own ds => .tmp ds
noncomputable def bG (ρ : List Sl) : List Arg -> List Nat -> Option (List Sl)
 | [], _ => some []
 | .dat d :: r, used => (bG ρ r used).map fun s => .val false d :: s
 | .tmp ds :: r, used => (bG ρ r used).map fun s => .own false ds :: s
 | .fu i :: r, used => match ρ[i]? with
   | some (.val _ d) => (bG ρ r used).map fun s => .val false d :: s
   | some (.own _ ds) => if used.contains i then none else (bG ρ r (i :: used)).map fun s => .own true ds :: s
   | some (.lent ds) => if used.contains i then none else (bG ρ r (i :: used)).map fun s => .lent ds :: s
   | _ => none
noncomputable def aW (i : Nat) : List Arg -> List Sl -> Option Sl
 | .fu k :: as, s :: ss => if k = i then some s else aW i as ss
 | .dat _ :: as, _ :: ss => aW i as ss
 | .tmp _ :: as, _ :: ss => aW i as ss
 | _, _ => none
noncomputable def dU : Sl -> Option Sl -> Sl
 | .own b _, some (.own _ ds) => .own b ds
 | .own b _, some (.val _ d) => .val b d
 | s, _ => s
noncomputable def cG (as : List Arg) (ss : List Sl) : Nat -> List Sl -> List Sl
 | _, [] => []
 | i, s :: ρ => dU s (aW i as ss) :: cG as ss (i + 1) ρ
noncomputable abbrev Call := Nat -> List Sl -> Res R
noncomputable def jq (c : Call) (f : Nat) (as : List Arg) (ρ : List Sl) : Res R := match bG ρ as [] with
 | none => .stuck
 | some args => match c f args with
   | .ok r args' => .ok r (cG as args' 0 ρ)
   | .exc _ _ => .stuck
   | .stuck => .stuck
noncomputable def put (ρ : List Sl) (i : Nat) (s : Sl) : Option (List Sl) := match ρ[i]? with
 | some .aV => some (ρ.set i s)
 | some (.val false _) => some (ρ.set i s)
 | some (.own false _) => some (ρ.set i s)
 | _ => none
noncomputable def putAll (ρ : List Sl) : List Nat -> List D -> Option (List Sl)
 | [], [] => some ρ
 | i :: is, d :: ds => (put ρ i (.val false d)).bind fun ρ => putAll ρ is ds
 | _, _ => none
noncomputable def cM (ρ : List Sl) (is : List Nat) (one : Bool) (d : D) : Option (List Sl) := match one, is, d with
 | true, [i], d => put ρ i (.val false d)
 | false, is, .tup ds => putAll ρ is ds
 | _, _, _ => none
noncomputable def srcOf (i : Option Nat) (e : Ev) (ρ : List Sl) : Res (List D) := match i with
 | some i => match ρ[i]? with
   | some (.val _ d) => lift (items d) ρ
   | some (.own _ ds) => .ok ds (ρ.set i (.lent ds))
   | some (.lent ds) => .ok ds ρ
   | _ => .stuck
 | none => (e ρ).bind fun r ρ => lift (items r.d) ρ
noncomputable def bB (ρ₀ : List Sl) (i : Option Nat) (ρ : List Sl) : List Sl := match i with
 | some i => match ρ₀[i]? with
   | some (.own b ds) => ρ.set i (.own b ds)
   | _ => ρ
 | none => ρ
noncomputable def Yd (i : Nat) (f : Ev) (ρ : List Sl) : Res (List D × List Sl) := (lift (pk ρ i) ρ).bind fun _ ρ => (f ρ).bind fun r ρb => (lift (items r.d) ρb).bind fun es ρb => match ρb[i]? with
 | some (.val _ d) => (lift (items d) ρb).bind fun ds ρb => .ok ((ds.zip es).map fun p => D.tup [p.1, p.2], ρb) ρb
 | some (.own _ ds) => .ok ((ds.zip es).map fun p => D.tup [p.1, p.2], ρb) (ρb.set i (.lent ds))
 | some (.lent ds) => .ok ((ds.zip es).map fun p => D.tup [p.1, p.2], ρb) ρb
 | _ => .stuck
noncomputable def turns (is : List Nat) (one : Bool) (test : List Sl -> Res Bool) (elt : Ev) : List D -> List D -> List Sl -> Res (List D)
 | [], acc, ρ => .ok acc ρ
 | d :: r, acc, ρ => match cM ρ is one d with
   | none => .stuck
   | some ρ => (test ρ).bind fun b ρ => if b then (elt ρ).bind fun x ρ => turns is one test elt r (acc ++ [x.d]) ρ else turns is one test elt r acc ρ
mutual
noncomputable def ev (c : Call) : P -> List Sl -> Res R
 | .var i, ρ => match ρ[i]? with
   | some (.val _ d) => .ok (.val d) ρ
   | some (.own b ds) => .ok (.val (.lst ds)) (ρ.set i (.val b (.lst ds)))
   | some (.fc (.k kvs)) => .ok (.val (.cQ (.k kvs))) (ρ.set i (.val false (.cQ (.k kvs))))
   | _ => .stuck
 | .con d, ρ => .ok (.val d) ρ
 | .glob _ d, ρ => .ok (.val d) ρ
 | .bin o a b, ρ => (jj (isVar a) (ev c a) (isVar b) (ev c b) ρ).bind fun xy ρ => lift (sy o xy.1 xy.2) ρ
 | .neg a, ρ => (fj (isVar a) (ev c a) ρ).bind fun x ρ => lift (Gz x) ρ
 | .not a, ρ => (jB (ev c a) ρ).bind fun b ρ => .ok (.val (.bl (!b))) ρ
 | .and a b, ρ => (jB (ev c a) ρ).bind fun x ρ => if x then (jB (ev c b) ρ).bind fun y ρ => .ok (.val (.bl y)) ρ else .ok (.val (.bl false)) ρ
 | .or a b, ρ => (jB (ev c a) ρ).bind fun x ρ => if x then .ok (.val (.bl true)) ρ else (jB (ev c b) ρ).bind fun y ρ => .ok (.val (.bl y)) ρ
 | .cmp o a b, ρ => (jj (isVar a) (ev c a) (isVar b) (ev c b) ρ).bind fun xy ρ => lift (lX o xy.1 xy.2) ρ
 | .chain o o' a b d, ρ => (jj (isVar a) (ev c a) (isVar b) (ev c b) ρ).bind fun xy ρ => (lift (if flat xy.2 = true then cm o xy.1 xy.2 else none) ρ).bind fun k ρ =>
  if k then (fj (isVar d) (ev c d) ρ).bind fun z ρ => lift (lX o' xy.2 z) ρ else .ok (.val (.bl false)) ρ
 | .ife t a b, ρ => (jB (ev c t) ρ).bind fun k ρ => if k then (ev c a ρ).bind fun r ρ => .ok (.val r.d) ρ else (ev c b ρ).bind fun r ρ => .ok (.val r.d) ρ
 | .tup as, ρ => (evs c as ρ).bind fun ds ρ => .ok (.val (.tup ds)) ρ
 | .lst as, ρ => (evs c as ρ).bind fun ds ρ => .ok (.own ds) ρ
 | .idx a i, ρ => (jj (isVar a) (ev c a) (isVar i) (ev c i) ρ).bind fun xy ρ => lift (uX xy.1 xy.2) ρ
 | .slice a l h, ρ => match isVar a with
   | some i => (lift (pk ρ i) ρ).bind fun _ ρ => (fj (isVar l) (ev c l) ρ).bind fun y ρ => (fj (isVar h) (ev c h) ρ).bind fun z ρ => (lift (pk ρ i) ρ).bind fun x ρ => lift (JD x (part l y) (part h z)) ρ
   | none => (fj none (ev c a) ρ).bind fun x ρ => (fj (isVar l) (ev c l) ρ).bind fun y ρ => (fj (isVar h) (ev c h) ρ).bind fun z ρ => lift (JD x (part l y) (part h z)) ρ
 | .call f as, ρ => (vW c as ρ).bind fun xs ρ => jq c f xs ρ
 | .blt b [a], ρ => (fj (isVar a) (ev c a) ρ).bind fun x ρ => lift (blt b [x]) ρ
 | .blt b as, ρ => (evs c as ρ).bind fun ds ρ => lift (blt b ds) ρ
 | .inst ts a, ρ => (fj (isVar a) (ev c a) ρ).bind fun x ρ => .ok (.val (.bl (ts.any fun t => cJ t x))) ρ
 | .pop x, ρ => match ρ[x]? with
   | some (.own b ds) => lift (ds.getLast?.map .val) (ρ.set x (.own b ds.dropLast))
   | _ => .stuck
 | .comp src n is one test elt, ρ => (srcOf (isVar src) (ev c src) ρ).bind fun ds ρ₁ =>
  if ds.length <= lim then (turns is one (pg c test) (ev c elt) ds [] (ρ₁ ++ List.replicate n .aV)).bind fun xs ρ₂ => .ok (.own xs) (bB ρ (isVar src) (ρ₂.take ρ₁.length)) else .stuck
 | .sE a b, ρ => (jj (isVar a) (ev c a) (isVar b) (ev c b) ρ).bind fun xy ρ => lift ((oh xy.1).bind fun i => (oh xy.2).bind fun j =>
  if -1000000 <= i /\ i <= 1000000000 /\ j <= 1000000000 /\ -1000000000 <= j then some (.val (.lst ((List.range (j - i).toNat).map fun (k : Nat) => D.int (i + (k : Int))))) else none) ρ
 | .enm a, ρ => (ev c a ρ).bind fun r ρ => lift ((items r.d).map fun ds => .val (.lst (ds.mapIdx fun i d => D.tup [.int (i : Int), d]))) ρ
 | .zip a b, ρ => (ev c a ρ).bind fun x ρ => (ev c b ρ).bind fun y ρ => lift ((items x.d).bind fun ds => (items y.d).map fun es => .val (.lst ((ds.zip es).map fun p => D.tup [p.1, p.2]))) ρ
 | .rev a, ρ => (ev c a ρ).bind fun r ρ => lift ((Dp r.d).map fun ds => .val (.lst ds.reverse)) ρ
 | .Td i b n is one test elt, ρ => (Yd i (ev c b) ρ).bind fun du ρ₁ =>
  if du.1.length <= lim then (turns is one (pg c test) (ev c elt) du.1 [] (ρ₁ ++ List.replicate n .aV)).bind fun xs ρ₂ => .ok (.own xs) (bB du.2 (some i) (ρ₂.take ρ₁.length)) else .stuck
 | .Pb x k d, ρ => match ρ[x]? with
   | some (.fc _) => (fj (isVar k) (ev c k) ρ).bind fun kd ρ => (fj (isVar d) (ev c d) ρ).bind fun dd ρ => match ρ[x]? with
     | some (.fc m) => lift ((m.get kd).bind fun o => (oh dd).map fun v => .val (.int (o.getD v))) ρ
     | _ => .stuck
   | _ => .stuck
 | .vw x, ρ => match ρ[x]? with
   | some (.fc m) => .ok (.val (.cQ m)) (ρ.set x (.val false (.cQ m)))
   | _ => .stuck
 | .Te x ks, ρ => (lift (pk ρ x) ρ).bind fun _ ρ => (evs c ks ρ).bind fun pI ρ => (lift (pk ρ x) ρ).bind fun dd ρ => lift (xM dd pI) ρ
 | .DN x ks d, ρ => match ρ[x]? with
   | some (.fc _) => (evs c ks ρ).bind fun pI ρ => (fj (isVar d) (ev c d) ρ).bind fun dd ρ => match ρ[x]? with
     | some (.fc m) => lift ((m.u6 pI).bind fun o => (oh dd).map fun v => .val (.int (o.getD v))) ρ
     | _ => .stuck
   | _ => .stuck
noncomputable def evs (c : Call) : List P -> List Sl -> Res (List D)
 | [], ρ => .ok [] ρ
 | a :: r, ρ => (ev c a ρ).bind fun x ρ => (evs c r ρ).bind fun xs ρ => .ok (x.d :: xs) ρ
noncomputable def vW (c : Call) : List P -> List Sl -> Res (List Arg)
 | [], ρ => .ok [] ρ
 | a :: r, ρ => match isVar a with
   | some i => (lift (pk ρ i) ρ).bind fun _ ρ => (vW c r ρ).bind fun xs ρ => .ok (.fu i :: xs) ρ
   | none => (ev c a ρ).bind fun x ρ => (vW c r ρ).bind fun xs ρ => .ok (tV x :: xs) ρ
noncomputable def pg (c : Call) : Option P -> List Sl -> Res Bool
 | none, ρ => .ok true ρ
 | some t, ρ => jB (ev c t) ρ
end
inductive S where
 | pass | brk | cont | bad
 | expr (e : P)
 | asg (i : Nat) (e : P)
 | par (i j : Nat) (a b : P)
 | Vw (i : List Nat) (e : P)
 | DP (x : Nat) (i e : P)
 | app (x : Nat) (e : P)
 | ext (x : Nat) (e : P)
 | ret (e : P) | YX
 | ifs (c : P) (a b : List S)
 | ie (src : P) (i : List Nat) (one : Bool) (body : List S)
 | whl (c : P) (body : List S)
 | YZ (x : Nat) (i : P)
 | swp (x : Nat) (i : P) (y : Nat) (j : P) (a b : P)
 | aug (x : Nat) (sub : Bool) (e : P)
 | Y0 (x : Nat) (i : P) (sub : Bool) (e : P)
 | Y4 (x : Nat) (e : P)
 | DQ (k : Nat)
 | Y5 (body : List S) (k : Nat) (d : D)
 | Y6 (body : List S) (x : Nat) (hs : List (List S))
 | wG (x : Nat) (t : Bool)
 | dput (x : Nat) (k e : P)
 | yt (x : Nat) (ks : List P) (e : P)
 deriving Inhabited
inductive Fl where
 | next | brk | cont | ret (r : R)
 deriving Inhabited
noncomputable def yC : R -> Sl
 | .val d => .val false d
 | .own ds => .own false ds
noncomputable def mz (is : List Nat) (one : Bool) (body : List Sl -> Res Fl) : List D -> List Sl -> Res Fl
 | [], ρ => .ok .next ρ
 | d :: r, ρ => match cM ρ is one d with
   | none => .stuck
   | some ρ => (body ρ).bind fun fl ρ => match fl with
     | .next => mz is one body r ρ
     | .cont => mz is one body r ρ
     | .brk => .ok .next ρ
     | .ret r => .ok (.ret r) ρ
noncomputable def Aq (test : List Sl -> Res Bool) (body : List Sl -> Res Fl) : Nat -> List Sl -> Res Fl
 | 0, _ => .stuck
 | n + 1, ρ => (test ρ).bind fun b ρ => if b then (body ρ).bind fun fl ρ => match fl with
     | .next => Aq test body n ρ
     | .cont => Aq test body n ρ
     | .brk => .ok .next ρ
     | .ret r => .ok (.ret r) ρ
  else .ok .next ρ
noncomputable def K8 (is : List Nat) (one : Bool) (body : List Sl -> Res Fl) (bx : List Sl -> Option (Nat × List Sl)) : List D -> List Sl -> Option (Nat × List Sl)
 | [], _ => none
 | d :: r, ρ => match cM ρ is one d with
   | none => none
   | some ρ => match bx ρ with
     | some x => some x
     | none => match body ρ with
       | .ok .next ρ1 => K8 is one body bx r ρ1
       | .ok .cont ρ1 => K8 is one body bx r ρ1
       | _ => none
noncomputable def KN : P -> P
 | .idx a _ => a
 | e => e
noncomputable def unl : Sl -> Bool
 | .aV => true
 | .val b _ => !b
 | .own b _ => !b
 | .lent _ => false
 | .fc _ => true
noncomputable def Iz (c : Call) (e : P) (ρ : List Sl) : Option (Nat × List Sl) := match KN e with
 | .call f as => match vW c as ρ with
   | .ok xs ρ1 => match bG ρ1 xs [] with
     | some args => match c f args with
       | .exc k args' => some (k, cG xs args' 0 ρ1)
       | _ => none
     | none => none
   | _ => none
 | _ => none
mutual
noncomputable def ex (c : Call) (n : Nat) : S -> List Sl -> Res Fl
 | .pass, ρ => .ok .next ρ
 | .brk, ρ => .ok .brk ρ
 | .cont, ρ => .ok .cont ρ
 | .bad, _ => .stuck
 | .expr e, ρ => (ev c e ρ).bind fun _ ρ => .ok .next ρ
 | .asg i e, ρ => (ev c e ρ).bind fun r ρ => (lift (put ρ i (yC r)) ρ).bind fun ρ' _ => .ok .next ρ'
 | .par i j a b, ρ => (ev c a ρ).bind fun x ρ => (ev c b ρ).bind fun y ρ => (lift ((put ρ i (.val false x.d)).bind fun ρ => put ρ j (.val false y.d)) ρ).bind fun ρ' _ => .ok .next ρ'
 | .Vw is e, ρ => (ev c e ρ).bind fun r ρ => match r.d with
   | .tup ds => (lift (putAll ρ is ds) ρ).bind fun ρ' _ => .ok .next ρ'
   | _ => .stuck
 | .DP x i e, ρ => (ev c e ρ).bind fun r ρ => (lift (pk ρ x) ρ).bind fun _ ρ => (fj (isVar i) (ev c i) ρ).bind fun k ρ => match ρ[x]?, k with
   | some (.own b ds), .int k => match jx ds.length k with
     | some j => .ok .next (ρ.set x (.own b (ds.set j r.d)))
     | none => .stuck
   | _, _ => .stuck
 | .app x e, ρ => (lift (Ks ρ x) ρ).bind fun _ ρ => (ev c e ρ).bind fun r ρ => match ρ[x]? with
   | some (.own b ds) => if ds.length < lim then .ok .next (ρ.set x (.own b (ds ++ [r.d]))) else .stuck
   | _ => .stuck
 | .ext x e, ρ => (lift (Ks ρ x) ρ).bind fun _ ρ => (ev c e ρ).bind fun r ρ => match ρ[x]?, r.d with
   | some (.own b ds), .lst es => if ds.length + es.length <= lim then .ok .next (ρ.set x (.own b (ds ++ es))) else .stuck
   | _, _ => .stuck
 | .ret e, ρ => match isVar e with
   | some i => match ρ[i]? with
     | some (.own false ds) => .ok (.ret (.own ds)) (ρ.set i .aV)
     | _ => (ev c e ρ).bind fun r ρ => .ok (.ret r) ρ
   | none => (ev c e ρ).bind fun r ρ => .ok (.ret r) ρ
 | .YX, ρ => .ok (.ret (.val .non)) ρ
 | .ifs t a b, ρ => (jB (ev c t) ρ).bind fun k ρ => if k then jg c n a ρ else jg c n b ρ
 | .ie src is one body, ρ => (srcOf (isVar src) (ev c src) ρ).bind fun ds ρ₁ => (mz is one (jg c n body) ds ρ₁).bind fun fl ρ₂ => .ok fl (bB ρ (isVar src) ρ₂)
 | .whl t body, ρ => Aq (jB (ev c t)) (jg c n body) n ρ
 | .YZ x i, ρ => (lift (Ks ρ x) ρ).bind fun _ ρ => (fj (isVar i) (ev c i) ρ).bind fun k ρ => match ρ[x]?, k with
   | some (.own b ds), .int k => match jx ds.length k with
     | some j => if ds.length <= lim then .ok .next (ρ.set x (.own b (ds.eraseIdx j))) else .stuck
     | none => .stuck
   | _, _ => .stuck
 | .swp x i y j a b, ρ => (ev c a ρ).bind fun u ρ => (ev c b ρ).bind fun v ρ => (lift (pk ρ x) ρ).bind fun _ ρ => (fj (isVar i) (ev c i) ρ).bind fun k ρ => match ρ[x]?, k with
   | some (.own b ds), .int k => match jx ds.length k with
     | some m => (lift (pk (ρ.set x (.own b (ds.set m u.d))) y) (ρ.set x (.own b (ds.set m u.d)))).bind fun _ ρ => (fj (isVar j) (ev c j) ρ).bind fun k ρ => match ρ[y]?, k with
       | some (.own b ds), .int k => match jx ds.length k with
         | some m => .ok .next (ρ.set y (.own b (ds.set m v.d)))
         | none => .stuck
       | _, _ => .stuck
     | none => .stuck
   | _, _ => .stuck
 | .aug x sub e, ρ => (lift (pk ρ x) ρ).bind fun a ρ => (fj (isVar e) (ev c e) ρ).bind fun b ρ => match a, b with
   | .int i, .int j => (lift (put ρ x (.val false (.int (if sub then i - j else i + j)))) ρ).bind fun ρ' _ => .ok .next ρ'
   | _, _ => .stuck
 | .Y0 x i sub e, ρ => (lift (pk ρ x) ρ).bind fun _ ρ => (fj (isVar i) (ev c i) ρ).bind fun k ρ => (lift (pk ρ x) ρ).bind fun l ρ => (lift (uX l k) ρ).bind fun a ρ => (fj (isVar e) (ev c e) ρ).bind fun b ρ => match a, b, ρ[x]?, k with
   | .val (.int u), .int v, some (.own bb ds), .int k => match jx ds.length k with
     | some j => .ok .next (ρ.set x (.own bb (ds.set j (.int (if sub then u - v else u + v)))))
     | none => .stuck
   | _, _, _, _ => .stuck
 | .Y4 x e, ρ => (lift (Ks ρ x) ρ).bind fun _ ρ => (ev c e ρ).bind fun r ρ => match ρ[x]?, r with
   | some (.own b ds), .own es => if ds.length + es.length <= lim then .ok .next (ρ.set x (.own b (ds ++ es))) else .stuck
   | _, _ => .stuck
 | .wG x t, ρ => match ρ[x]? with
   | some .aV => .ok .next (ρ.set x (.fc (if t then .t [] else .k [])))
   | _ => .stuck
 | .dput x k e, ρ => (ev c e ρ).bind fun r ρ => match ρ[x]? with
   | some (.fc _) => (fj (isVar k) (ev c k) ρ).bind fun kd ρ => match ρ[x]?, r with
     | some (.fc m), .val (.int v) => match m.put kd v with
       | some m' => .ok .next (ρ.set x (.fc m'))
       | none => .stuck
     | _, _ => .stuck
   | _ => .stuck
 | .DQ _, _ => .stuck
 | .Y5 body k d, ρ => match jg c n body ρ with
   | .ok fl ρ' => .ok fl ρ'
   | _ => match vX c n body ρ with
     | some (k', ρ') => if k' = k then .ok (.ret (.val d)) ρ' else .stuck
     | none => .stuck
 | .Y6 body x hs, ρ => match jg c n body ρ with
   | .ok fl ρ' => .ok fl ρ'
   | _ => match vX c n body ρ with
     | some (k, _) => if ρ.all unl = true then match Z0 c n hs k (List.replicate ρ.length .aV) with
      | .ok .next ρ2 => match ρ2[x]? with
        | some .aV => .ok .next ρ2
        | _ => .stuck
      | _ => .stuck
      else .stuck
     | none => .stuck
 | .yt x ks e, ρ => (ev c e ρ).bind fun r ρ => match ρ[x]? with
   | some (.fc _) => (evs c ks ρ).bind fun pI ρ => match ρ[x]?, r with
     | some (.fc m), .val (.int v) => match m.Mj pI v with
       | some m' => .ok .next (ρ.set x (.fc m'))
       | none => .stuck
     | _, _ => .stuck
   | _ => .stuck
noncomputable def Z0 (c : Call) (n : Nat) : List (List S) -> Nat -> List Sl -> Res Fl
 | [], _, _ => .stuck
 | a :: _, 0, ρ => jg c n a ρ
 | _ :: r, k + 1, ρ => Z0 c n r k ρ
noncomputable def jg (c : Call) (n : Nat) : List S -> List Sl -> Res Fl
 | [], ρ => .ok .next ρ
 | s :: r, ρ => (ex c n s ρ).bind fun fl ρ => match fl with
   | .next => jg c n r ρ
   | fl => .ok fl ρ
noncomputable def exX (c : Call) (n : Nat) : S -> List Sl -> Option (Nat × List Sl)
 | .DQ k, ρ => some (k, ρ)
 | .ifs t a b, ρ => match jB (ev c t) ρ with
   | .ok x ρ1 => if x then vX c n a ρ1 else vX c n b ρ1
   | _ => none
 | .ie src is one body, ρ => match srcOf (isVar src) (ev c src) ρ with
   | .ok ds ρ1 => (K8 is one (jg c n body) (vX c n body) ds ρ1).map fun x => (x.1, bB ρ (isVar src) x.2)
   | _ => none
 | .asg _ e, ρ => Iz c e ρ
 | .expr e, ρ => Iz c e ρ
 | _, _ => none
noncomputable def vX (c : Call) (n : Nat) : List S -> List Sl -> Option (Nat × List Sl)
 | [], _ => none
 | s :: r, ρ => match exX c n s ρ with
   | some x => some x
   | none => match ex c n s ρ with
     | .ok .next ρ1 => vX c n r ρ1
     | _ => none
end
structure Fd where
 np : Nat
 nn : Nat
 body : List S
 deriving Inhabited
noncomputable abbrev Tab := Nat -> Option Fd
noncomputable def enter (c : Call) (n : Nat) (d : Fd) (args : List Sl) : Res R :=
 if args.length = d.np /\ d.np <= d.nn then match jg c n d.body (args ++ List.replicate (d.nn - d.np) .aV) with
  | .ok .next ρ => .ok (.val .non) (ρ.take d.np)
  | .ok (.ret r) ρ => .ok r (ρ.take d.np)
  | _ => match vX c n d.body (args ++ List.replicate (d.nn - d.np) .aV) with
    | some (k, ρ) => .exc k (ρ.take d.np)
    | none => .stuck
 else .stuck
noncomputable def run (Γ : Tab) (w : Nat) : Nat -> Call
 | 0, _, _ => .stuck
 | n + 1, f, args => match Γ f with
   | some d => enter (run Γ w n) w d args
   | none => .stuck
end HH
end
section
namespace HH
open PySem L2
noncomputable def Dc.ho : Dc -> HO
 | .k kvs => .dK (kvs.map fun p => (Sum.inl p.1, V.int p.2))
 | .t kvs => .dT (kvs.map fun p => (p.1.map Sum.inl, V.int p.2))
section
variable (K : PySem.W.Frag)
mutual
noncomputable def Rep (F : Hp) : V -> D -> Prop
 | v, .non => v = .non
 | v, .bl b => v = .bl b
 | v, .int i => v = .int i
 | v, .str x => v = .str x
 | v, .tup ds => ∃ a xs, v = .ref a /\ iY K F a xs /\ aJ F xs ds
 | v, .lst ds => ∃ a xs, v = .ref a /\ gw K F a xs /\ aJ F xs ds
 | v, .cQ m => ∃ a o, v = .ref a /\ F a = some (.gq o m.ho)
noncomputable def aJ (F : Hp) : List V -> List D -> Prop
 | vs, [] => vs = []
 | vs, d :: ds => ∃ v r, vs = v :: r /\ Rep F v d /\ aJ F r ds
end
end
section
variable {K : PySem.W.Frag} {F F' H H' : Hp}
theorem aQ.iZ {a : Addr} {xs : List V} (e : aQ H H') (h : iY K H a xs) : iY K H' a xs := by
 rcases h with (h | ⟨o, h⟩) | h
 . exact .inl (.inl (e _ _ h))
 . exact .inl (.inr ⟨o, e _ _ h⟩)
 . exact .inr h
mutual
theorem Rep.mono (e : aQ F F') : ∀ {d : D} {v : V}, Rep K F v d -> Rep K F' v d
 | .non, _, h => by rw [Rep] at h ⊢; exact h
 | .bl _, _, h => by rw [Rep] at h ⊢; exact h
 | .int _, _, h => by rw [Rep] at h ⊢; exact h
 | .str _, _, h => by rw [Rep] at h ⊢; exact h
 | .tup ds, _, h => by
   rw [Rep] at h ⊢
   obtain ⟨a, xs, rfl, hs, r⟩ := h
   exact ⟨a, xs, rfl, aQ.iZ e hs, aJ.mono e r⟩
 | .lst ds, _, h => by
   rw [Rep] at h ⊢
   obtain ⟨a, xs, rfl, hs, r⟩ := h
   exact ⟨a, xs, rfl, e.seq hs, aJ.mono e r⟩
 | .cQ m, _, h => by
   rw [Rep] at h ⊢
   obtain ⟨a, o, rfl, hs⟩ := h
   exact ⟨a, o, rfl, e _ _ hs⟩
theorem aJ.mono (e : aQ F F') : ∀ {ds : List D} {vs : List V}, aJ K F vs ds -> aJ K F' vs ds
 | [], _, h => by rw [aJ] at h ⊢; exact h
 | d :: ds, _, h => by
   rw [aJ] at h ⊢
   obtain ⟨v, r, rfl, h1, h2⟩ := h
   exact ⟨v, r, rfl, Rep.mono e h1, aJ.mono e h2⟩
end
theorem aJ.nil : aJ K F [] [] := by rw [aJ]
theorem aJ.cons {v : V} {d : D} {vs : List V} {ds : List D} (h : Rep K F v d) (t : aJ K F vs ds) : aJ K F (v :: vs) (d :: ds) := by
 rw [aJ]; exact ⟨v, vs, rfl, h, t⟩
theorem aJ.cB {vs : List V} {d : D} {ds : List D} (h : aJ K F vs (d :: ds)) : ∃ v r, vs = v :: r /\ Rep K F v d /\ aJ K F r ds := by rw [aJ] at h; exact h
theorem aJ.gf {vs : List V} (h : aJ K F vs []) : vs = [] := by rw [aJ] at h; exact h
theorem aJ.length : ∀ {ds : List D} {vs : List V}, aJ K F vs ds -> vs.length = ds.length
 | [], _, h => by rw [h.gf]; rfl
 | d :: ds, _, h => by
   obtain ⟨v, r, rfl, _, t⟩ := h.cB
   simp [aJ.length t]
theorem aJ.get : ∀ {ds : List D} {vs : List V} {i : Nat} {d : D}, aJ K F vs ds -> ds[i]? = some d -> ∃ v, vs[i]? = some v /\ Rep K F v d
 | [], _, _, _, h, e => by simp at e
 | d :: ds, _, 0, _, h, e => by
   obtain ⟨v, r, rfl, h1, t⟩ := h.cB
   simp at e; subst e
   exact ⟨v, rfl, h1⟩
 | d :: ds, _, i + 1, _, h, e => by
   obtain ⟨v, r, rfl, _, t⟩ := h.cB
   simp at e
   obtain ⟨w, e1, e2⟩ := t.get e
   exact ⟨w, by simpa using e1, e2⟩
theorem aJ.append : ∀ {ds es : List D} {vs us : List V}, aJ K F vs ds -> aJ K F us es -> aJ K F (vs ++ us) (ds ++ es)
 | [], _, _, _, h, h' => by rw [h.gf]; exact h'
 | d :: ds, _, _, _, h, h' => by
   obtain ⟨v, r, rfl, h1, t⟩ := h.cB
   exact .cons h1 (t.append h')
theorem aJ.set {v : V} {d : D} (hr : Rep K F v d) : ∀ {ds : List D} {vs : List V} (i : Nat), aJ K F vs ds -> aJ K F (vs.set i v) (ds.set i d)
 | [], _, _, h => by rw [h.gf]; exact .nil
 | _ :: _, _, 0, h => by
   obtain ⟨w, r, rfl, h1, t⟩ := h.cB
   exact .cons hr t
 | _ :: _, _, i + 1, h => by
   obtain ⟨w, r, rfl, h1, t⟩ := h.cB
   exact .cons h1 (aJ.set hr i t)
theorem aJ.take : ∀ {ds : List D} {vs : List V} (n : Nat), aJ K F vs ds -> aJ K F (vs.take n) (ds.take n)
 | [], _, n, h => by rw [h.gf]; simpa using aJ.nil
 | _ :: _, _, 0, h => .nil
 | _ :: _, _, n + 1, h => by
   obtain ⟨w, r, rfl, h1, t⟩ := h.cB
   exact .cons h1 (t.take n)
theorem aJ.drop : ∀ {ds : List D} {vs : List V} (n : Nat), aJ K F vs ds -> aJ K F (vs.drop n) (ds.drop n)
 | [], _, n, h => by rw [h.gf]; simpa using aJ.nil
 | _ :: _, _, 0, h => h
 | _ :: _, _, n + 1, h => by
   obtain ⟨w, r, rfl, h1, t⟩ := h.cB
   exact t.drop n
theorem aJ.rep {ds : List D} {vs : List V} (h : aJ K F vs ds) : ∀ n, aJ K F (List.replicate n vs).flatten (List.replicate n ds).flatten
 | 0 => by simpa using aJ.nil
 | n + 1 => by simpa [List.replicate_succ] using h.append (aJ.rep h n)
inductive Oc where
 | l (ds : List D) | d (m : Dc)
noncomputable def lst? : Sl -> Option Oc
 | .own _ ds => some (.l ds)
 | .lent ds => some (.l ds)
 | .fc m => some (.d m)
 | _ => none
noncomputable def ql (K : PySem.W.Frag) (F : Hp) (o : HO) : Oc -> Prop
 | .l ds => ∃ xs, o = .lst xs /\ aJ K F xs ds
 | .d m => o = m.ho
theorem ql.mono {o : HO} {x : Oc} (e : aQ F F') (h : ql K F o x) : ql K F' o x := by
 cases x with
 | l ds => obtain ⟨xs, e1, h⟩ := h; exact ⟨xs, e1, h.mono e⟩
 | d m => exact h
noncomputable def bI (ρ : List Sl) (σ : St) (i : Nat) (a : Addr) : Prop := (∃ s ds, ρ[i]? = some s /\ lst? s = some ds) /\ σ[i]? = some (some (V.ref a))
noncomputable def Own (ρ : List Sl) (σ : St) (a : Addr) : Prop := ∃ i, bI ρ σ i a
structure GS (K : PySem.W.Frag) (F : Hp) (ρ : List Sl) (σ : St) (H : Hp) : Prop where
 sub : aQ F H
 len : ρ.length = σ.length
 val : ∀ (i : Nat) (b : Bool) (d : D), ρ[i]? = some (Sl.val b d) -> ∃ v : V, σ[i]? = some (some v) /\ Rep K F v d
 own : ∀ (i : Nat) (s : Sl) (ds : Oc), ρ[i]? = some s -> lst? s = some ds -> ∃ (a : Addr) (xs : HO), σ[i]? = some (some (V.ref a)) /\ H a = some xs /\ F a = none /\ ql K F xs ds
 dis : ∀ (i j : Nat) (a : Addr), bI ρ σ i a -> bI ρ σ j a -> i = j
theorem GS.qW {ρ : List Sl} {σ : St} (g : GS K F ρ σ H) (i : Nat) (s : Sl) (ds : List D) (e : ρ[i]? = some s) (e' : lst? s = some (.l ds)) : ∃ (a : Addr) (xs : List V), σ[i]? = some (some (V.ref a)) /\ H a = some (.lst xs) /\ F a = none /\ aJ K F xs ds := by
 obtain ⟨a, o, h1, h2, h3, xs, rfl, h4⟩ := g.own i s (.l ds) e e'
 exact ⟨a, xs, h1, h2, h3, h4⟩
noncomputable def Eh : Sl -> Bool
 | .val b _ => b
 | .own b _ => b
 | .lent _ => true
 | .aV => false
 | .fc _ => false
noncomputable def kI : Sl -> Sl -> Prop
 | .val true d, s => s = .val true d
 | .own true _, s => (∃ ds, s = .own true ds) \/ ∃ d, s = .val true d
 | .lent ds, s => s = .lent ds
 | _, _ => True
theorem kI.refl (s : Sl) : kI s s := by
 unfold kI; split <;> first | rfl | exact .inl ⟨_, rfl⟩ | trivial
theorem kI.Eh {s s' : Sl} (h : kI s s') (l : Eh s = true) : HH.Eh s' = true := by
 cases s with
 | aV => cases l
 | fc _ => cases l
 | val b d => cases b with
   | true => cases h; rfl
   | false => cases l
 | own b d => cases b with
   | true => rcases h with ⟨_, rfl⟩ | ⟨_, rfl⟩ <;> rfl
   | false => cases l
 | lent d => cases h; rfl
theorem kI.trans {s s' s'' : Sl} (l : HH.Eh s = true) (h : kI s s') (h' : kI s' s'') : kI s s'' := by
 cases s with
 | aV => cases l
 | fc _ => cases l
 | val b d => cases b with
   | true => cases h; exact h'
   | false => cases l
 | own b d => cases b with
   | true => rcases h with ⟨_, rfl⟩ | ⟨d, rfl⟩
             . exact h'
             . exact .inr ⟨d, h'⟩
   | false => cases l
 | lent d => cases h; exact h'
noncomputable def nt : Option HO -> Option HO
 | some (.tup _) => none
 | o => o
theorem jO {o : Option HO} (h : o = none) : nt o = none := by rw [h]; rfl
theorem CV {H : Hp} {b : Addr} {xs : List V} (h : H b = some (.lst xs)) (z : nt (H b) = none) : False := by rw [h] at z; cases z
theorem Af {o : HO} {x : Oc} (h : ql K F o x) (z : nt (some o) = none) : False := by
 cases x with
 | l ds => obtain ⟨xs, rfl, _⟩ := h; cases z
 | d m => cases m <;> (cases (show o = _ from h); cases z)
structure cg (K : PySem.W.Frag) (F : Hp) (ρ : List Sl) (σ : St) (H : Hp) (F' : Hp) (ρ' : List Sl) (σ' : St) (H' : Hp) : Prop where
 gs : GS K F' ρ' σ' H'
 cZ : aQ F F'
 zQ : ∀ b, F b = none -> F' b ≠ none -> Own ρ σ b \/ nt (H b) = none
 keep : ∀ b o, H b = some o -> ¬ Own ρ σ b -> H' b = some o
 zJ : ∀ b, Own ρ' σ' b -> Own ρ σ b \/ H b = none
 len : ρ'.length = ρ.length
 lk : ∀ (i : Nat) (s : Sl), ρ[i]? = some s -> Eh s = true -> σ'[i]? = σ[i]? /\ ∃ s', ρ'[i]? = some s' /\ kI s s'
theorem cg.refl {ρ : List Sl} {σ : St} (g : GS K F ρ σ H) : cg K F ρ σ H F ρ σ H :=
 ⟨g, aQ.refl _, fun b h h' => absurd h h', fun _ _ h _ => h, fun _ h => .inl h, rfl, fun i s h _ => ⟨rfl, s, h, .refl s⟩⟩
theorem cg.trans {F1 F2 H1 H2 : Hp} {ρ ρ1 ρ2 : List Sl} {σ σ1 σ2 : St} (a : cg K F ρ σ H F1 ρ1 σ1 H1) (b : cg K F1 ρ1 σ1 H1 F2 ρ2 σ2 H2) : cg K F ρ σ H F2 ρ2 σ2 H2 := by
 have back : ∀ c, Own ρ1 σ1 c \/ H1 c = none -> Own ρ σ c \/ H c = none := fun c h => by
  rcases h with h | h
  . exact a.zJ c h
  . by_cases ho : Own ρ σ c
    . exact .inl ho
    . right
      cases e : H c with
      | none => rfl
      | some o => rw [a.keep c o e ho] at h; cases h
 refine ⟨b.gs, a.cZ.trans b.cZ, fun c h h' => ?_, fun c o h n => ?_, fun c h => back c (b.zJ c h), b.len.trans a.len, fun i s h l => ?_⟩
 . by_cases e : F1 c = none
   . by_cases ho : Own ρ σ c
     . exact .inl ho
     . rcases b.zQ c e h' with z | z
       . exact (back c (.inl z)).imp id jO
       . right
         cases q : H c with
         | none => rfl
         | some o => rw [a.keep c o q ho] at z; exact z
   . exact a.zQ c h e
 . refine b.keep c o (a.keep c o h n) fun h' => ?_
   rcases a.zJ c h' with h' | h'
   . exact n h'
   . rw [h] at h'; cases h'
 . obtain ⟨e1, s1, h1, k1⟩ := a.lk i s h l
   obtain ⟨e2, s2, h2, k2⟩ := b.lk i s1 h1 (k1.Eh l)
   exact ⟨e2.trans e1, s2, h2, .trans l k1 k2⟩
noncomputable def eU (K : PySem.W.Frag) (F H : Hp) (v : V) (d : D) : Prop := Rep K F v d \/ ∃ a xs ds, v = .ref a /\ H a = some (.lst xs) /\ aJ K F xs ds /\ d = .lst ds
noncomputable def cL (K : PySem.W.Frag) (F' : Hp) (ρ' : List Sl) (σ' : St) (H' : Hp) (ρ : List Sl) (σ : St) (H : Hp) (v : V) : R -> Prop
 | .val d => Rep K F' v d
 | .own ds => ∃ a xs, v = .ref a /\ H' a = some (.lst xs) /\ F' a = none /\ aJ K F' xs ds /\ ¬ Own ρ' σ' a /\ (Own ρ σ a \/ H a = none)
theorem aQ.dG {F : Hp} {a : Addr} {o : HO} (h : F a = none) : aQ F (upd F a o) := fun b u e => by
 have : b ≠ a := by rintro rfl; rw [h] at e; cases e
 rw [aL this]; exact e
theorem cg.gq {ρ ρ' : List Sl} {σ σ' : St} {v : V} {r : R} (s : cg K F ρ σ H F' ρ' σ' H') (h : cL K F' ρ' σ' H' ρ σ H v r) :
 ∃ F'', cg K F ρ σ H F'' ρ' σ' H' /\ aQ F' F'' /\ Rep K F'' v r.d := by
 cases r with
 | val d => exact ⟨F', s, .refl _, h⟩
 | own ds =>
   obtain ⟨a, xs, rfl, h1, h2, h3, h4, h5⟩ := h
   have sm : aQ F' (upd F' a (.lst xs)) := aQ.dG h2
   refine ⟨upd F' a (.lst xs), ⟨⟨fun b o e => ?_, s.gs.len, fun i b d e => ?_, fun i sl ds' e e' => ?_, s.gs.dis⟩, s.cZ.trans sm, fun b n n' => ?_, s.keep, s.zJ, s.len, s.lk⟩, sm, ?_⟩
   . by_cases hb : b = a
     . subst hb; rw [bh] at e; cases e; exact h1
     . rw [aL hb] at e; exact s.gs.sub b o e
   . obtain ⟨v, e1, e2⟩ := s.gs.val i b d e
     exact ⟨v, e1, e2.mono sm⟩
   . obtain ⟨b, ys, e1, e2, e3, e4⟩ := s.gs.own i sl ds' e e'
     have hb : b ≠ a := by rintro rfl; exact h4 ⟨i, ⟨sl, ds', e, e'⟩, e1⟩
     exact ⟨b, ys, e1, e2, by rw [aL hb]; exact e3, e4.mono sm⟩
   . by_cases hb : b = a
     . subst hb; exact h5.imp id jO
     . rw [aL hb] at n'; exact s.zQ b n n'
   . show Rep K _ _ (.lst ds)
     rw [Rep]; exact ⟨a, xs, rfl, gw.of bh, h3.mono sm⟩
theorem GS.pk {ρ : List Sl} {σ : St} {i : Nat} {d : D} (g : GS K F ρ σ H) (e : HH.pk ρ i = some d) : ∃ v : V, σ[i]? = some (some v) /\ eU K F H v d := by
 unfold HH.pk at e
 split at e
 . rename_i b d' h
   cases e
   obtain ⟨v, h1, h2⟩ := g.val i b d h
   exact ⟨v, h1, .inl h2⟩
 . rename_i b ds h
   cases e
   obtain ⟨a, xs, h1, h2, h3, h4⟩ := g.qW i _ ds h rfl
   exact ⟨.ref a, h1, .inr ⟨a, xs, ds, rfl, h2, h4, rfl⟩⟩
 . rename_i ds h
   cases e
   obtain ⟨a, xs, h1, h2, h3, h4⟩ := g.qW i _ ds h rfl
   exact ⟨.ref a, h1, .inr ⟨a, xs, ds, rfl, h2, h4, rfl⟩⟩
 . cases e
structure Ext (F H F' H' : Hp) : Prop where
 hs : aQ H H'
 fs : aQ F F'
 sub : aQ F' H'
 gr : ∀ b, F b = none -> F' b ≠ none -> nt (H b) = none
theorem Ext.refl (h : aQ F H) : Ext F H F H := ⟨.refl _, .refl _, h, fun _ a b => absurd a b⟩
theorem Ext.stp {ρ : List Sl} {σ : St} (g : GS K F ρ σ H) (e : Ext F H F' H') : cg K F ρ σ H F' ρ σ H' := by
 refine ⟨⟨e.sub, g.len, fun i b d h => ?_, fun i s ds h h' => ?_, g.dis⟩, e.fs, fun b n n' => .inr (e.gr b n n'), fun b o h _ => e.hs b o h, fun _ h => .inl h, rfl, fun i s h _ => ⟨rfl, s, h, .refl s⟩⟩
 . obtain ⟨v, h1, h2⟩ := g.val i b d h
   exact ⟨v, h1, h2.mono e.fs⟩
 . obtain ⟨a, xs, h1, h2, h3, h4⟩ := g.own i s ds h h'
   refine ⟨a, xs, h1, e.hs _ _ h2, ?_, h4.mono e.fs⟩
   cases q : F' a with
   | none => rfl
   | some o => have := e.gr a h3 (by rw [q]; simp); rw [h2] at this; exact (Af h4 this).elim
noncomputable def cD (K : PySem.W.Frag) (F' H' H : Hp) (v : V) : R -> Prop
 | .val d => Rep K F' v d
 | .own ds => ∃ a xs, v = .ref a /\ H' a = some (.lst xs) /\ F' a = none /\ aJ K F' xs ds /\ H a = none
theorem cD.pB {ρ : List Sl} {σ : St} {v : V} {r : R} (g : GS K F ρ σ H) (h : cD K F' H' H v r) : cL K F' ρ σ H' ρ σ H v r := by
 cases r with
 | val d => exact h
 | own ds =>
   obtain ⟨a, xs, rfl, h1, h2, h3, h4⟩ := h
   refine ⟨a, xs, rfl, h1, h2, h3, ?_, .inr h4⟩
   rintro ⟨i, ⟨s, ds', e, e'⟩, e2⟩
   obtain ⟨b, ys, q1, q2, _⟩ := g.own i s ds' e e'
   rw [e2] at q1; cases q1
   rw [h4] at q2; cases q2
theorem cL.later {F1 H1 F2 H2 : Hp} {ρ ρ1 ρ2 : List Sl} {σ σ1 σ2 : St} {v : V} {r : R} (a : cg K F ρ σ H F1 ρ1 σ1 H1) (h : cL K F2 ρ2 σ2 H2 ρ1 σ1 H1 v r) : cL K F2 ρ2 σ2 H2 ρ σ H v r := by
 cases r with
 | val d => exact h
 | own ds =>
   obtain ⟨b, xs, rfl, h1, h2, h3, h4, h5⟩ := h
   refine ⟨b, xs, rfl, h1, h2, h3, h4, ?_⟩
   rcases h5 with h5 | h5
   . exact a.zJ b h5
   . by_cases ho : Own ρ σ b
     . exact .inl ho
     . right
       cases e : H b with
       | none => rfl
       | some o => rw [a.keep b o e ho] at h5; cases h5
end
end HH
end
section
namespace HH
open PySem L2 PySem.Spec PyProof.Rows
theorem ao {α β : Type} {x : Res α} {f : α -> List Sl -> Res β} {b : β} {ρ' : List Sl} (h : x.bind f = .ok b ρ') : ∃ a ρ, x = .ok a ρ /\ f a ρ = .ok b ρ' := by
 cases x with
 | ok a ρ => exact ⟨a, ρ, rfl, h⟩
 | exc _ _ => cases h
 | stuck => cases h
theorem aG {α : Type} {o : Option α} {ρ ρ' : List Sl} {a : α} (h : lift o ρ = .ok a ρ') : o = some a /\ ρ = ρ' := by
 cases o with
 | none => cases h
 | some b => cases h; exact ⟨rfl, rfl⟩
theorem map_some {α β : Type} {o : Option α} {f : α -> β} {b : β} (h : o.map f = some b) : ∃ a, o = some a /\ f a = b := by
 cases o with
 | none => cases h
 | some a => cases h; exact ⟨a, rfl, rfl⟩
theorem dC {α β : Type} {o : Option α} {f : α -> Option β} {b : β} (h : o.bind f = some b) : ∃ a, o = some a /\ f a = some b := by
 cases o with
 | none => cases h
 | some a => exact ⟨a, rfl, h⟩
theorem bC {α : Type} {c : Prop} [Decidable c] {a b : α} (h : (if c then some a else none) = some b) : c /\ a = b := by
 split at h
 . rename_i hc; cases h; exact ⟨hc, rfl⟩
 . cases h
section
variable {X : Cx} {c : Call} {e a b : Expr} {p pa pb : P} {pos : Pos}
theorem fX {t t' : TE} (h : PE X e t) (i : ∀ σ H Q, t' σ H Q -> t σ H Q) : PE X e t' := fun pins s σ H Q I q => h pins s σ H Q I (i σ H Q q)
theorem yc {t t' : TT} (h : PT X e t) (i : ∀ σ H Q, t' σ H Q -> t σ H Q) : PT X e t' := fun pins s σ H Q I q => h pins s σ H Q I (i σ H Q q)
theorem HQ {t t' : TT} (h : PW X e t) (i : ∀ σ H Q, t' σ H Q -> t σ H Q) : PW X e t' := fun wh pins s σ H Q I q => h wh pins s σ H Q I (i σ H Q q)
theorem tM {es : List Expr} {t t' : TA} (h : PA X es t) (i : ∀ σ H Q, t' σ H Q -> t σ H Q) : PA X es t' := fun pos pins s σ H Q I q => h pos pins s σ H Q I (i σ H Q q)
inductive Bj (K : PySem.W.Frag) (f : Ev) (σ : L2.St) (H : Hp) (Q : VK) : Prop where
 | mk (F : Hp) (ρ : List Sl) (r : R) (ρ' : List Sl) (g : GS K F ρ σ H) (e : f ρ = .ok r ρ') (k : ∀ v F' H', cg K F ρ σ H F' ρ' σ H' -> cL K F' ρ' σ H' ρ σ H v r -> Q v H')
inductive Ih (K : PySem.W.Frag) (f : List Sl -> Res Bool) (σ : L2.St) (H : Hp) (Q : Bool -> Hp -> Prop) : Prop where
 | mk (F : Hp) (ρ : List Sl) (b : Bool) (ρ' : List Sl) (g : GS K F ρ σ H) (e : f ρ = .ok b ρ') (k : ∀ F' H', cg K F ρ σ H F' ρ' σ H' -> Q b H')
inductive XD (K : PySem.W.Frag) (f : List Sl -> Res (List D)) (σ : L2.St) (H : Hp) (Q : List V -> Hp -> Prop) : Prop where
 | mk (F : Hp) (ρ : List Sl) (ds : List D) (ρ' : List Sl) (g : GS K F ρ σ H) (e : f ρ = .ok ds ρ') (k : ∀ vs F' H', cg K F ρ σ H F' ρ' σ H' -> aJ K F' vs ds -> Q vs H')
structure SX (X : Cx) (c : Call) (e : Expr) (p : P) : Prop where
 ev : PE X e (Bj X.K (HH.ev c p))
 var : ∀ i, isVar p = some i -> PE X e (QX i)
noncomputable def SA (X : Cx) (c : Call) (es : List Expr) (ps : List P) : Prop := PA X es (XD X.K (evs c ps)) /\ ps.length = es.length
theorem SX.fj (h : SX X c e p) : ∃ t, PE X e t /\ ∀ {σ : L2.St} {H F : Hp} {ρ ρ' : List Sl} {d : D} {Q : VK}, GS X.K F ρ σ H -> fj (isVar p) (HH.ev c p) ρ = .ok d ρ' ->
 (∀ v F' H', cg X.K F ρ σ H F' ρ' σ H' -> eU X.K F' H' v d -> Q v H') -> t σ H Q := by
 cases hv : isVar p with
 | none =>
   refine ⟨_, h.ev, fun {σ H F ρ ρ' d Q} g e k => ?_⟩
   obtain ⟨r, ρ1, e1, e2⟩ := ao e
   cases e2
   refine ⟨F, ρ, r, _, g, e1, fun v F' H' s rr => ?_⟩
   obtain ⟨F'', s', _, rp⟩ := s.gq rr
   exact k v F'' H' s' (.inl rp)
 | some i =>
   refine ⟨_, h.var i hv, fun {σ H F ρ ρ' d Q} g e k => ?_⟩
   obtain ⟨e1, e2⟩ := aG e
   subst e2
   obtain ⟨v, h1, h2⟩ := g.pk e1
   exact ⟨v, h1, k v F H (.refl g) h2⟩
theorem SX.jj (ha : SX X c a pa) (hb : SX X c b pb) : ∃ ta tb, PE X a ta /\ PE X b tb /\ ∀ {σ : L2.St} {H F : Hp} {ρ ρ' : List Sl} {xy : D × D} {R : V -> V -> Hp -> Prop}, GS X.K F ρ σ H ->
 jj (isVar pa) (HH.ev c pa) (isVar pb) (HH.ev c pb) ρ = .ok xy ρ' -> (∀ v u F' H', cg X.K F ρ σ H F' ρ' σ H' -> eU X.K F' H' v xy.1 -> eU X.K F' H' u xy.2 -> R v u H') -> ta σ H fun x H1 => tb σ H1 fun y H2 => R x y H2 := by
 obtain ⟨tb, hb1, hb2⟩ := hb.fj
 cases hv : isVar pa with
 | none =>
   refine ⟨_, tb, ha.ev, hb1, fun {σ H F ρ ρ' xy R} g e k => ?_⟩
   obtain ⟨x, ρ1, e1, e⟩ := ao e
   obtain ⟨y, ρ2, e2, e⟩ := ao e
   cases e
   obtain ⟨r, ρ1', e1, e0⟩ := ao e1
   cases e0
   refine ⟨F, ρ, r, _, g, e1, fun v F' H' s rr => ?_⟩
   obtain ⟨F1, s1, _, rp⟩ := s.gq rr
   refine hb2 s1.gs e2 fun u F2 H2 s2 pu => ?_
   exact k v u F2 H2 (s1.trans s2) (.inl (rp.mono s2.cZ)) pu
 | some i =>
   refine ⟨_, tb, ha.var i hv, hb1, fun {σ H F ρ ρ' xy R} g e k => ?_⟩
   obtain ⟨x0, ρ0, e0, e⟩ := ao e
   obtain ⟨Tf, zK⟩ := aG e0
   subst zK
   obtain ⟨y, ρ1, e1, e⟩ := ao e
   obtain ⟨x, ρ2, e2, e⟩ := ao e
   cases e
   have zz := aG e2; clear e2; obtain ⟨e2, e3⟩ := zz
   subst e3
   obtain ⟨v, h1, _⟩ := g.pk Tf
   refine ⟨v, h1, hb2 g e1 fun u F1 H1 s1 pu => ?_⟩
   obtain ⟨v', h1', pv⟩ := s1.gs.pk e2
   rw [h1] at h1'
   cases h1'
   exact k v u F1 H1 s1 pv pu
inductive rD (K : PySem.W.Frag) (f : D -> D -> Option R) (x y : V) (H : Hp) (Q : VK) : Prop where
 | mk (F : Hp) (d e : D) (r : R) (sm : aQ F H) (px : eU K F H x d) (py : eU K F H y e) (he : f d e = some r) (k : ∀ v F' H', Ext F H F' H' -> cD K F' H' H v r -> Q v H')
inductive ZQ (K : PySem.W.Frag) (f : D -> Option R) (x : V) (H : Hp) (Q : VK) : Prop where
 | mk (F : Hp) (d : D) (r : R) (sm : aQ F H) (px : eU K F H x d) (he : f d = some r) (k : ∀ v F' H', Ext F H F' H' -> cD K F' H' H v r -> Q v H')
theorem qI {E : Expr} {f : D -> D -> Option R} {q : P} (hp : ∀ {ta tb}, PE X a ta -> PE X b tb -> PE X E (M4 (rD X.K f) ta tb)) (ha : SX X c a pa) (hb : SX X c b pb)
 (hq : ∀ ρ, HH.ev c q ρ = (HH.jj (isVar pa) (HH.ev c pa) (isVar pb) (HH.ev c pb) ρ).bind fun xy ρ => lift (f xy.1 xy.2) ρ) (hv : isVar q = none) : SX X c E q := by
 obtain ⟨ta, tb, h1, h2, h3⟩ := ha.jj hb
 refine ⟨fX (hp h1 h2) ?_, fun i h => by rw [hv] at h; cases h⟩
 rintro σ H Q ⟨F, ρ, r, ρ', g, e, k⟩
 rw [hq] at e
 obtain ⟨xy, ρ1, e1, e2⟩ := ao e
 have zz := aG e2; clear e2; obtain ⟨e2, e3⟩ := zz
 subst e3
 refine h3 g e1 fun v u F' H' s pv pu => ⟨F', xy.1, xy.2, r, s.gs.sub, pv, pu, e2, fun w F2 H2 x rn => ?_⟩
 exact k w F2 H2 (s.trans (x.stp s.gs)) (.later s (rn.pB s.gs))
theorem K5 {E : Expr} {f : D -> Option R} {q : P} (hp : ∀ {ta}, PE X a ta -> PE X E (Z7 (ZQ X.K f) ta)) (ha : SX X c a pa)
 (hq : ∀ ρ, HH.ev c q ρ = (HH.fj (isVar pa) (HH.ev c pa) ρ).bind fun x ρ => lift (f x) ρ) (hv : isVar q = none) : SX X c E q := by
 obtain ⟨ta, h1, h3⟩ := ha.fj
 refine ⟨fX (hp h1) ?_, fun i h => by rw [hv] at h; cases h⟩
 rintro σ H Q ⟨F, ρ, r, ρ', g, e, k⟩
 rw [hq] at e
 obtain ⟨x, ρ1, e1, e2⟩ := ao e
 have zz := aG e2; clear e2; obtain ⟨e2, e3⟩ := zz
 subst e3
 refine h3 g e1 fun v F' H' s pv => ⟨F', x, r, s.gs.sub, pv, e2, fun w F2 H2 x rn => ?_⟩
 exact k w F2 H2 (s.trans (x.stp s.gs)) (.later s (rn.pB s.gs))
theorem GS.freeze {K : PySem.W.Frag} {F H : Hp} {ρ : List Sl} {σ : L2.St} {i : Nat} {b : Bool} {ds : List D} (g : GS K F ρ σ H) (e : ρ[i]? = some (.own b ds)) :
 ∃ v F', σ[i]? = some (some v) /\ cg K F ρ σ H F' (ρ.set i (.val b (.lst ds))) σ H /\ Rep K F' v (.lst ds) := by
 obtain ⟨a, xs, h1, h2, h3, h4⟩ := g.qW i _ ds e rfl
 have hi : i < ρ.length := (List.getElem?_eq_some_iff.mp e).1
 have sm : aQ F (upd F a (.lst xs)) := aQ.dG h3
 have rp : Rep K (upd F a (.lst xs)) (.ref a) (.lst ds) := by rw [Rep]; exact ⟨a, xs, rfl, gw.of bh, h4.mono sm⟩
 have oa : Own ρ σ a := ⟨i, ⟨_, _, e, rfl⟩, h1⟩
 have old : ∀ j x, bI (ρ.set i (.val b (.lst ds))) σ j x -> bI ρ σ j x /\ j ≠ i := fun j x ⟨⟨s, ds', q1, q2⟩, q3⟩ => by
  by_cases hj : j = i
  . subst hj; rw [List.getElem?_set_self hi] at q1; cases q1; cases q2
  . rw [List.getElem?_set_ne (Ne.symm hj)] at q1; exact ⟨⟨⟨s, ds', q1, q2⟩, q3⟩, hj⟩
 refine ⟨.ref a, upd F a (.lst xs), h1, ⟨⟨fun x o q => ?_, by simpa using g.len, fun j b' d q => ?_, fun j s ds' q q' => ?_, fun j k x q q' => g.dis j k x (old j x q).1 (old k x q').1⟩, sm, fun x n n' => ?_, fun _ _ q _ => q, fun x ⟨j, q⟩ => .inl ⟨j, (old j x q).1⟩, by simp, fun j s q l => ⟨rfl, ?_⟩⟩, rp⟩
 . by_cases hx : x = a
   . subst hx; rw [bh] at q; cases q; exact h2
   . rw [aL hx] at q; exact g.sub x o q
 . by_cases hj : j = i
   . subst hj; rw [List.getElem?_set_self hi] at q; cases q; exact ⟨_, h1, rp⟩
   . rw [List.getElem?_set_ne (Ne.symm hj)] at q
     obtain ⟨v, q1, q2⟩ := g.val j b' d q
     exact ⟨v, q1, q2.mono sm⟩
 . by_cases hj : j = i
   . subst hj; rw [List.getElem?_set_self hi] at q; cases q; cases q'
   . rw [List.getElem?_set_ne (Ne.symm hj)] at q
     obtain ⟨x, ys, q1, q2, q3, q4⟩ := g.own j s ds' q q'
     have hx : x ≠ a := by rintro rfl; exact hj (g.dis j i x ⟨⟨s, ds', q, q'⟩, q1⟩ ⟨⟨_, _, e, rfl⟩, h1⟩)
     exact ⟨x, ys, q1, q2, by rw [aL hx]; exact q3, q4.mono sm⟩
 . by_cases hx : x = a
   . subst hx; exact .inl oa
   . rw [aL hx] at n'; exact absurd n n'
 . by_cases hj : j = i
   . subst hj
     rw [e] at q; cases q
     refine ⟨_, List.getElem?_set_self hi, ?_⟩
     cases b with
     | true => exact .inr ⟨_, rfl⟩
     | false => cases l
   . exact ⟨s, by rw [List.getElem?_set_ne (Ne.symm hj)]; exact q, .refl s⟩
theorem GS.wQ {K : PySem.W.Frag} {F H : Hp} {ρ : List Sl} {σ : L2.St} {i : Nat} {m : Dc} (g : GS K F ρ σ H) (e : ρ[i]? = some (.fc m)) :
 ∃ a, σ[i]? = some (some (.ref a)) /\ H a = some m.ho /\ ∀ ob, cg K F ρ σ H (upd F a (.gq ob m.ho)) (ρ.set i (.val false (.cQ m))) σ (upd H a (.gq ob m.ho)) /\ Rep K (upd F a (.gq ob m.ho)) (.ref a) (.cQ m) := by
 obtain ⟨a, o0, h1, h2, h3, h4⟩ := g.own i _ _ e rfl
 cases (show o0 = m.ho from h4)
 have hi : i < ρ.length := (List.getElem?_eq_some_iff.mp e).1
 refine ⟨a, h1, h2, fun ob => ?_⟩
 have sm : aQ F (upd F a (.gq ob m.ho)) := aQ.dG h3
 have rp : Rep K (upd F a (.gq ob m.ho)) (.ref a) (.cQ m) := by rw [Rep]; exact ⟨a, ob, rfl, bh⟩
 have oa : Own ρ σ a := ⟨i, ⟨_, _, e, rfl⟩, h1⟩
 have old : ∀ j x, bI (ρ.set i (.val false (.cQ m))) σ j x -> bI ρ σ j x /\ j ≠ i := fun j x ⟨⟨s, ds', q1, q2⟩, q3⟩ => by
  by_cases hj : j = i
  . subst hj; rw [List.getElem?_set_self hi] at q1; cases q1; cases q2
  . rw [List.getElem?_set_ne (Ne.symm hj)] at q1; exact ⟨⟨⟨s, ds', q1, q2⟩, q3⟩, hj⟩
 refine ⟨⟨⟨fun x o q => ?_, by simpa using g.len, fun j b' d q => ?_, fun j s ds' q q' => ?_, fun j k x q q' => g.dis j k x (old j x q).1 (old k x q').1⟩, sm, fun x n n' => ?_, fun x o q n => ?_, fun x ⟨j, q⟩ => .inl ⟨j, (old j x q).1⟩, by simp, fun j s q l => ⟨rfl, ?_⟩⟩, rp⟩
 . by_cases hx : x = a
   . subst hx; rw [bh] at q ⊢; exact q
   . rw [aL hx] at q ⊢; exact g.sub x o q
 . by_cases hj : j = i
   . subst hj; rw [List.getElem?_set_self hi] at q; cases q; exact ⟨_, h1, rp⟩
   . rw [List.getElem?_set_ne (Ne.symm hj)] at q
     obtain ⟨v, q1, q2⟩ := g.val j b' d q
     exact ⟨v, q1, q2.mono sm⟩
 . by_cases hj : j = i
   . subst hj; rw [List.getElem?_set_self hi] at q; cases q; cases q'
   . rw [List.getElem?_set_ne (Ne.symm hj)] at q
     obtain ⟨x, ys, q1, q2, q3, q4⟩ := g.own j s ds' q q'
     have hx : x ≠ a := by rintro rfl; exact hj (g.dis j i x ⟨⟨s, ds', q, q'⟩, q1⟩ ⟨⟨_, _, e, rfl⟩, h1⟩)
     exact ⟨x, ys, q1, by rw [aL hx]; exact q2, by rw [aL hx]; exact q3, q4.mono sm⟩
 . by_cases hx : x = a
   . subst hx; exact .inl oa
   . rw [aL hx] at n'; exact absurd n n'
 . have hx : x ≠ a := by rintro rfl; exact n oa
   rw [aL hx]; exact q
 . by_cases hj : j = i
   . subst hj
     rw [e] at q; cases q; cases l
   . exact ⟨s, by rw [List.getElem?_set_ne (Ne.symm hj)]; exact q, .refl s⟩
theorem Inv.Sv {X : Cx} {pins : List (Addr × Obj)} {σ : L2.St} {H : Hp} {s : Shared} {a : Addr} {kvs : List (Key × V)} (I : L2.Inv X pins σ H s) (h : H a = some (.dK kvs)) : ∃ o, L2.Inv X pins σ (upd H a (.gq o (.dK kvs))) s := by
 obtain ⟨hz, hS, vs, r, dd⟩ := (show bQ X.prog X.w H s.heap a (.dK kvs) from I.hok a _ h)
 obtain ⟨o, ho, _⟩ := dd.typeIs
 exact ⟨o, I.write (h' := s.heap) (t' := s.toks) (by rw [h]; exact trivial) (.inl rfl) (fun b u _ e => e) ⟨o, ho⟩ ⟨ho, hz, hS, vs, r, dd⟩⟩
theorem Jx {i : Nat} {x : Str} (hN : X.N[i]? = some x) (hv : xU X.env.scope x) (hd : (x == ("__debug__" : Str)) = false := by decide) (hcd : (x == ("__classdict__" : Str)) = false := by decide) : SX X c (.Name x pos) (.var i) := by
 have h := gO (X := X) (pos := pos) hN hv hd hcd
 refine ⟨?_, fun j hj => by cases hj; exact h⟩
 rintro pins s σ H Q I ⟨F, ρ, r, ρ', g, e, k⟩
 rw [HH.ev] at e
 split at e
 . rename_i b d q
   cases e
   obtain ⟨v, h1, h2⟩ := g.val i b d q
   exact h pins s σ H Q I ⟨v, h1, k v F H (.refl g) h2⟩
 . rename_i b ds q
   cases e
   obtain ⟨v, F', h1, h2, h3⟩ := g.freeze q
   exact h pins s σ H Q I ⟨v, h1, k v F' H h2 h3⟩
 . rename_i kvs q
   cases e
   obtain ⟨a, h1, h2, h3⟩ := g.wQ q
   refine cI (h pins s σ H (fun v H' => v = .ref a /\ H' = H) I ⟨.ref a, h1, rfl, rfl⟩) fun u s1 ⟨v, H1, I1, r1, e1, e2⟩ => ?_
   subst e1 e2
   obtain ⟨o, I2⟩ := Inv.Sv I1 h2
   exact ⟨.ref a, _, I2, r1, k _ _ _ (h3 o).1 (h3 o).2⟩
 . cases e
theorem Ae {d : D} {v : V} (h : PE X e (tC v)) (hr : ∀ F, Rep X.K F v d) : SX X c e (.con d) :=
 ⟨fX h fun σ H Q ⟨F, ρ, r, ρ', g, e, k⟩ => by rw [HH.ev] at e; cases e; exact k v F H (.refl g) (hr F), fun i h => by cases h⟩
theorem ak {i j} : SX X c (.Constant (.int i) j pos) (.con (.int i)) := Ae Mg fun F => by rw [Rep]
theorem cU {i j} : SX X c (.Constant (.bool i) j pos) (.con (.bl i)) := Ae Rt fun F => by rw [Rep]
theorem eU.int {K : PySem.W.Frag} {F H : Hp} {v : V} {i : Int} (h : eU K F H v (.int i)) : v = .int i := by
 rcases h with h | ⟨_, _, _, _, _, _, h⟩
 . rw [Rep] at h; exact h
 . cases h
theorem eU.bl {K : PySem.W.Frag} {F H : Hp} {v : V} {i : Bool} (h : eU K F H v (.bl i)) : v = .bl i := by
 rcases h with h | ⟨_, _, _, _, _, _, h⟩
 . rw [Rep] at h; exact h
 . cases h
theorem eU.str {K : PySem.W.Frag} {F H : Hp} {v : V} {i : Str} (h : eU K F H v (.str i)) : v = .str i := by
 rcases h with h | ⟨_, _, _, _, _, _, h⟩
 . rw [Rep] at h; exact h
 . cases h
theorem eU.non {K : PySem.W.Frag} {F H : Hp} {v : V} (h : eU K F H v .non) : v = .non := by
 rcases h with h | ⟨_, _, _, _, _, _, h⟩
 . rw [Rep] at h; exact h
 . cases h
theorem eU.tup {K : PySem.W.Frag} {F H : Hp} {v : V} {ds : List D} (s : aQ F H) (h : eU K F H v (.tup ds)) : ∃ a xs, v = .ref a /\ iY K H a xs /\ aJ K F xs ds /\ Rep K F v (.tup ds) := by
 rcases h with h | ⟨_, _, _, _, _, _, h⟩
 . have h' := h
   rw [Rep] at h
   obtain ⟨a, xs, rfl, h1, h2⟩ := h
   exact ⟨a, xs, rfl, aQ.iZ s h1, h2, h'⟩
 . cases h
theorem eU.lst {K : PySem.W.Frag} {F H : Hp} {v : V} {ds : List D} (s : aQ F H) (h : eU K F H v (.lst ds)) : ∃ a xs, v = .ref a /\ gw K H a xs /\ aJ K F xs ds := by
 rcases h with h | ⟨a, xs, es, h1, h2, h3, h⟩
 . rw [Rep] at h
   obtain ⟨a, xs, rfl, h1, h2⟩ := h
   exact ⟨a, xs, rfl, s.seq h1, h2⟩
 . cases h
   exact ⟨a, xs, h1, gw.of h2, h3⟩
theorem eU.cQ {K : PySem.W.Frag} {F H : Hp} {v : V} {m : Dc} (s : aQ F H) (h : eU K F H v (.cQ m)) : ∃ a o, v = .ref a /\ H a = some (.gq o m.ho) := by
 rcases h with h | ⟨_, _, _, _, _, _, h⟩
 . rw [Rep] at h
   obtain ⟨a, o, rfl, h⟩ := h
   exact ⟨a, o, rfl, s _ _ h⟩
 . cases h
theorem Ln {X : Cx} {pins : List (Addr × Obj)} {σ : L2.St} {H : Hp} {s : Shared} {a : Addr} {ob : Obj} {m : Dc} (I : L2.Inv X pins σ H s) (h : H a = some (.gq ob m.ho)) : ∃ o, s.heap.get? a = some o /\ o.cls = .type "dict" := by
 have z := (show bQ X.prog X.w H s.heap a (.gq ob m.ho) from I.hok a _ h).2
 cases m with
 | k kvs =>
   obtain ⟨_, _, vs, _, d2⟩ := (show bQ X.prog X.w H s.heap a (.dK _) from z)
   exact d2.typeIs
 | t kvs =>
   obtain ⟨_, _, xs, _, o, es, ep, h1, h2, _⟩ := (show bQ X.prog X.w H s.heap a (.dT _) from z)
   exact ⟨o, h1, h2.1⟩
theorem eU.items {K : PySem.W.Frag} {F H : Hp} {v : V} {d : D} {ds : List D} (s : aQ F H) (h : eU K F H v d) (e : items d = some ds) : ∃ a xs, v = .ref a /\ (gw K H a xs \/ iY K H a xs) /\ aJ K F xs ds := by
 cases d with
 | tup es => cases e; obtain ⟨a, xs, h1, h2, h3, _⟩ := h.tup s; exact ⟨a, xs, h1, .inr h2, h3⟩
 | lst es => cases e; obtain ⟨a, xs, h1, h2, h3⟩ := h.lst s; exact ⟨a, xs, h1, .inl h2, h3⟩
 | _ => cases e
theorem cD.dO {K : PySem.W.Frag} {F H : Hp} {Q : VK} {v : V} {d : D} (s : aQ F H) (r : Rep K F v d) (k : ∀ v F' H', Ext F H F' H' -> cD K F' H' H v (.val d) -> Q v H') : Q v H := k v F H (.refl s) r
theorem bZ {K : PySem.W.Frag} {F : Hp} (i : Int) : Rep K F (.int i) (.int i) := by rw [Rep]
theorem jf {K : PySem.W.Frag} {F : Hp} (i : Bool) : Rep K F (.bl i) (.bl i) := by rw [Rep]
theorem JR {K : PySem.W.Frag} {F : Hp} (i : Str) : Rep K F (.str i) (.str i) := by rw [Rep]
theorem JM {K : PySem.W.Frag} {F : Hp} : Rep K F .non .non := by rw [Rep]
theorem tU {K : PySem.W.Frag} {F H : Hp} {Q : VK} {xs : List V} {ds : List D} {p : Addr} (s : aQ F H) (r : aJ K F xs ds) (hp : H p = none) (k : ∀ v F' H', Ext F H F' H' -> cD K F' H' H v (.own ds) -> Q v H') : Q (.ref p) (upd H p (.lst xs)) := by
 have fp : F p = none := by
  cases q : F p with
  | none => rfl
  | some o => rw [s p o q] at hp; cases hp
 exact k _ F _ ⟨aQ.dG hp, .refl _, s.trans (aQ.dG hp), fun _ a b => absurd a b⟩ ⟨p, xs, rfl, bh, fp, r, hp⟩
theorem yN {K : PySem.W.Frag} {F H : Hp} {Q : VK} {xs : List V} {ds : List D} {p : Addr} (s : aQ F H) (r : aJ K F xs ds) (hp : H p = none) (k : ∀ v F' H', Ext F H F' H' -> cD K F' H' H v (.val (.tup ds)) -> Q v H') : Q (.ref p) (upd H p (.tup xs)) := by
 have fp : F p = none := by
  cases q : F p with
  | none => rfl
  | some o => rw [s p o q] at hp; cases hp
 have sm : aQ F (upd F p (.tup xs)) := aQ.dG fp
 refine k _ (upd F p (.tup xs)) _ ⟨aQ.dG hp, sm, fun b o e => ?_, fun b n n' => ?_⟩ ?_
 . by_cases hb : b = p
   . subst hb; rw [bh] at e ⊢; exact e
   . rw [aL hb] at e ⊢; exact s b o e
 . by_cases hb : b = p
   . subst hb; exact jO hp
   . rw [aL hb] at n'; exact absurd n n'
 . show Rep K _ _ (.tup ds)
   rw [Rep]; exact ⟨p, xs, rfl, iY.of bh, r.mono sm⟩
end
end HH
end
section
namespace HH
open PySem L2 PySem.Spec PyProof.Rows
theorem pA (k : Int) (t : Tok) (l : Addr) (its : Array Value) (n : Nat) (dd : Option Addr) (sl : Array (Option Value)) :
 Meets (Builtin.«int.__rmul__» ⟨[.int k t, .ref l], []⟩) (fun _ R s => s.heap.get? l = some ⟨.type "list", dd, .seq its n, sl⟩ /\ R (.ok (.ret Value.notImplemented)) s) :=
 .of_wp fun prog w A R s h => by
  obtain ⟨hp, g, d, tk, os⟩ := s
  obtain ⟨hl, h⟩ := h
  wp_walk
  exact ⟨_, rfl, h⟩
theorem yL (l : Addr) (its : Array Value) (n : Nat) (dd : Option Addr) (sl : Array (Option Value)) (k : Int) (t : Tok) (h0 : ¬(!Builtin.List.listFitsIndex k) = true) (h1 : ¬its.size * k.toNat > (2 ^ 63 - 1) / 8) (h2 : ¬Builtin.List.listTooLong (its.size * k.toNat) = true) :
 Meets (Builtin.«list.__mul__» ⟨[.ref l, .int k t], []⟩) (fun _ R s => s.heap.get? l = some ⟨.type "list", dd, .seq its n, sl⟩ /\
  R (.ok (.ret (Value.ref s.heap.objs.size))) { s with heap := s.heap.push { cls := .type "list", data := .seq (List.foldl (· ++ ·) #[] (List.replicate (if its.isEmpty = true then 0 else k.toNat) its)) } }) :=
 .of_wp fun prog w A R s h => by
  obtain ⟨hp, g, d, tk, os⟩ := s
  obtain ⟨hl, h⟩ := h
  have hz := AutoListH.joined_fits h2
  wp_walk using wpAny_loadPart' hl
  refine wpAny_ite_false (decide_eq_false (Nat.not_lt.mpr hz)) ?_
  wp_walk
  exact ⟨_, rfl, h⟩
section
variable {X : Cx} {c : Call} {e a b d : Expr} {p pa pb pd : P} {pos : Pos}
theorem Gn : fB X (binaryOp .Add) (fun x y H Q => ∃ l b xs zs, x = .ref l /\ y = .ref b /\ gw X.K H l xs /\ gw X.K H b zs /\ xs.length + zs.length <= sizeLine /\ ∀ p, H p = none -> Q (.ref p) (upd H p (.lst (xs ++ zs)))) := by
 intro pins s σ H x y v u Q I rx ry h
 obtain ⟨l, b, xs, zs, rfl, rfl, hl, hb, hz, q⟩ := h
 cases rx
 cases ry
 obtain ⟨its, r, pl, _⟩ := I.list hl
 obtain ⟨its2, r2, Jd, _⟩ := I.list hb
 obtain ⟨⟨cls, dd, data, sl⟩, ho, hc, n, hd⟩ := id pl.isList
 obtain ⟨⟨cls2, dd2, data2, sl2⟩, ho2, hc2, n2, hd2⟩ := id Jd.isList
 simp only at hc hd hc2 hd2
 subst hc hd hc2 hd2
 have e : its.toArray ++ its2.toArray = (its ++ its2).toArray := by simp
 refine concat_meets ⟨_, ho, rfl⟩ ⟨_, ho2, rfl⟩ noFill_list_add seq_list_add PySem.F.slot_list_add PySem.F.entry_list_add (PySem.F.args_list_add_2 _ _) (list_addW l b its.toArray its2.toArray n n2 dd dd2 sl sl2 (by simp only [List.size_toArray]; rw [<- r.length, <- r2.length]; exact hz)) ⟨ho, ho2, ?_⟩
 rw [e]
 exact ⟨.ref _, _, I.JQ (t' := s.toks) (r.append r2) (by rw [List.length_append]; exact hz), rfl, q _ I.fresh⟩
theorem Bt : fB X (binaryOp .Add) (fun x y H Q => ∃ a b ys, x = .ref a /\ y = .ref b /\ iY X.K H a [] /\ iY X.K H b ys /\ Q (.ref b) H) := by
 intro pins s σ H x y v u Q I rx ry h
 obtain ⟨a, b, ys, rfl, rfl, ha, hb, q⟩ := h
 cases rx
 cases ry
 obtain ⟨its, r1, p1, _⟩ := I.tuple ha
 obtain ⟨its2, r2, p2, _⟩ := I.tuple hb
 obtain ⟨⟨cls, dd, data, sl⟩, ho, hc, n, hd⟩ := id p1
 obtain ⟨⟨cls2, dd2, data2, sl2⟩, ho2, hc2, n2, hd2⟩ := id p2
 simp only at hc hd hc2 hd2
 subst hc hd hc2 hd2
 have e0 : its = [] := r1.mJ.mpr rfl
 subst e0
 exact concat_meets ⟨_, ho, rfl⟩ ⟨_, ho2, rfl⟩ noFill_tuple_add seq_tuple_add PySem.F.slot_tuple_add PySem.F.entry_tuple_add (PySem.F.args_tuple_add_2 _ _)
  (tuple_addW0 a b _ its2.toArray n n2 dd dd2 sl sl2 (by simp)) ⟨ho, ho2, ⟨.ref b, H, I, rfl, q⟩⟩
theorem aR : fB X (binaryOp .Add) (rD X.K (sy .add)) := by
 rintro pins s σ H x y v u Q I rx ry ⟨F, d, e, r, sm, px, py, he, k⟩
 replace he : nj d e = some r := he
 unfold nj at he
 split at he
 . cases he
   rw [px.int] at rx; rw [py.int] at ry
   exact Mp pins s σ H _ _ v u Q I rx ry ⟨_, _, rfl, rfl, cD.dO sm (bZ _) k⟩
 . rename_i xs ys
   obtain ⟨hl, he⟩ := bC he
   subst he
   obtain ⟨a, vs, rfl, ha, ra⟩ := px.lst sm
   obtain ⟨b, us, rfl, hb, rb⟩ := py.lst sm
   exact Gn pins s σ H _ _ v u Q I rx ry ⟨a, b, vs, us, rfl, rfl, ha, hb, by rw [ra.length, rb.length]; exact hl, fun p hp => tU sm (ra.append rb) hp k⟩
 . rename_i xs ys
   obtain ⟨hl, he⟩ := bC he
   subst he
   obtain ⟨a, vs, rfl, ha, ra, ta⟩ := px.tup sm
   obtain ⟨b, us, rfl, hb, rb, tb⟩ := py.tup sm
   by_cases h0 : vs = []
   . subst h0
     have e0 : xs = [] := by have := ra.length; exact List.eq_nil_of_length_eq_zero this.symm
     subst e0
     exact Bt pins s σ H _ _ v u Q I rx ry ⟨a, b, us, rfl, rfl, ha, hb, cD.dO sm tb k⟩
   . refine Gb pins s σ H _ _ v u Q I rx ry ⟨a, b, vs, us, rfl, rfl, ha, hb, h0, by rw [ra.length, rb.length]; exact hl, fun e => ?_, fun _ p hp => yN sm (ra.append rb) hp k⟩
     subst e
     have e0 : ys = [] := by have := rb.length; exact List.eq_nil_of_length_eq_zero this.symm
     subst e0
     rw [List.append_nil] at k
     exact cD.dO sm ta k
 . rename_i x1 y1
   obtain ⟨hl, he⟩ := bC he
   subst he
   rw [px.str] at rx; rw [py.str] at ry
   exact vd pins s σ H _ _ v u Q I rx ry ⟨_, _, rfl, rfl, hl, cD.dO sm (JR _) k⟩
 . cases he
theorem gW : fB X (binaryOp .Sub) (rD X.K (sy .sub)) := by
 rintro pins s σ H x y v u Q I rx ry ⟨F, d, e, r, sm, px, py, he, k⟩
 replace he : uf d e = some r := he
 unfold uf at he
 split at he
 . cases he
   rw [px.int] at rx; rw [py.int] at ry
   exact Ms pins s σ H _ _ v u Q I rx ry ⟨_, _, rfl, rfl, cD.dO sm (bZ _) k⟩
 . cases he
theorem Fx : fB X (binaryOp .Mult) (fun x y H Q => ∃ l k xs, x = .ref l /\ y = .int k /\ gw X.K H l xs /\ -(2 ^ 63) <= k /\ k < 2 ^ 63 /\ xs.length * k.toNat <= sizeLine /\ ∀ p, H p = none -> Q (.ref p) (upd H p (.lst (List.replicate k.toNat xs).flatten))) := by
 intro pins s σ H x y v u Q I rx ry h
 obtain ⟨l, k, xs, rfl, rfl, hl, h1, h2, hz, q⟩ := h
 cases rx
 obtain ⟨t, rfl⟩ := ry
 obtain ⟨its, r, pl, _⟩ := I.list hl
 obtain ⟨⟨cls, dd, data, sl⟩, ho, hc, n, hd⟩ := id pl.isList
 simp only at hc hd
 subst hc hd
 have hlen : its.toArray.size * k.toNat <= sizeLine := by rw [List.size_toArray, <- r.length]; exact hz
 have Y7 : ¬ its.toArray.size * k.toNat > (2 ^ 63 - 1) / 8 := by
  have : (sizeLine : Nat) <= (2 ^ 63 - 1) / 8 := by decide
  omega
 have hnew : List.foldl (· ++ ·) #[] (List.replicate (if its.toArray.isEmpty = true then 0 else k.toNat) its.toArray) = (List.replicate k.toNat its).flatten.toArray := by
  have f0 : ∀ m : Nat, List.foldl (· ++ ·) #[] (List.replicate m its.toArray) = (List.replicate m its).flatten.toArray := fun m => by
   have := foldl_rep its m []
   rw [List.nil_append] at this
   exact this
  rw [f0]
  cases its with
  | nil => simp
  | cons a r' => rw [if_neg (by simp)]
 refine wpAny_binaryOp_repeat_ref (T := "list") (U := "int") (by decide) ⟨_, ho, rfl⟩ (fun s' => typeIs_int s' k t) noFill_list_mul F.fills_int_mul F.slot_int_rmul repeat_list F.slot_int_index.lookup ?_
 refine call_meets F.slot_int_rmul (typeIs_int s k t) F.entry_int_rmul (F.args_int_rmul_2 _ _) (pA k t l its.toArray n dd sl) ⟨ho, rfl, ⟨_, ho, rfl⟩, ?_⟩
 refine call_meets F.slot_list_mul ⟨_, ho, rfl⟩ F.entry_list_mul (F.args_list_mul_2 _ _) (yL l its.toArray n dd sl k t (by rw [fitsIndex_both h1 h2]; exact Bool.false_ne_true) Y7 (by rw [Cg hlen]; exact Bool.false_ne_true)) ⟨ho, ?_⟩
 rw [hnew]
 exact ⟨.ref _, _, I.JQ (t' := s.toks) (r.rep k.toNat) (by rw [len_rep, Nat.mul_comm]; exact hz), rfl, q _ I.fresh⟩
theorem kO : fillsNumberSlot (.type "tuple") "mul" = pure false :=
 PySem.fillsNumberSlot_seq (id := "tuple.__mul__") (r := some (.builtin "tuple.__rmul__")) PySem.F.slot_tuple_mul.lookup (by decide +kernel) PySem.F.slot_tuple_rmul.lookup (by decide +kernel)
theorem rC : seqRepeat? (.type "tuple") = pure (some (.builtin "tuple.__mul__")) := by
 unfold seqRepeat?
 rw [PySem.seqSlot_of (T := "tuple") (name := "__mul__") (id := "tuple.__mul__") PySem.F.slot_tuple_mul.lookup (by decide +kernel), PySem.seqSlot_of (T := "tuple") (name := "__rmul__") (id := "tuple.__rmul__") PySem.F.slot_tuple_rmul.lookup (by decide +kernel)]
 rfl
theorem nA (k : Int) (t : Tok) (l : Addr) (its : Array Value) (n : Nat) (dd : Option Addr) (sl : Array (Option Value)) :
 Meets (Builtin.«int.__rmul__» ⟨[.int k t, .ref l], []⟩) (fun _ R s => s.heap.get? l = some ⟨.type "tuple", dd, .seq its n, sl⟩ /\ R (.ok (.ret Value.notImplemented)) s) :=
 .of_wp fun prog w A R s h => by
  obtain ⟨hp, g, d, tk, os⟩ := s
  obtain ⟨hl, h⟩ := h
  wp_walk
  exact ⟨_, rfl, h⟩
theorem vC (l : Addr) (its : Array Value) (n : Nat) (dd : Option Addr) (sl : Array (Option Value)) (k : Int) (t : Tok) (h0 : 0 <= k) (h1 : k < 2 ^ 63) (hz : its.size * k.toNat <= sizeLine) (hne : 0 < its.size) :
 Meets (Builtin.«tuple.__mul__» ⟨[.ref l, .int k t], []⟩) (fun _ R s => s.heap.get? l = some ⟨.type "tuple", dd, .seq its n, sl⟩ /\
  (k = 1 -> R (.ok (.ret (Value.ref l))) s) /\ (k ≠ 1 -> R (.ok (.ret (Value.ref s.heap.objs.size))) { s with heap := s.heap.push { cls := .type "tuple", data := .seq (List.foldl (· ++ ·) #[] (List.replicate k.toNat its)) } })) :=
 .of_wp fun prog w A R s h => by
  obtain ⟨hp, g, d, tk, os⟩ := s
  obtain ⟨hl, q1, q2⟩ := h
  have hem : its.isEmpty = false := by cases e : its.isEmpty with | false => rfl | true => rw [Array.isEmpty_iff_size_eq_zero] at e; omega
  show wpAny _ _ (asIndex (.int k t) >>= _) _ _ _
  wp_walk using wpAny_loadPart' hl
  have hI : IsTup hp l its := ⟨_, hl, rfl, n, rfl⟩
  rw [if_neg (by simp; omega)]
  refine wpAny_bind (PyProof.Rows.tupleItemsOf_ hI ?_)
  try dsimp only
  by_cases e1 : k = 1
  . rw [if_pos (by simp [e1])]
    wp_walk using wpAny_loadPart' hl
    exact ⟨_, rfl, q1 e1⟩
  . have q := q2 e1
    rw [if_neg (by simp [hem, e1])]
    by_cases e0 : k = 0
    . subst e0
      rw [if_pos (by simp)]
      unfold Builtin.Tuple.tupleExact
      refine wpAny_bind (wpAny_newObj_type ?_)
      exact wpAny_pure ⟨_, rfl, q⟩
    . have hb : (its.size : Int) * k <= sizeLine := by
       have : ((its.size * k.toNat : Nat) : Int) <= (sizeLine : Nat) := by exact_mod_cast hz
       rw [Int.natCast_mul, show ((k.toNat : Nat) : Int) = k by omega] at this
       exact this
      have hs2 : (sizeLine : Int) <= (2 ^ 63 - 1) / 8 := by decide
      rw [if_neg (by simp [hem]; omega), if_neg (by omega), if_neg (by simp [Builtin.Tuple.tupleTooMany]; omega)]
      unfold Builtin.Tuple.tupleExact
      refine wpAny_bind (wpAny_newObj_type ?_ ?_)
      . exact wpAny_pure ⟨_, rfl, q⟩
      . have := foldl_rep its.toList k.toNat []
        rw [List.nil_append, show its.toList.toArray = its by simp] at this
        show (List.foldl (· ++ ·) #[] (List.replicate k.toNat its)).size <= sizeLine
        rw [show (#[] : Array Value) = ([] : List Value).toArray from rfl, this, List.size_toArray, len_rep, Array.length_toList, Nat.mul_comm]
        exact hz
theorem Fy : fB X (binaryOp .Mult) (fun x y H Q => ∃ l k xs, x = .ref l /\ y = .int k /\ iY X.K H l xs /\ 0 < xs.length /\ 0 <= k /\ k < 2 ^ 63 /\ xs.length * k.toNat <= sizeLine /\ (k = 1 -> Q (.ref l) H) /\ (k ≠ 1 -> ∀ p, H p = none -> Q (.ref p) (upd H p (.tup (List.replicate k.toNat xs).flatten)))) := by
 intro pins s σ H x y v u Q I rx ry h
 obtain ⟨l, k, xs, rfl, rfl, hl, hne, h1, h2, hz, qa, qb⟩ := h
 cases rx
 obtain ⟨t, rfl⟩ := ry
 obtain ⟨its, r, pl, _⟩ := I.tuple hl
 obtain ⟨⟨cls, dd, data, sl⟩, ho, hc, n, hd⟩ := id pl
 simp only at hc hd
 subst hc hd
 have hlen : its.toArray.size * k.toNat <= sizeLine := by rw [List.size_toArray, <- r.length]; exact hz
 have hnew : List.foldl (· ++ ·) #[] (List.replicate k.toNat its.toArray) = (List.replicate k.toNat its).flatten.toArray := by
  have := foldl_rep its k.toNat []
  rw [List.nil_append] at this
  exact this
 refine wpAny_binaryOp_repeat_ref (T := "tuple") (U := "int") (by decide) ⟨_, ho, rfl⟩ (fun s' => typeIs_int s' k t) kO F.fills_int_mul F.slot_int_rmul rC F.slot_int_index.lookup ?_
 refine call_meets F.slot_int_rmul (typeIs_int s k t) F.entry_int_rmul (F.args_int_rmul_2 _ _) (nA k t l its.toArray n dd sl) ⟨ho, rfl, ⟨_, ho, rfl⟩, ?_⟩
 refine call_meets PySem.F.slot_tuple_mul ⟨_, ho, rfl⟩ PySem.F.entry_tuple_mul (PySem.F.args_tuple_mul_2 _ _) (vC l its.toArray n dd sl k t h1 h2 hlen (by rw [List.size_toArray, <- r.length]; exact hne)) ⟨ho, fun e => ⟨.ref l, H, I, rfl, qa e⟩, fun e => ?_⟩
 rw [hnew]
 refine ⟨.ref s.heap.objs.size, _, I.laid (t' := s.toks) (o := .tup (List.replicate k.toNat xs).flatten) (fun b ob q => Heap.get?_push_of_some _ q) (Nat.le_refl _) ?_, rfl, qb e _ (I.hok.fresh (Nat.le_refl _))⟩
 exact ⟨by rw [len_rep, Nat.mul_comm]; exact hz, _, r.rep k.toNat, IsTup.new _ _⟩
theorem cu : fB X (binaryOp .Mult) (rD X.K (sy .mul)) := by
 rintro pins s σ H x y v u Q I rx ry ⟨F, d, e, r, sm, px, py, he, k⟩
 replace he : oW d e = some r := he
 unfold oW at he
 split at he
 . obtain ⟨hc, he⟩ := bC he
   subst he
   rw [px.int] at rx; rw [py.int] at ry
   exact Lq pins s σ H _ _ v u Q I rx ry ⟨_, _, rfl, rfl, hc, cD.dO sm (bZ _) k⟩
 . rename_i xs i
   obtain ⟨⟨h1, h2, h3⟩, he⟩ := bC he
   subst he
   obtain ⟨a, vs, rfl, ha, ra⟩ := px.lst sm
   rw [py.int] at ry
   have hk : i < 2 ^ 63 := by
    have h4 := Nat.le_mul_of_pos_left i.toNat h2
    have h5 : i.toNat <= 16777216 := Nat.le_trans h4 h3
    omega
   exact Fx pins s σ H _ _ v u Q I rx ry ⟨a, i, vs, rfl, rfl, ha, by omega, hk, by rw [ra.length]; exact h3, fun p hp => tU sm (ra.rep i.toNat) hp k⟩
 . rename_i xs i
   obtain ⟨⟨h1, h2, h3⟩, he⟩ := bC he
   subst he
   obtain ⟨a, vs, rfl, ha, ra, rr⟩ := px.tup sm
   rw [py.int] at ry
   have hk : i < 2 ^ 63 := by
    have h4 := Nat.le_mul_of_pos_left i.toNat h2
    have h5 : i.toNat <= 16777216 := Nat.le_trans h4 h3
    omega
   refine Fy pins s σ H _ _ v u Q I rx ry ⟨a, i, vs, rfl, rfl, ha, by rw [ra.length]; exact h2, h1, hk, by rw [ra.length]; exact h3, fun e => ?_, fun e p hp => yN sm (ra.rep i.toNat) hp k⟩
   subst e
   refine cD.dO sm ?_ k
   have e1 : (List.replicate (1 : Int).toNat xs).flatten = xs := by simp
   rw [e1]
   exact rr
 . cases he
theorem gA : fB X (binaryOp .FloorDiv) (rD X.K (sy .fdiv)) := by
 rintro pins s σ H x y v u Q I rx ry ⟨F, d, e, r, sm, px, py, he, k⟩
 replace he : oE d e = some r := he
 unfold oE at he
 split at he
 . rename_i i j
   obtain ⟨⟨h1, h2⟩, he⟩ := bC he
   subst he
   rw [px.int] at rx; rw [py.int] at ry
   obtain ⟨t, rfl⟩ := rx
   obtain ⟨t', rfl⟩ := ry
   have hl : j.natAbs.log2 < 9000 := by
    have : j.natAbs < 2 ^ 200 := by
     have : (2 : Nat) ^ 200 = 1606938044258990275541962092341162602522202993782792835301376 := by decide
     omega
    have h3 := (Nat.log2_lt (by omega)).mpr this
    omega
   exact floordiv_int (by omega) (by rw [Int.fdiv_eq_ediv_of_nonneg i (by omega)]; exact ⟨.int _, H, I.tok _, ⟨_, rfl⟩, cD.dO sm (bZ _) k⟩) (.inl (PyProof.noPylong_of_log2 hl))
 . cases he
theorem fJ : fB X (binaryOp .Mod) (rD X.K (sy .mod)) := by
 rintro pins s σ H x y v u Q I rx ry ⟨F, d, e, r, sm, px, py, he, k⟩
 replace he : uh d e = some r := he
 unfold uh at he
 split at he
 . obtain ⟨h1, he⟩ := bC he
   subst he
   rw [px.int] at rx; rw [py.int] at ry
   exact Jy pins s σ H _ _ v u Q I rx ry ⟨_, _, rfl, rfl, h1, cD.dO sm (bZ _) k⟩
 . cases he
theorem mG : fB X (binaryOp .Pow) (rD X.K (sy .pow)) := by
 rintro pins s σ H x y v u Q I rx ry ⟨F, d, e, r, sm, px, py, he, k⟩
 replace he : sJ d e = some r := he
 unfold sJ at he
 split at he
 . obtain ⟨⟨h1, h2, h3⟩, he⟩ := bC he
   subst he
   rw [px.int] at rx; rw [py.int] at ry
   exact Jv pins s σ H _ _ v u Q I rx ry ⟨_, _, rfl, rfl, ⟨h1, by omega, h3⟩, cD.dO sm (bZ _) k⟩
 . cases he
theorem aB {o : Op} {op : Operator} (ho : fB X (binaryOp op) (rD X.K (sy o))) (ha : SX X c a pa) (hb : SX X c b pb) : SX X c (.BinOp a op b pos) (.bin o pa pb) :=
 qI (fun h1 h2 => Qe ho h1 h2) ha hb (fun ρ => by rw [HH.ev]) rfl
theorem jm (ha : SX X c a pa) : SX X c (.UnaryOp .USub a pos) (.neg pa) := by
 refine K5 (f := Gz) (fun h1 => Rh ?_ h1) ha (fun ρ => by rw [HH.ev]) rfl
 rintro pins s σ H x v Q I rx ⟨F, d, r, sm, px, he, k⟩
 unfold Gz at he
 obtain ⟨i, e1, e2⟩ := map_some he
 subst e2
 cases d <;> cases e1
 rw [px.int] at rx
 exact KY pins s σ H _ v Q I rx ⟨_, rfl, cD.dO sm (bZ _) k⟩
theorem xf {op : CmpOp} {f : Int -> Int -> Bool} (ho : fB X (compareOp op) (Ec fun i j => .bl (f i j))) : fB X (compareOp op) (rD X.K fun x y => (Eb f x y).map fun k => .val (.bl k)) := by
 rintro pins s σ H x y v u Q I rx ry ⟨F, d, e, r, sm, px, py, he, k⟩
 obtain ⟨t, e1, e2⟩ := map_some (show (Eb f d e).map _ = some r from he)
 subst e2
 unfold Eb at e1
 split at e1
 . cases e1
   rw [px.int] at rx; rw [py.int] at ry
   exact ho pins s σ H _ _ v u Q I rx ry ⟨_, _, rfl, rfl, cD.dO sm (jf _) k⟩
 . cases e1
theorem vD {op : CmpOp} {f : Int -> Int -> Bool} (ho : fB X (compareOp op) (Ec fun i j => .bl (f i j))) {o : Cm} (hc : cm o = Eb f) : fB X (compareOp op) (rD X.K (lX o)) := by
 have e : lX o = fun x y => (Eb f x y).map fun k => .val (.bl k) := by funext x y; unfold lX; rw [hc]
 rw [e]; exact xf ho
theorem Mf : fB X (compareOp .Lt) (rD X.K fun x y => (Eb (fun i j => decide (i < j)) x y).map fun k => .val (.bl k)) := xf Qg
theorem gM : fB X (compareOp .LtE) (rD X.K (lX .le)) := vD RG rfl
theorem gj : fB X (compareOp .Gt) (rD X.K (lX .gt)) := vD Q6 rfl
theorem vN : fB X (compareOp .GtE) (rD X.K (lX .ge)) := vD RX rfl
theorem kZ {o : Cm} {op : CmpOp} (ho : fB X (compareOp op) (rD X.K (lX o))) (ha : SX X c a pa) (hb : SX X c b pb) (hm : behindInMarks op b = false) : SX X c (.Compare a [op] [b] pos) (.cmp o pa pb) :=
 qI (fun h1 h2 => Fq ho h1 h2 hm) ha hb (fun ρ => by rw [HH.ev]) rfl
theorem Ah {o o' : Cm} {op op' : CmpOp} (ho : fB X (compareOp op) (rD X.K (lX o))) (ho' : fB X (compareOp op') (rD X.K (lX o'))) (ha : SX X c a pa) (hb : SX X c b pb) (hd : SX X c d pd)
 (hm : lastMarks [op, op'] [b, d] = false := by with_unfolding_all rfl) : SX X c (.Compare a [op, op'] [b, d] pos) (.chain o o' pa pb pd) := by
 obtain ⟨ta, tb, h1, h2, h3⟩ := ha.jj hb
 obtain ⟨td, h4, h5⟩ := hd.fj
 refine ⟨fX (zW ho ho' h1 h2 h4 hm) ?_, fun i h => by cases h⟩
 rintro σ H Q ⟨F, ρ, r, ρ', g, e, k⟩
 rw [HH.ev] at e
 obtain ⟨xy, ρ1, e1, e⟩ := ao e
 obtain ⟨t, ρ2, e2, e⟩ := ao e
 have zz := aG e2; clear e2; obtain ⟨e2, e3⟩ := zz
 subst e3
 have hfl : flat xy.2 = true /\ cm o xy.1 xy.2 = some t := by
  split at e2
  . rename_i hf; exact ⟨hf, e2⟩
  . cases e2
 obtain ⟨hfl, e2⟩ := hfl
 refine h3 g e1 fun v u F' H' s pv pu => ⟨F', xy.1, xy.2, .val (.bl t), s.gs.sub, pv, pu, by unfold lX; rw [e2]; rfl, fun w F2 H2 x rn => ?_⟩
 have s2 := s.trans (x.stp s.gs)
 have rn : Rep X.K F2 w (.bl t) := rn
 rw [Rep] at rn
 subst rn
 refine ⟨t, rfl, ?_⟩
 cases t with
 | false =>
   rw [if_neg Bool.false_ne_true] at e ⊢
   cases e
   exact k _ F2 H2 s2 (show Rep X.K F2 _ _ from jf _)
 | true =>
   rw [if_pos rfl] at e ⊢
   obtain ⟨z, ρ3, e3, e⟩ := ao e
   obtain ⟨e4, e5⟩ := aG e
   subst e5
   refine h5 s2.gs e3 fun w F3 H3 s3 pw => ⟨F3, xy.2, z, r, s3.gs.sub, ?_, pw, e4, fun w' F4 H4 x4 rn => ?_⟩
   . have x1 := x.fs
     have x2 := s3.cZ
     rcases pu with pu | ⟨_, _, _, _, _, _, h⟩
     . exact .inl ((pu.mono x1).mono x2)
     . rw [h] at hfl; cases hfl
   . have s4 := s2.trans s3
     exact k w' F4 H4 (s4.trans (x4.stp s4.gs)) (.later s4 (rn.pB s4.gs))
end
end HH
end
section
namespace HH
open PySem L2 PySem.Spec PyProof.Rows
section
variable {X : Cx} {c : Call} {e a b d : Expr} {p pa pb pd : P} {pos : Pos} {rest : List Expr}
theorem m9 {x : D} {k : Bool} (h : uJ x = some k) : x = .bl k := by cases x <;> cases h; rfl
theorem eV {x : D} {k : Int} (h : oh x = some k) : x = .int k := by cases x <;> cases h; rfl
theorem cL.bool {K : PySem.W.Frag} {F' H' H : Hp} {ρ' ρ : List Sl} {σ' σ : L2.St} {v : V} {r : R} {k : Bool} (h : cL K F' ρ' σ' H' ρ σ H v r) (e : r.d = .bl k) : v = .bl k := by
 cases r with
 | val d => cases (show d = .bl k from e); have h : Rep K F' v (.bl k) := h; rw [Rep] at h; exact h
 | own ds => cases e
noncomputable def ST (X : Cx) (c : Call) (e : Expr) (p : P) : Prop := PT X e (Ih X.K (jB (HH.ev c p)))
noncomputable def SW (X : Cx) (c : Call) (e : Expr) (p : P) : Prop := PW X e (Ih X.K (jB (HH.ev c p)))
theorem SW.st (h : SW X c e p) : ST X c e p := PW.pt h
theorem qQ {t : TE} {Q : Bool -> Hp -> Prop} {σ : L2.St} {H : Hp} (hi : ∀ Q, Bj X.K (HH.ev c p) σ H Q -> t σ H Q) (h : Ih X.K (jB (HH.ev c p)) σ H Q) : t σ H fun x H1 => ∃ k, x = .bl k /\ Q k H1 := by
 obtain ⟨F, ρ, k, ρ', g, e, q⟩ := h
 obtain ⟨r, ρ1, e1, e2⟩ := ao e
 have zz := aG e2; clear e2; obtain ⟨e2, e3⟩ := zz
 subst e3
 exact hi _ ⟨F, ρ, r, ρ1, g, e1, fun v F' H' s rr => ⟨k, rr.bool (m9 e2), q F' H' s⟩⟩
theorem kY (h : SX X c e p) (he : ∀ whole, isTrue e X.env whole = (do let v <- whole; standAt e.pos; holding [v] (truthy v)) := by intro _; rfl) : ST X c e p :=
 yc (Kf h.ev he) fun σ H Q q => qQ (fun _ z => z) q
theorem bu {o : Cm} {op : CmpOp} (ho : fB X (compareOp op) (rD X.K (lX o))) (ha : SX X c a pa) (hb : SX X c b pb) (hm : behindInMarks op b = false) : ST X c (.Compare a [op] [b] pos) (.cmp o pa pb) := by
 obtain ⟨ta, tb, h1, h2, h3⟩ := ha.jj hb
 refine yc (Gd ho h1 h2 hm) fun σ H Q q => qQ (t := M4 (rD X.K (lX o)) ta tb) (fun Q z => ?_) q
 obtain ⟨F, ρ, r, ρ', g, e, k⟩ := z
 rw [HH.ev] at e
 obtain ⟨xy, ρ1, e1, e2⟩ := ao e
 have zz := aG e2; clear e2; obtain ⟨e2, e3⟩ := zz
 subst e3
 refine h3 g e1 fun v u F' H' s pv pu => ⟨F', xy.1, xy.2, r, s.gs.sub, pv, pu, e2, fun w F2 H2 x rn => ?_⟩
 exact k w F2 H2 (s.trans (x.stp s.gs)) (.later s (rn.pB s.gs))
theorem jt (ha : ST X c a pa) : ST X c (.UnaryOp .Not a pos) (.not pa) := by
 refine yc (Kv ha) ?_
 rintro σ H Q ⟨F, ρ, k, ρ', g, e, q⟩
 unfold jB at e
 rw [HH.ev] at e
 obtain ⟨r, ρ1, e1, e2⟩ := ao e
 obtain ⟨k', ρ2, e3, e4⟩ := ao e1
 cases e4
 have zz := aG e2; clear e2; obtain ⟨e2, e5⟩ := zz
 subst e5
 have e2 : (!k') = k := by cases e2; rfl
 exact ⟨F, ρ, k', _, g, e3, fun F' H' s => by show Q (!k') H'; rw [e2]; exact q F' H' s⟩
theorem Ga (ρ : List Sl) : jB (HH.ev c (.and pa pb)) ρ = (jB (HH.ev c pa) ρ).bind fun x ρ => if x then jB (HH.ev c pb) ρ else .ok false ρ := by
 unfold jB
 rw [HH.ev]
 unfold jB
 cases HH.ev c pa ρ with
 | exc _ _ => rfl
 | stuck => rfl
 | ok r ρ1 =>
   simp only [Res.bind]
   cases h : uJ r.d with
   | none => rfl
   | some k =>
     cases k with
     | false => rfl
     | true =>
       simp only [lift, if_true]
       cases HH.ev c pb ρ1 with
       | exc _ _ => rfl
       | stuck => rfl
       | ok r2 ρ2 =>
         simp only [Res.bind]
         cases h2 : uJ r2.d with
         | none => rfl
         | some k2 => rfl
theorem Kd (ρ : List Sl) : jB (HH.ev c (.or pa pb)) ρ = (jB (HH.ev c pa) ρ).bind fun x ρ => if x then .ok true ρ else jB (HH.ev c pb) ρ := by
 unfold jB
 rw [HH.ev]
 unfold jB
 cases HH.ev c pa ρ with
 | exc _ _ => rfl
 | stuck => rfl
 | ok r ρ1 =>
   simp only [Res.bind]
   cases h : uJ r.d with
   | none => rfl
   | some k =>
     cases k with
     | true => rfl
     | false =>
       simp only [lift, Bool.false_eq_true, if_false]
       cases HH.ev c pb ρ1 with
       | exc _ _ => rfl
       | stuck => rfl
       | ok r2 ρ2 =>
         simp only [Res.bind]
         cases h2 : uJ r2.d with
         | none => rfl
         | some k2 => rfl
theorem mZ (ha : ST X c a pa) : SW X c (.BoolOp .And [a] pos) pa := G7 ha
theorem CG (ha : ST X c a pa) : SW X c (.BoolOp .Or [a] pos) pa := Lg ha
theorem rR (ha : ST X c a pa) (hb : SW X c (.BoolOp .And (b :: rest) pos) pb) : SW X c (.BoolOp .And (a :: b :: rest) pos) (.and pa pb) := by
 refine HQ (Ls ha hb) ?_
 rintro σ H Q ⟨F, ρ, k, ρ', g, e, q⟩
 rw [Ga] at e
 obtain ⟨x, ρ1, e1, e⟩ := ao e
 refine ⟨F, ρ, x, ρ1, g, e1, fun F1 H1 s1 => ?_⟩
 cases x with
 | true =>
   rw [if_pos rfl] at e ⊢
   exact ⟨F1, ρ1, k, ρ', s1.gs, e, fun F2 H2 s2 => q F2 H2 (s1.trans s2)⟩
 | false =>
   rw [if_neg Bool.false_ne_true] at e ⊢
   cases e
   exact q F1 H1 s1
theorem Iv (ha : ST X c a pa) (hb : SW X c (.BoolOp .Or (b :: rest) pos) pb) : SW X c (.BoolOp .Or (a :: b :: rest) pos) (.or pa pb) := by
 refine HQ (Qn ha hb) ?_
 rintro σ H Q ⟨F, ρ, k, ρ', g, e, q⟩
 rw [Kd] at e
 obtain ⟨x, ρ1, e1, e⟩ := ao e
 refine ⟨F, ρ, x, ρ1, g, e1, fun F1 H1 s1 => ?_⟩
 cases x with
 | true =>
   rw [if_pos rfl] at e ⊢
   cases e
   exact q F1 H1 s1
 | false =>
   rw [if_neg Bool.false_ne_true] at e ⊢
   exact ⟨F1, ρ1, k, ρ', s1.gs, e, fun F2 H2 s2 => q F2 H2 (s1.trans s2)⟩
theorem xg {op} (ha : SX X c a pa) : PE X (.BoolOp op [a] pos) (Bj X.K (HH.ev c pa)) := Mt ha.ev
theorem v7 (ha : SX X c a pa) (hb : PE X (.BoolOp .And (b :: rest) pos) (Bj X.K (HH.ev c pb))) : SX X c (.BoolOp .And (a :: b :: rest) pos) (.and pa pb) := by
 refine ⟨fX (Kc ha.ev hb) ?_, fun i h => by cases h⟩
 rintro σ H Q ⟨F, ρ, r, ρ', g, e, k⟩
 rw [HH.ev] at e
 obtain ⟨x, ρ1, e1, e⟩ := ao e
 refine qQ (c := c) (fun _ z => z) (Q := fun x H1 => if x = true then Bj X.K (HH.ev c pb) σ H1 Q else Q (.bl false) H1) ⟨F, ρ, x, ρ1, g, e1, fun F1 H1 s1 => ?_⟩
 cases x with
 | true =>
   rw [if_pos rfl] at e ⊢
   obtain ⟨y, ρ2, e2, e3⟩ := ao e
   cases e3
   obtain ⟨r2, ρ3, e4, e5⟩ := ao e2
   have zz := aG e5; clear e5; obtain ⟨e5, e6⟩ := zz
   subst e6
   refine ⟨F1, ρ1, r2, _, s1.gs, e4, fun v F2 H2 s2 rr => ?_⟩
   rw [rr.bool (m9 e5)]
   exact k _ F2 H2 (s1.trans s2) (show Rep X.K F2 _ _ from jf _)
 | false =>
   rw [if_neg Bool.false_ne_true] at e ⊢
   cases e
   exact k _ F1 H1 s1 (show Rep X.K F1 _ _ from jf _)
theorem iU : ∀ {ps : List P} {ρ ρ' : List Sl} {ds : List D}, evs c ps ρ = .ok ds ρ' -> ds.length = ps.length
 | [], _, _, _, h => by rw [evs] at h; cases h; rfl
 | p :: ps, _, _, _, h => by
   rw [evs] at h
   obtain ⟨r, ρ1, _, h⟩ := ao h
   obtain ⟨xs, ρ2, h2, h⟩ := ao h
   cases h
   simp [iU h2]
theorem aY : SA X c [] [] := ⟨tM jn fun σ H Q ⟨F, ρ, ds, ρ', g, e, k⟩ => by rw [evs] at e; cases e; exact k [] F H (.refl g) .nil, rfl⟩
theorem m5 {es : List Expr} {ps : List P} (ha : SX X c a pa) (hr : SA X c es ps) (hs : starEach (a :: es) X.env = (false, eval a X.env) :: starEach es X.env := by rfl) : SA X c (a :: es) (pa :: ps) := by
 refine ⟨tM (eN ha.ev hr.1 hs) ?_, by simp [hr.2]⟩
 rintro σ H Q ⟨F, ρ, ds, ρ', g, e, k⟩
 rw [evs] at e
 obtain ⟨r, ρ1, e1, e⟩ := ao e
 obtain ⟨xs, ρ2, e2, e⟩ := ao e
 cases e
 refine ⟨F, ρ, r, ρ1, g, e1, fun v F' H' s rr => ?_⟩
 obtain ⟨F1, s1, _, rp⟩ := s.gq rr
 refine ⟨F1, ρ1, xs, _, s1.gs, e2, fun vs F2 H2 s2 rs => ?_⟩
 exact k _ F2 H2 (s1.trans s2) (.cons (rp.mono s2.cZ) rs)
theorem Ext.GZ {K : PySem.W.Frag} {F H : Hp} {ρ ρ' : List Sl} {σ : L2.St} {H0 F0 : Hp} {Q : VK} {xs : List V} {ds : List D} (s : cg K F0 ρ σ H0 F ρ' σ H) (r : aJ K F xs ds)
 (k : ∀ v F' H', cg K F0 ρ σ H0 F' ρ' σ H' -> cL K F' ρ' σ H' ρ σ H0 v (.val (.tup ds)) -> Q v H') (p : Addr) (hp : H p = none) : Q (.ref p) (upd H p (.tup xs)) :=
 yN s.gs.sub r hp fun v F' H' x rn => k v F' H' (s.trans (x.stp s.gs)) rn
theorem dH {es : List Expr} {ps : List P} {x1} (h : SA X c es ps) (hz : ps.length <= sizeLine := by decide) : SX X c (.Tuple es x1 pos) (.tup ps) := by
 refine ⟨fX (rE h.1) ?_, fun i h => by cases h⟩
 rintro σ H Q ⟨F, ρ, r, ρ', g, e, k⟩
 rw [HH.ev] at e
 obtain ⟨ds, ρ1, e1, e⟩ := ao e
 cases e
 exact ⟨F, ρ, ds, _, g, e1, fun vs F' H' s rs => ⟨by rw [rs.length, iU e1]; exact hz, fun p hp => Ext.GZ s rs k p hp⟩⟩
theorem gk {es : List Expr} {ps : List P} (h : SA X c es ps) (hz : ps.length <= sizeLine := by decide) : SX X c (.List es pos) (.lst ps) := by
 refine ⟨fX (Js h.1) ?_, fun i h => by cases h⟩
 rintro σ H Q ⟨F, ρ, r, ρ', g, e, k⟩
 rw [HH.ev] at e
 obtain ⟨ds, ρ1, e1, e⟩ := ao e
 cases e
 exact ⟨F, ρ, ds, _, g, e1, fun vs F' H' s rs => ⟨by rw [rs.length, iU e1]; exact hz, fun p hp => tU s.gs.sub rs hp fun v F2 H2 x rn => k v F2 H2 (s.trans (x.stp s.gs)) (.later s (rn.pB s.gs))⟩⟩
theorem Ju {ds : List D} {i : Int} {d : D} (h : at' ds i = some d) : ∃ j, L2.jx ds.length i = some j /\ ds[j]? = some d := dC h
theorem Yt : Us X (rD X.K uX) := by
 rintro value slice pins s σ H x y v u Q I rx ry ⟨F, d, e, r, sm, px, py, he, k⟩ hs
 unfold uX at he
 obtain ⟨ds, e1, he⟩ := dC he
 obtain ⟨i, e2, he⟩ := dC he
 obtain ⟨z, e3, he⟩ := map_some he
 subst he
 cases eV e2
 rw [py.int] at ry
 obtain ⟨p, xs, rfl, hq, rs⟩ := px.items sm e1
 obtain ⟨j, h1, h2⟩ := Ju e3
 obtain ⟨w, h3, h4⟩ := rs.get h2
 have hat : O7 xs i = some w := by unfold O7; rw [rs.length, h1]; exact h3
 rcases hq with hq | hq
 . exact Ez value slice pins s σ H _ _ v u Q I rx ry ⟨p, xs, i, w, rfl, rfl, hq, hat, cD.dO sm h4 k⟩ hs
 . exact Lb value slice pins s σ H _ _ v u Q I rx ry ⟨p, xs, i, w, rfl, rfl, hq, hat, cD.dO sm h4 k⟩ hs
theorem aA (ha : SX X c a pa) (hb : SX X c b pb) (hs : yh b := by intro _ _; rfl) : SX X c (.Subscript a b pos) (.idx pa pb) :=
 qI (f := uX) (fun h1 h2 => Q4 Yt h1 h2 hs) ha hb (fun ρ => by rw [HH.ev]) rfl
noncomputable def Ed (K : PySem.W.Frag) (f : D -> Option R) : List V -> Hp -> VK -> Prop := fun xs H Q => ∃ x, xs = [x] /\ ZQ K f x H Q
theorem jE {E : Expr} {f : D -> Option R} {q : P} (hp : ∀ {t}, PA X [a] t -> PE X E (Uh (Ed X.K f) t)) (ha : SX X c a pa)
 (hq : ∀ ρ, HH.ev c q ρ = (HH.fj (isVar pa) (HH.ev c pa) ρ).bind fun x ρ => lift (f x) ρ) (hv : isVar q = none) (hs : starEach [a] X.env = (false, eval a X.env) :: starEach [] X.env := by rfl) : SX X c E q := by
 obtain ⟨ta, h1, h3⟩ := ha.fj
 refine ⟨fX (hp (eN h1 jn hs)) ?_, fun i h => by rw [hv] at h; cases h⟩
 rintro σ H Q ⟨F, ρ, r, ρ', g, e, k⟩
 rw [hq] at e
 obtain ⟨x, ρ1, e1, e2⟩ := ao e
 have zz := aG e2; clear e2; obtain ⟨e2, e3⟩ := zz
 subst e3
 refine h3 g e1 fun v F' H' s pv => ⟨v, rfl, F', x, r, s.gs.sub, pv, e2, fun w F2 H2 x rn => ?_⟩
 exact k w F2 H2 (s.trans (x.stp s.gs)) (.later s (rn.pB s.gs))
theorem QQ : dq X (.builtin "len") (Ed X.K fun x => blt .len [x]) := by
 rintro pins s σ H xs us Q I r ⟨x, hx, F, d, r', sm, px, he, k⟩
 obtain ⟨ds, e1, he⟩ := map_some (show (items d).map _ = some r' from he)
 subst he
 obtain ⟨p, ys, rfl, hq, rs⟩ := px.items sm e1
 exact rO pins s σ H xs us Q I r ⟨p, ys, hx, hq, by rw [rs.length]; exact cD.dO sm (bZ _) k⟩
theorem K3 : dq X (.type "list") (Ed X.K fun x => blt .list [x]) := by
 rintro pins s σ H xs us Q I r ⟨x, hx, F, d, r', sm, px, he, k⟩
 obtain ⟨ds, e1, he⟩ := map_some (show (items d).map _ = some r' from he)
 subst he
 obtain ⟨p, ys, rfl, hq, rs⟩ := px.items sm e1
 exact rP pins s σ H xs us Q I r ⟨p, ys, hx, hq, fun l hl => tU sm rs hl k⟩
theorem FP : dq X (.type "tuple") (Ed X.K fun x => blt .tuple [x]) := by
 rintro pins s σ H xs us Q I r ⟨x, hx, F, d, r', sm, px, he, k⟩
 obtain ⟨ds, e1, he⟩ := map_some (show (items d).map _ = some r' from he)
 subst he
 cases d with
 | tup es =>
   cases e1
   obtain ⟨a, ys, rfl, hq, rs, rt⟩ := px.tup sm
   exact jd pins s σ H xs us Q I r ⟨a, ys, hx, .inr ⟨hq, cD.dO sm rt k⟩⟩
 | lst es =>
   cases e1
   obtain ⟨a, ys, rfl, hq, rs⟩ := px.lst sm
   exact jd pins s σ H xs us Q I r ⟨a, ys, hx, .inl ⟨hq, fun l hl => yN sm rs hl k⟩⟩
 | _ => cases e1
theorem lE {x : Str} {p' : Pos} (hx : x = "len") (hg : Gl X x) (hm : X.mg x = none) (ha : SX X c a pa) (hs : starEach [a] X.env = (false, eval a X.env) :: starEach [] X.env := by rfl) : SX X c (.Call (.Name x p') [a] [] pos) (.blt .len [pa]) := by
 subst hx; exact jE (fun h => eY QQ hg hm PySem.boot_len h (he := hs)) ha (fun ρ => by rw [HH.ev]) rfl hs
theorem Gk {x : Str} {p' : Pos} (hx : x = "list") (hg : Gl X x) (hm : X.mg x = none) (ha : SX X c a pa) (hs : starEach [a] X.env = (false, eval a X.env) :: starEach [] X.env := by rfl) : SX X c (.Call (.Name x p') [a] [] pos) (.blt .list [pa]) := by
 subst hx; exact jE (fun h => j8 K3 hg hm (by decide +kernel) h (he := hs)) ha (fun ρ => by rw [HH.ev]) rfl hs
theorem tZ {x : Str} {p' : Pos} (hx : x = "tuple") (hg : Gl X x) (hm : X.mg x = none) (ha : SX X c a pa) (hs : starEach [a] X.env = (false, eval a X.env) :: starEach [] X.env := by rfl) : SX X c (.Call (.Name x p') [a] [] pos) (.blt .tuple [pa]) := by
 subst hx; exact jE (fun h => j8 FP hg hm (by decide +kernel) h (he := hs)) ha (fun ρ => by rw [HH.ev]) rfl hs
end
end HH
end
section
namespace HH
open PySem L2 PySem.Spec PyProof.Rows
noncomputable def ik (K : PySem.W.Frag) (np : Nat) (f : List Sl -> Res R) : Sp := fun vs H Q _ => vs.length = np /\ ∃ F args r args', GS K F args (vs.map some) H /\ f args = .ok r args' /\
 ∀ v F' σ' H', cg K F args (vs.map some) H F' args' σ' H' -> cL K F' args' σ' H' args (vs.map some) H v r -> Q v H'
section
variable {K : PySem.W.Frag}
noncomputable def v9 (K : PySem.W.Frag) (F : Hp) (ρ : List Sl) (σ : L2.St) (H : Hp) (ρ₀ : List Sl) (H₀ : Hp) (v : V) : Arg -> Prop
 | .dat d => Rep K F v d
 | .tmp ds => ∃ x xs, v = .ref x /\ H x = some (.lst xs) /\ F x = none /\ aJ K F xs ds /\ ¬ Own ρ σ x /\ (Own ρ₀ σ x \/ H₀ x = none)
 | .fu i => σ[i]? = some (some v)
structure tL (K : PySem.W.Frag) (F : Hp) (ρ : List Sl) (σ : L2.St) (H : Hp) (ρ₀ : List Sl) (H₀ : Hp) (as : List Arg) (vs : List V) : Prop where
 len : as.length = vs.length
 one : ∀ (j : Nat) (a : Arg) (v : V), as[j]? = some a -> vs[j]? = some v -> v9 K F ρ σ H ρ₀ H₀ v a
 dis : ∀ (j k : Nat) (ds es : List D) (x : Addr), as[j]? = some (.tmp ds) -> as[k]? = some (.tmp es) -> vs[j]? = some (.ref x) -> vs[k]? = some (.ref x) -> j = k
theorem v9.later {F F' H H' H₀ : Hp} {ρ ρ' ρ₀ : List Sl} {σ : L2.St} {v : V} {a : Arg} (s : cg K F ρ σ H F' ρ' σ H') (h : v9 K F ρ σ H ρ₀ H₀ v a) : v9 K F' ρ' σ H' ρ₀ H₀ v a := by
 cases a with
 | dat d => exact Rep.mono s.cZ h
 | fu i => exact h
 | tmp ds =>
   obtain ⟨x, xs, h1, h2, h3, h4, h5, h6⟩ := h
   refine ⟨x, xs, h1, s.keep x _ h2 h5, ?_, h4.mono s.cZ, fun o => ?_, h6⟩
   . cases q : F' x with
     | none => rfl
     | some o =>
       rcases s.zQ x h3 (by rw [q]; simp) with z | z
       . exact absurd z h5
       . exact (CV h2 z).elim
   . rcases s.zJ x o with z | z
     . exact h5 z
     . rw [h2] at z; cases z
theorem tL.nil {F H H₀ : Hp} {ρ ρ₀ : List Sl} {σ : L2.St} : tL K F ρ σ H ρ₀ H₀ [] [] := ⟨rfl, fun j a v h => by simp at h, fun j k ds es x h => by simp at h⟩
theorem tL.cons {F H H₀ : Hp} {ρ ρ₀ : List Sl} {σ : L2.St} {a : Arg} {v : V} {as : List Arg} {vs : List V} (h : v9 K F ρ σ H ρ₀ H₀ v a) (t : tL K F ρ σ H ρ₀ H₀ as vs)
 (hd : ∀ ds x, a = .tmp ds -> v = .ref x -> ∀ (k : Nat) es, as[k]? = some (.tmp es) -> vs[k]? ≠ some (.ref x)) : tL K F ρ σ H ρ₀ H₀ (a :: as) (v :: vs) := by
 refine ⟨by simp [t.len], fun j b u h1 h2 => ?_, fun j k ds es x h1 h2 h3 h4 => ?_⟩
 . cases j with
   | zero => simp at h1 h2; subst h1; subst h2; exact h
   | succ j => exact t.one j b u (by simpa using h1) (by simpa using h2)
 . cases j with
   | zero =>
     cases k with
     | zero => rfl
     | succ k => simp at h1 h3; exact absurd (by simpa using h4) (hd ds x h1 h3 k es (by simpa using h2))
   | succ j =>
     cases k with
     | zero => simp at h2 h4; exact absurd (by simpa using h3) (hd es x h2 h4 j ds (by simpa using h1))
     | succ k => rw [t.dis j k ds es x (by simpa using h1) (by simpa using h2) (by simpa using h3) (by simpa using h4)]
noncomputable def CQ (ρ : List Sl) : Arg -> Sl -> Prop
 | .dat d, s => s = .val false d
 | .tmp ds, s => s = .own false ds
 | .fu i, s => (∃ b d, ρ[i]? = some (.val b d) /\ s = .val false d) \/ (∃ b ds, ρ[i]? = some (.own b ds) /\ s = .own true ds) \/ ∃ ds, ρ[i]? = some (.lent ds) /\ s = .lent ds
theorem nT {ρ : List Sl} : ∀ {as : List Arg} {used : List Nat} {args : List Sl}, bG ρ as used = some args -> args.length = as.length /\
 (∀ (j : Nat) (a : Arg) (s : Sl), as[j]? = some a -> args[j]? = some s -> CQ ρ a s) /\
 (∀ (j : Nat) (i : Nat) (s : Sl) ds, as[j]? = some (.fu i) -> args[j]? = some s -> lst? s = some ds -> i ∉ used) /\
 (∀ (j k : Nat) (i : Nat) (s t : Sl) ds es, as[j]? = some (.fu i) -> as[k]? = some (.fu i) -> args[j]? = some s -> args[k]? = some t -> lst? s = some ds -> lst? t = some es -> j = k)
 | [], used, args, h => by
   rw [bG] at h; cases h
   exact ⟨rfl, fun j a s h => by simp at h, fun j i s ds h => by simp at h, fun j k i s t ds es h => by simp at h⟩
 | a :: as, used, args, h => by
   -- the Y8 slot, the Y9
   have key : ∃ s0 r uN, args = s0 :: r /\ bG ρ as uN = some r /\ CQ ρ a s0 /\ ((∃ i ds, a = .fu i /\ lst? s0 = some ds /\ uN = i :: used /\ i ∉ used) \/ ((∀ i ds, a = .fu i -> lst? s0 ≠ some ds) /\ uN = used)) := by
    cases a with
    | dat d =>
      rw [bG] at h
      obtain ⟨r, e1, e2⟩ := map_some h
      exact ⟨_, r, used, e2.symm, e1, rfl, .inr ⟨fun i ds z => (by cases z), rfl⟩⟩
    | tmp d =>
      rw [bG] at h
      obtain ⟨r, e1, e2⟩ := map_some h
      exact ⟨_, r, used, e2.symm, e1, rfl, .inr ⟨fun i ds z => (by cases z), rfl⟩⟩
    | fu i =>
      rw [bG] at h
      split at h
      . rename_i b d q
        obtain ⟨r, e1, e2⟩ := map_some h
        exact ⟨_, r, used, e2.symm, e1, .inl ⟨b, d, q, rfl⟩, .inr ⟨fun _ _ _ z => (by cases z), rfl⟩⟩
      . rename_i b ds q
        split at h
        . cases h
        . rename_i hu
          obtain ⟨r, e1, e2⟩ := map_some h
          exact ⟨_, r, _, e2.symm, e1, .inr (.inl ⟨b, ds, q, rfl⟩), .inl ⟨i, _, rfl, rfl, rfl, by simpa using hu⟩⟩
      . rename_i ds q
        split at h
        . cases h
        . rename_i hu
          obtain ⟨r, e1, e2⟩ := map_some h
          exact ⟨_, r, _, e2.symm, e1, .inr (.inr ⟨ds, q, rfl⟩), .inl ⟨i, _, rfl, rfl, rfl, by simpa using hu⟩⟩
      . cases h
   obtain ⟨s0, r, uN, rfl, hr, hs0, hu⟩ := key
   obtain ⟨l1, l2, l3, l4⟩ := nT hr
   have sub : ∀ i, i ∉ uN -> i ∉ used := fun i hi hm => by
    rcases hu with ⟨_, _, _, _, rfl, _⟩ | ⟨_, rfl⟩
    . exact hi (List.mem_cons_of_mem _ hm)
    . exact hi hm
   refine ⟨by simp [l1], fun j b s h1 h2 => ?_, fun j i s ds h1 h2 h3 => ?_, fun j k i s t ds es h1 h2 h3 h4 h5 h6 => ?_⟩
   . cases j with
     | zero => simp at h1 h2; subst h1; subst h2; exact hs0
     | succ j => exact l2 j b s (by simpa using h1) (by simpa using h2)
   . cases j with
     | zero =>
       simp at h1 h2; subst h1; subst h2
       rcases hu with ⟨i', _, e, _, _, hn⟩ | ⟨hn, _⟩
       . cases e; exact hn
       . exact absurd h3 (hn i ds rfl)
     | succ j => exact sub i (l3 j i s ds (by simpa using h1) (by simpa using h2) h3)
   . have z0 : ∀ (k : Nat) (t : Sl) es, a = .fu i -> lst? s0 = some ds -> (as[k]? = some (.fu i)) -> r[k]? = some t -> lst? t = some es -> False := fun k t es ea e0 hk ht he => by
      rcases hu with ⟨i', _, e, _, rfl, hn⟩ | ⟨hn, _⟩
      . rw [ea] at e; cases e
        exact l3 k i t es hk ht he List.mem_cons_self
      . exact hn i ds ea e0
     have z1 : ∀ (k : Nat) (t : Sl) es, a = .fu i -> lst? s0 = some es -> (as[k]? = some (.fu i)) -> r[k]? = some t -> lst? t = some ds -> False := fun k t es ea e0 hk ht he => by
      rcases hu with ⟨i', _, e, _, rfl, hn⟩ | ⟨hn, _⟩
      . rw [ea] at e; cases e
        exact l3 k i t ds hk ht he List.mem_cons_self
      . exact hn i es ea e0
     cases j with
     | zero =>
       cases k with
       | zero => rfl
       | succ k => simp at h1 h3; subst h3; exact (z0 k t es h1 h5 (by simpa using h2) (by simpa using h4) h6).elim
     | succ j =>
       cases k with
       | zero => simp at h2 h4; subst h4; exact (z1 j s es h2 h6 (by simpa using h1) (by simpa using h3) h5).elim
       | succ k => rw [l4 j k i s t ds es (by simpa using h1) (by simpa using h2) (by simpa using h3) (by simpa using h4) h5 h6]
theorem tL.get {F H H₀ : Hp} {ρ ρ₀ : List Sl} {σ : L2.St} {as : List Arg} {vs : List V} (A : tL K F ρ σ H ρ₀ H₀ as vs) {args : List Sl} {j : Nat} {s : Sl} (hl : args.length = as.length) (h : args[j]? = some s) :
 ∃ a v, as[j]? = some a /\ vs[j]? = some v /\ v9 K F ρ σ H ρ₀ H₀ v a := by
 have hj : j < args.length := (List.getElem?_eq_some_iff.mp h).1
 have h1 : j < as.length := by omega
 have h2 : j < vs.length := by rw [<- A.len]; exact h1
 exact ⟨as[j], vs[j], by simp [h1], by simp [h2], A.one j _ _ (by simp [h1]) (by simp [h2])⟩
theorem args_gs {F H H₀ : Hp} {ρ ρ₀ : List Sl} {σ : L2.St} {as : List Arg} {vs : List V} {args : List Sl} (g : GS K F ρ σ H) (A : tL K F ρ σ H ρ₀ H₀ as vs) (h : bG ρ as [] = some args) : GS K F args (vs.map some) H := by
 obtain ⟨l1, l2, l3, l4⟩ := nT h
 have up : ∀ {j : Nat} {v : V}, vs[j]? = some v -> (vs.map some)[j]? = some (some v) := fun e => by rw [List.getElem?_map, e]; rfl
 have dn : ∀ {j : Nat} {v : V}, (vs.map some)[j]? = some (some v) -> vs[j]? = some v := fun {j v} e => by
  rw [List.getElem?_map] at e
  cases q : vs[j]? with
  | none => rw [q] at e; cases e
  | some w => rw [q] at e; cases e; rfl
 refine ⟨g.sub, by rw [l1, A.len, List.length_map], fun j b d e => ?_, fun j s ds e e' => ?_, fun j k x ⟨⟨s, ds, e1, e2⟩, e3⟩ ⟨⟨t, es, f1, f2⟩, f3⟩ => ?_⟩
 . obtain ⟨a, v, h1, h2, h3⟩ := A.get l1 e
   have h4 := l2 j a _ h1 e
   refine ⟨v, up h2, ?_⟩
   cases a with
   | dat d' => cases h4; exact h3
   | tmp ds => cases h4
   | fu i =>
     rcases h4 with ⟨b', d', q1, q2⟩ | ⟨_, _, _, q2⟩ | ⟨_, _, q2⟩
     . cases q2
       obtain ⟨w, q3, q4⟩ := g.val i b' d q1
       have h3 : σ[i]? = some (some v) := h3
       rw [h3] at q3; cases q3
       exact q4
     . cases q2
     . cases q2
 . obtain ⟨a, v, h1, h2, h3⟩ := A.get l1 e
   have h4 := l2 j a _ h1 e
   cases a with
   | dat d' => cases h4; cases e'
   | tmp es =>
     cases h4; cases e'
     obtain ⟨x, xs, rfl, q2, q3, q4, _⟩ := h3
     exact ⟨x, _, up h2, q2, q3, xs, rfl, q4⟩
   | fu i =>
     have h3 : σ[i]? = some (some v) := h3
     rcases h4 with ⟨b', d', q1, q2⟩ | ⟨b', es, q1, q2⟩ | ⟨es, q1, q2⟩
     . cases q2; cases e'
     . cases q2; cases e'
       obtain ⟨x, xs, q3, q4⟩ := g.own i _ _ q1 rfl
       rw [h3] at q3; cases q3
       exact ⟨x, xs, up h2, q4⟩
     . cases q2; cases e'
       obtain ⟨x, xs, q3, q4⟩ := g.own i _ _ q1 rfl
       rw [h3] at q3; cases q3
       exact ⟨x, xs, up h2, q4⟩
 . obtain ⟨a, v, h1, h2, h3⟩ := A.get l1 e1
   obtain ⟨a', v', h1', h2', h3'⟩ := A.get l1 f1
   have e3 := dn e3
   have f3 := dn f3
   rw [h2] at e3; cases e3
   rw [h2'] at f3; cases f3
   have s1 := l2 j a _ h1 e1
   have s2 := l2 k a' _ h1' f1
   have nm : ∀ {i : Nat} {s : Sl} {ds : Oc}, lst? s = some ds -> CQ ρ (.fu i) s -> ∃ s' ds', ρ[i]? = some s' /\ lst? s' = some ds' := fun {i s ds} l z => by
    rcases z with ⟨_, _, _, z⟩ | ⟨b, es, q, _⟩ | ⟨es, q, _⟩
    . subst z; cases l
    . exact ⟨_, _, q, rfl⟩
    . exact ⟨_, _, q, rfl⟩
   cases a with
   | dat d => cases s1; cases e2
   | tmp Mz =>
     cases a' with
     | dat d => cases s2; cases f2
     | tmp Hn => exact A.dis j k Mz Hn x h1 h1' h2 h2'
     | fu i =>
       obtain ⟨y, _, q1, _, _, _, q2, _⟩ := h3
       cases q1
       obtain ⟨s', ds', q3, q4⟩ := nm f2 s2
       exact absurd ⟨i, ⟨s', ds', q3, q4⟩, h3'⟩ q2
   | fu i =>
     obtain ⟨s', ds', q3, q4⟩ := nm e2 s1
     cases a' with
     | dat d => cases s2; cases f2
     | tmp Hn =>
       obtain ⟨y, _, q1, _, _, _, q2, _⟩ := h3'
       cases q1
       exact absurd ⟨i, ⟨s', ds', q3, q4⟩, h3⟩ q2
     | fu i' =>
       obtain ⟨s'', Za, q5, q6⟩ := nm f2 s2
       have := g.dis i i' x ⟨⟨s', ds', q3, q4⟩, h3⟩ ⟨⟨s'', Za, q5, q6⟩, h3'⟩
       subst this
       exact l4 j k i s t ds es h1 h1' e1 f1 e2 f2
theorem lu {as : List Arg} {ss : List Sl} : ∀ (ρ : List Sl) (n i : Nat), (cG as ss n ρ)[i]? = (ρ[i]?).map fun s => dU s (aW (n + i) as ss)
 | [], n, i => by simp [cG]
 | s :: ρ, n, 0 => by simp [cG]
 | s :: ρ, n, i + 1 => by
   rw [cG]
   simp only [List.getElem?_cons_succ]
   rw [lu ρ (n + 1) i]
   have : n + 1 + i = n + (i + 1) := by omega
   rw [this]
theorem km {as : List Arg} {ss : List Sl} : ∀ (ρ : List Sl) (n : Nat), (cG as ss n ρ).length = ρ.length
 | [], n => rfl
 | s :: ρ, n => by rw [cG]; simp [km ρ]
theorem gH {i : Nat} : ∀ {as : List Arg} {ss : List Sl} {t : Sl}, aW i as ss = some t -> ∃ j : Nat, as[j]? = some (.fu i) /\ ss[j]? = some t
 | [], _, _, h => by simp [aW] at h
 | a :: as, [], _, h => by cases a <;> simp [aW] at h
 | a :: as, s :: ss, t, h => by
   have tl : aW i as ss = some t -> ∃ j : Nat, (a :: as)[j]? = some (.fu i) /\ (s :: ss)[j]? = some t := fun h => by
    obtain ⟨j, h1, h2⟩ := gH h
    exact ⟨j + 1, by simpa using h1, by simpa using h2⟩
   cases a with
   | dat d => exact tl (by simpa [aW] using h)
   | tmp d => exact tl (by simpa [aW] using h)
   | fu k =>
     rw [aW] at h
     split at h
     . rename_i hk; cases h; subst hk; exact ⟨0, rfl, rfl⟩
     . exact tl h
theorem jo {i : Nat} : ∀ {as : List Arg} {ss : List Sl}, as.length = ss.length -> aW i as ss = none -> ∀ j : Nat, as[j]? ≠ some (.fu i)
 | [], _, _, _ => fun j h => by simp at h
 | a :: as, [], hl, _ => by simp at hl
 | a :: as, s :: ss, hl, h => fun j hj => by
   have hl' : as.length = ss.length := by simpa using hl
   have tl : aW i as ss = none /\ a ≠ .fu i := by
    cases a with
    | dat d => exact ⟨by simpa [aW] using h, by simp⟩
    | tmp d => exact ⟨by simpa [aW] using h, by simp⟩
    | fu k =>
      rw [aW] at h
      split at h
      . cases h
      . rename_i hk; exact ⟨h, fun e => hk (by cases e; rfl)⟩
   cases j with
   | zero => simp at hj; exact tl.2 hj
   | succ j => exact jo hl' tl.1 j (by simpa using hj)
theorem Dl {F₀ H₀ F H F' H' : Hp} {ρ₀ ρ args args' : List Sl} {σ σ' : L2.St} {as : List Arg} {vs : List V} (s0 : cg K F₀ ρ₀ σ H₀ F ρ σ H) (A : tL K F ρ σ H ρ₀ H₀ as vs) (hb : bG ρ as [] = some args)
 (s : cg K F args (vs.map some) H F' args' σ' H') :
 cg K F₀ ρ₀ σ H₀ F' (cG as args' 0 ρ) σ H' /\ ∀ v r, cL K F' args' σ' H' args (vs.map some) H v r -> cL K F' (cG as args' 0 ρ) σ H' ρ₀ σ H₀ v r := by
 have g := s0.gs
 obtain ⟨l1, l2, l3, l4⟩ := nT hb
 have up : ∀ {j : Nat} {v : V}, vs[j]? = some v -> (vs.map some)[j]? = some (some v) := fun e => by rw [List.getElem?_map, e]; rfl
 have dn : ∀ {j : Nat} {v : V}, (vs.map some)[j]? = some (some v) -> vs[j]? = some v := fun {j v} e => by
  rw [List.getElem?_map] at e
  cases q : vs[j]? with
  | none => rw [q] at e; cases e
  | some w => rw [q] at e; cases e; rfl
 have la : as.length = args'.length := by rw [s.len, l1]
 -- whose are the lists that the callee holds
 have own : ∀ b, Own args (vs.map some) b -> (∃ (j : Nat) (ds : List D), as[j]? = some (Arg.tmp ds) /\ vs[j]? = some (V.ref b) /\ ¬ Own ρ σ b /\ (Own ρ₀ σ b \/ H₀ b = none)) \/ Own ρ σ b := fun b ⟨j, ⟨sl, ds, e1, e2⟩, e3⟩ => by
  obtain ⟨a, v, h1, h2, h3⟩ := A.get l1 e1
  have s1 := l2 j a _ h1 e1
  have e3 := dn e3
  rw [h2] at e3; cases e3
  cases a with
  | dat d => cases s1; cases e2
  | tmp es =>
    obtain ⟨x, _, q1, _, _, _, q2, q3⟩ := h3
    cases q1
    exact .inl ⟨j, es, h1, h2, q2, q3⟩
  | fu i =>
    right
    rcases s1 with ⟨_, _, _, z⟩ | ⟨b', es, q, _⟩ | ⟨es, q, _⟩
    . subst z; cases e2
    . exact ⟨i, ⟨_, _, q, rfl⟩, h3⟩
    . exact ⟨i, ⟨_, _, q, rfl⟩, h3⟩
 have back : ∀ b, Own ρ σ b \/ H b = none -> Own ρ₀ σ b \/ H₀ b = none := fun b h => by
  rcases h with h | h
  . exact s0.zJ b h
  . by_cases ho : Own ρ₀ σ b
    . exact .inl ho
    . right
      cases e : H₀ b with
      | none => rfl
      | some o => rw [s0.keep b o e ho] at h; cases h
 have own' : ∀ b, Own args (vs.map some) b -> Own ρ₀ σ b \/ H₀ b = none := fun b h => by
  rcases own b h with ⟨_, _, _, _, _, z⟩ | z
  . exact z
  . exact back b (.inl z)
 -- a name's slot behind the call
 have slot : ∀ {i : Nat} {t : Sl}, (cG as args' 0 ρ)[i]? = some t -> ∃ s1, ρ[i]? = some s1 /\ t = dU s1 (aW i as args') := fun {i t} h => by
  rw [lu] at h
  obtain ⟨s1, e1, e2⟩ := map_some h
  exact ⟨s1, e1, by rw [<- e2, Nat.zero_add]⟩
 have Tg : ∀ {i : Nat} {s1 : Sl}, ρ[i]? = some s1 -> (cG as args' 0 ρ)[i]? = some (dU s1 (aW i as args')) := fun {i s1} h => by
  rw [lu, h, Nat.zero_add]; rfl
 -- what the callee left of a list that was lent to it
 have lent : ∀ {i j : Nat} {s1 t : Sl} {ds : List D}, ρ[i]? = some s1 -> lst? s1 = some (.l ds) -> as[j]? = some (.fu i) -> args'[j]? = some t ->
  ∃ v s2, σ[i]? = some (some v) /\ σ'[j]? = some (some v) /\ args[j]? = some s2 /\ kI s2 t /\ ((∃ b, s1 = .own b ds /\ s2 = .own true ds) \/ (s1 = .lent ds /\ s2 = .lent ds)) := fun {i j s1 t ds} h1 h2 h3 h4 => by
  have hj : j < args.length := by rw [l1]; exact (List.getElem?_eq_some_iff.mp h3).1
  have e1 : args[j]? = some args[j] := by simp [hj]
  obtain ⟨a, v, q1, q2, q3⟩ := A.get l1 e1
  rw [h3] at q1; cases q1
  have q4 := l2 j _ _ h3 e1
  have kind : (∃ b, s1 = .own b ds /\ args[j] = .own true ds) \/ (s1 = .lent ds /\ args[j] = .lent ds) := by
   rcases q4 with ⟨_, _, z, _⟩ | ⟨b, es, z, z'⟩ | ⟨es, z, z'⟩
   . rw [h1] at z; cases z; cases h2
   . rw [h1] at z; cases z; cases h2; exact .inl ⟨b, rfl, z'⟩
   . rw [h1] at z; cases z; cases h2; exact .inr ⟨rfl, z'⟩
  have lk : Eh args[j] = true := by rcases kind with ⟨_, _, z⟩ | ⟨_, z⟩ <;> rw [z] <;> rfl
  obtain ⟨z1, s', z2, z3⟩ := s.lk j _ e1 lk
  rw [h4] at z2; cases z2
  exact ⟨v, _, q3, by rw [z1]; exact up q2, e1, z3, kind⟩
 have Ho : ∀ {i : Nat} {x : Addr}, bI (cG as args' 0 ρ) σ i x -> bI ρ σ i x := fun {i x} ⟨⟨t, ds, e1, e2⟩, e3⟩ => by
  obtain ⟨s1, q1, q2⟩ := slot e1
  refine ⟨?_, e3⟩
  cases s1 with
  | aV => subst q2; cases e2
  | val b d => subst q2; cases e2
  | own b es => exact ⟨_, _, q1, rfl⟩
  | lent es => exact ⟨_, _, q1, rfl⟩
  | fc m => exact ⟨_, _, q1, rfl⟩
 refine ⟨?_, fun v r h => ?_⟩
 rotate_left
 . cases r with
   | val d => exact h
   | own ds =>
     obtain ⟨x, xs, h1, h2, h3, h4, h5, h6⟩ := h
     refine ⟨x, xs, h1, h2, h3, h4, fun ⟨i, h⟩ => ?_, ?_⟩
     . have hO := Ho h
       obtain ⟨⟨s1, Mz, q1, q2⟩, q3⟩ := hO
       obtain ⟨x', xs', w1, w2, _⟩ := g.own i s1 Mz q1 q2
       rw [q3] at w1; cases w1
       rcases h6 with h6 | h6
       . rcases own x h6 with ⟨_, _, _, _, z, _⟩ | _
         . exact z ⟨i, ⟨s1, Mz, q1, q2⟩, q3⟩
         . -- a name was lent
           obtain ⟨j, ⟨sl, es, w3, w4⟩, w5⟩ := h6
           obtain ⟨a', v', y1, y2, y3⟩ := A.get l1 w3
           have sa := l2 j a' _ y1 w3
           have w5 := dn w5
           rw [y2] at w5; cases w5
           cases a' with
           | dat d => cases sa; cases w4
           | tmp es' => obtain ⟨_, _, u1, _, _, _, u2, _⟩ := y3; cases u1; exact u2 ⟨i, ⟨s1, Mz, q1, q2⟩, q3⟩
           | fu i' =>
             have ex : ∃ s' ds', ρ[i']? = some s' /\ lst? s' = some ds' := by
              rcases sa with ⟨_, _, _, z⟩ | ⟨b, es, q, _⟩ | ⟨es, q, _⟩
              . subst z; cases w4
              . exact ⟨_, _, q, rfl⟩
              . exact ⟨_, _, q, rfl⟩
             have := g.dis i i' x ⟨⟨s1, Mz, q1, q2⟩, q3⟩ ⟨ex, y3⟩
             subst this
             have hk : ∃ Hn, Mz = .l Hn := by
              rcases sa with ⟨_, _, _, z⟩ | ⟨b, es, q, _⟩ | ⟨es, q, _⟩
              . subst z; cases w4
              . rw [q1] at q; cases q; cases q2; exact ⟨_, rfl⟩
              . rw [q1] at q; cases q; cases q2; exact ⟨_, rfl⟩
             obtain ⟨Hn, rfl⟩ := hk
             have hj : j < args'.length := by rw [<- la]; exact (List.getElem?_eq_some_iff.mp y1).1
             have e' : args'[j]? = some args'[j] := by simp [hj]
             obtain ⟨v2, s2, u1, u2, u3, u4, u5⟩ := lent q1 q2 y1 e'
             rw [q3] at u1; cases u1
             -- the slot behind the call is a list's
             obtain ⟨⟨t, dt, t1, t2⟩, _⟩ := h
             obtain ⟨s3, t3, t4⟩ := slot t1
             rw [q1] at t3; cases t3
             have lo : ∃ t5, aW i as args' = some t5 := by
              cases hl : aW i as args' with
              | none => exact absurd y1 (jo la hl j)
              | some t5 => exact ⟨t5, rfl⟩
             obtain ⟨t5, hl⟩ := lo
             obtain ⟨j2, t6, t7⟩ := gH hl
             have hj2 : j2 < args.length := by rw [l1]; exact (List.getElem?_eq_some_iff.mp t6).1
             obtain ⟨_, s6, _, v2', v3', v4', v5'⟩ := lent q1 q2 t6 t7
             have l4' : j2 = j := by
              have a1 : lst? s6 = some (.l Hn) := by rcases v5' with ⟨_, _, z⟩ | ⟨_, z⟩ <;> rw [z] <;> rfl
              have a2 : lst? s2 = some (.l Hn) := by rcases u5 with ⟨_, _, z⟩ | ⟨_, z⟩ <;> rw [z] <;> rfl
              exact l4 j2 j i s6 s2 _ _ t6 y1 v3' u3 a1 a2
             subst l4'
             rw [e'] at t7; cases t7
             rw [hl] at t4
             refine h5 ⟨j2, ?_, u2⟩
             rcases u5 with ⟨b, z1, z2⟩ | ⟨z1, z2⟩
             . subst z1; subst z2
               rcases u4 with ⟨d2, z⟩ | ⟨d2, z⟩
               . exact ⟨_, .l d2, e', by rw [z]; rfl⟩
               . rw [z] at t4; subst t4; cases t2
             . subst z1; subst z2
               exact ⟨_, .l Hn, e', by rw [show args'[j2] = .lent Hn from u4]; rfl⟩
       . rw [w2] at h6; cases h6
     . rcases h6 with h6 | h6
       . exact own' x h6
       . exact back x (.inr h6)
 refine ⟨⟨s.gs.sub, by rw [km]; exact g.len, fun i b d e => ?_, fun i t ds e e' => ?_, fun i j x h1 h2 => g.dis i j x (Ho h1) (Ho h2)⟩, s0.cZ.trans s.cZ, fun b n n' => ?_, fun b o h n => ?_, fun b ⟨i, h⟩ => back b (.inl ⟨i, Ho h⟩), by rw [km]; exact s0.len, fun i s1 h l => ?_⟩
 . -- data
   obtain ⟨s1, q1, q2⟩ := slot e
   cases s1 with
   | aV => cases q2
   | lent es => cases q2
   | fc _ => cases q2
   | val b' d' =>
     cases q2
     obtain ⟨v, z1, z2⟩ := g.val i b d q1
     exact ⟨v, z1, z2.mono s.cZ⟩
   | own b' es =>
     cases hl : aW i as args' with
     | none => rw [hl] at q2; cases q2
     | some t =>
       rw [hl] at q2
       obtain ⟨j, z1, z2⟩ := gH hl
       obtain ⟨v, s2, y1, y2, y3, y4, y5⟩ := lent q1 rfl z1 z2
       cases t with
       | aV => cases q2
       | own _ _ => cases q2
       | lent _ => cases q2
       | fc _ => cases q2
       | val b2 d2 =>
         cases q2
         obtain ⟨w, x1, x2⟩ := s.gs.val j b2 d z2
         rw [y2] at x1; cases x1
         exact ⟨v, y1, x2⟩
 . -- lists
   obtain ⟨s1, q1, q2⟩ := slot e
   -- a list that was not lent
   have stay : ∀ es, lst? s1 = some es -> (∀ j : Nat, as[j]? ≠ some (.fu i)) -> t = s1 -> ∃ (a : Addr) (xs : HO), σ[i]? = some (some (V.ref a)) /\ H' a = some xs /\ F' a = none /\ ql K F' xs ds := fun es he hn ht => by
    subst ht
    rw [he] at e'; cases e'
    obtain ⟨a, xs, z1, z2, z3, z4⟩ := g.own i _ ds q1 he
    have no : ¬ Own args (vs.map some) a := fun h => by
     obtain ⟨j, ⟨sl, es, w1, w2⟩, w3⟩ := h
     obtain ⟨a', v, h1, h2, h3⟩ := A.get l1 w1
     have sa := l2 j a' _ h1 w1
     have w3 := dn w3
     rw [h2] at w3; cases w3
     cases a' with
     | dat d => cases sa; cases w2
     | tmp es => obtain ⟨x, _, y1, _, _, _, y2, _⟩ := h3; cases y1; exact y2 ⟨i, ⟨_, ds, q1, he⟩, z1⟩
     | fu i' =>
       have : ∃ s' ds', ρ[i']? = some s' /\ lst? s' = some ds' := by
        rcases sa with ⟨_, _, _, z⟩ | ⟨b, es, q, _⟩ | ⟨es, q, _⟩
        . subst z; cases w2
        . exact ⟨_, _, q, rfl⟩
        . exact ⟨_, _, q, rfl⟩
       have := g.dis i i' a ⟨⟨_, ds, q1, he⟩, z1⟩ ⟨this, h3⟩
       subst this
       exact hn j h1
    refine ⟨a, xs, z1, s.keep a _ z2 no, ?_, z4.mono s.cZ⟩
    cases q : F' a with
    | none => rfl
    | some o =>
      rcases s.zQ a z3 (by rw [q]; simp) with z | z
      . exact absurd z no
      . rw [z2] at z; exact (Af z4 z).elim
   cases hl : aW i as args' with
   | none =>
     have hn := jo la hl
     rw [hl] at q2
     cases s1 with
     | aV => subst q2; cases e'
     | val b' d' => subst q2; cases e'
     | own b' es => exact stay _ rfl hn q2
     | lent es => exact stay _ rfl hn q2
     | fc m => exact stay _ rfl hn q2
   | some t2 =>
     rw [hl] at q2
     obtain ⟨j, z1, z2⟩ := gH hl
     cases s1 with
     | aV => subst q2; cases e'
     | val b' d' => subst q2; cases e'
     | fc m =>
       have hj : j < args.length := by rw [l1]; exact (List.getElem?_eq_some_iff.mp z1).1
       rcases l2 j _ _ z1 (show args[j]? = some args[j] by simp [hj]) with ⟨_, _, z, _⟩ | ⟨_, _, z, _⟩ | ⟨_, z, _⟩ <;> (rw [q1] at z; cases z)
     | own b' es =>
       obtain ⟨v, s2, y1, y2, y3, y4, y5⟩ := lent q1 rfl z1 z2
       have : t2 ≠ .aV /\ ∀ x, t2 ≠ .lent x := by
        rcases y5 with ⟨_, _, y5⟩ | ⟨y5, _⟩
        . subst y5; rcases y4 with ⟨_, rfl⟩ | ⟨_, rfl⟩ <;> simp
        . cases y5
       cases t2 with
       | aV => exact absurd rfl this.1
       | fc x =>
         rcases y5 with ⟨_, _, y5⟩ | ⟨y5, _⟩
         . subst y5; rcases y4 with ⟨_, h⟩ | ⟨_, h⟩ <;> cases h
         . cases y5
       | lent x => exact absurd rfl (this.2 x)
       | val b2 d2 => subst q2; cases e'
       | own b2 es2 =>
         subst q2; cases e'
         obtain ⟨a, xs, x1, x2⟩ := s.gs.own j _ _ z2 rfl
         rw [y2] at x1; cases x1
         exact ⟨a, xs, y1, x2⟩
     | lent es =>
       obtain ⟨v, s2, y1, y2, y3, y4, y5⟩ := lent q1 rfl z1 z2
       have ht : t = .lent es := by rw [q2]; cases t2 <;> rfl
       subst ht
       cases e'
       rcases y5 with ⟨_, y5, _⟩ | ⟨_, y5⟩
       . cases y5
       . subst y5
         cases (show t2 = .lent es from y4)
         obtain ⟨a, xs, x1, x2⟩ := s.gs.own j _ _ z2 rfl
         rw [y2] at x1; cases x1
         exact ⟨a, xs, y1, x2⟩
 . by_cases q : F b = none
   . rcases s.zQ b q n' with z | z
     . exact (own' b z).imp id jO
     . by_cases ho : Own ρ₀ σ b
       . exact .inl ho
       . right
         cases q2 : H₀ b with
         | none => rfl
         | some o => rw [s0.keep b o q2 ho] at z; exact z
   . exact s0.zQ b n q
 . refine s.keep b o (s0.keep b o h n) fun z => ?_
   rcases own' b z with z | z
   . exact n z
   . rw [h] at z; cases z
 . obtain ⟨e1, s2, h2, k2⟩ := s0.lk i s1 h l
   refine ⟨e1, _, Tg h2, ?_⟩
   have Zb := k2.Eh l
   refine kI.trans l k2 ?_
   cases s2 with
   | aV => cases Zb
   | fc _ => cases Zb
   | val b d => exact kI.refl _
   | lent es =>
     cases aW i as args' with
     | none => rfl
     | some t => cases t <;> rfl
   | own b es =>
     cases b with
     | false => cases Zb
     | true =>
       cases aW i as args' with
       | none => exact .inl ⟨_, rfl⟩
       | some t =>
         cases t with
         | aV => exact .inl ⟨_, rfl⟩
         | lent _ => exact .inl ⟨_, rfl⟩
         | fc _ => exact .inl ⟨_, rfl⟩
         | own _ ds => exact .inl ⟨_, rfl⟩
         | val _ d => exact .inr ⟨_, rfl⟩
theorem tL.rebase {F1 H1 F2 H2 F H : Hp} {ρ ρ1 ρ2 : List Sl} {σ : L2.St} {as : List Arg} {vs : List V} (a : cg K F ρ σ H F1 ρ1 σ H1) (A : tL K F2 ρ2 σ H2 ρ1 H1 as vs) : tL K F2 ρ2 σ H2 ρ H as vs := by
 refine ⟨A.len, fun j b v h1 h2 => ?_, A.dis⟩
 have h := A.one j b v h1 h2
 cases b with
 | dat d => exact h
 | fu i => exact h
 | tmp ds =>
   obtain ⟨x, xs, q1, q2, q3, q4, q5, q6⟩ := h
   refine ⟨x, xs, q1, q2, q3, q4, q5, ?_⟩
   rcases q6 with q6 | q6
   . exact a.zJ x q6
   . by_cases ho : Own ρ σ x
     . exact .inl ho
     . right
       cases e : H x with
       | none => rfl
       | some o => rw [a.keep x o e ho] at q6; cases q6
theorem tL.Qq {F1 H1 F2 H2 F H : Hp} {ρ ρ1 ρ2 : List Sl} {σ : L2.St} {as : List Arg} {vs : List V} {v : V} {r : R} (s1 : cg K F ρ σ H F1 ρ1 σ H1) (rr : cL K F1 ρ1 σ H1 ρ σ H v r) (s2 : cg K F1 ρ1 σ H1 F2 ρ2 σ H2)
 (A : tL K F2 ρ2 σ H2 ρ1 H1 as vs) : tL K F2 ρ2 σ H2 ρ H (tV r :: as) (v :: vs) := by
 have h1 : v9 K F1 ρ1 σ H1 ρ H v (tV r) := by
  cases r with
  | val d => exact rr
  | own ds => exact rr
 refine .cons (h1.later s2) (A.rebase s1) fun ds x ea ev k es ek evk => ?_
 cases r with
 | val d => cases ea
 | own ds' =>
   obtain ⟨y, xs, q1, q2, q3, q4, q5, q6⟩ := rr
   rw [ev] at q1; cases q1
   have h := A.one k _ _ ek evk
   obtain ⟨z, zs, w1, _, _, _, _, w6⟩ := h
   cases w1
   rcases w6 with w6 | w6
   . exact q5 w6
   . rw [q2] at w6; cases w6
end
end HH
end
section
namespace HH
open PySem L2 PySem.Spec PyProof.Rows
section
variable {K : PySem.W.Frag} {F F1 H H1 : Hp} {ρ ρ1 ρ2 : List Sl} {σ σ1 : L2.St}
theorem lB {i : Nat} {s : Sl} (h : put ρ i s = some ρ1) : ∃ s0, ρ[i]? = some s0 /\ Eh s0 = false /\ ρ1 = ρ.set i s := by
 unfold put at h
 split at h
 . rename_i q; cases h; exact ⟨_, q, rfl, rfl⟩
 . rename_i q; cases h; exact ⟨_, q, rfl, rfl⟩
 . rename_i q; cases h; exact ⟨_, q, rfl, rfl⟩
 . cases h
theorem cg.put {i : Nat} {v : V} {r : R} (s : cg K F ρ σ H F1 ρ1 σ1 H1) (rr : cL K F1 ρ1 σ1 H1 ρ σ H v r) (h : HH.put ρ1 i (yC r) = some ρ2) : cg K F ρ σ H F1 ρ2 (σ1.set i (some v)) H1 := by
 obtain ⟨s0, h0, hl, rfl⟩ := lB h
 have hi : i < ρ1.length := (List.getElem?_eq_some_iff.mp h0).1
 have hi' : i < σ1.length := by rw [<- s.gs.len]; exact hi
 have old : ∀ {j : Nat} {a : Addr}, j ≠ i -> bI (ρ1.set i (yC r)) (σ1.set i (some v)) j a -> bI ρ1 σ1 j a := fun {j a} hj ⟨⟨t, ds, e1, e2⟩, e3⟩ => by
  rw [List.getElem?_set_ne (Ne.symm hj)] at e1 e3
  exact ⟨⟨t, ds, e1, e2⟩, e3⟩
 have new : ∀ {a : Addr}, bI (ρ1.set i (yC r)) (σ1.set i (some v)) i a -> ¬ Own ρ1 σ1 a /\ (Own ρ σ a \/ H a = none) := fun {a} ⟨⟨t, ds, e1, e2⟩, e3⟩ => by
  rw [List.getElem?_set_self hi] at e1
  rw [List.getElem?_set_self hi'] at e3
  cases e1; cases e3
  cases r with
  | val d => cases e2
  | own es => obtain ⟨x, xs, q1, q2, q3, q4, q5, q6⟩ := rr; cases q1; exact ⟨q5, q6⟩
 refine ⟨⟨s.gs.sub, by simp [s.gs.len], fun j b d e => ?_, fun j t ds e e' => ?_, fun j k a h1 h2 => ?_⟩, s.cZ, s.zQ, s.keep, fun a ⟨j, hj⟩ => ?_, by simp [s.len], fun j t e l => ?_⟩
 . by_cases hj : j = i
   . subst hj
     rw [List.getElem?_set_self hi] at e
     cases r with
     | own es => cases e
     | val d' => cases e; exact ⟨v, List.getElem?_set_self hi', rr⟩
   . rw [List.getElem?_set_ne (Ne.symm hj)] at e ⊢
     exact s.gs.val j b d e
 . by_cases hj : j = i
   . subst hj
     rw [List.getElem?_set_self hi] at e
     cases r with
     | val d' => cases e; cases e'
     | own es =>
       cases e; cases e'
       obtain ⟨x, xs, rfl, q2, q3, q4, _⟩ := rr
       exact ⟨x, _, List.getElem?_set_self hi', q2, q3, xs, rfl, q4⟩
   . rw [List.getElem?_set_ne (Ne.symm hj)] at e ⊢
     exact s.gs.own j t ds e e'
 . by_cases hj : j = i
   . by_cases hk : k = i
     . rw [hj, hk]
     . subst hj; exact absurd ⟨k, old hk h2⟩ (new h1).1
   . by_cases hk : k = i
     . subst hk; exact absurd ⟨j, old hj h1⟩ (new h2).1
     . exact s.gs.dis j k a (old hj h1) (old hk h2)
 . by_cases hji : j = i
   . subst hji; exact (new hj).2
   . exact s.zJ a ⟨j, old hji hj⟩
 . obtain ⟨e1, t1, e2, e3⟩ := s.lk j t e l
   have hj : j ≠ i := by
    rintro rfl
    rw [h0] at e2; cases e2
    rw [e3.Eh l] at hl; cases hl
   exact ⟨by rw [List.getElem?_set_ne (Ne.symm hj)]; exact e1, t1, by rw [List.getElem?_set_ne (Ne.symm hj)]; exact e2, e3⟩
theorem GS.mut {x : Nat} {b : Bool} {ds es : List D} {a : Addr} {ys : List V} (g : GS K F ρ σ H) (e : ρ[x]? = some (.own b ds)) (hx : σ[x]? = some (some (.ref a))) (r : aJ K F ys es) :
 cg K F ρ σ H F (ρ.set x (.own b es)) σ (upd H a (.lst ys)) := by
 have hi : x < ρ.length := (List.getElem?_eq_some_iff.mp e).1
 have oa : bI ρ σ x a := ⟨⟨_, _, e, rfl⟩, hx⟩
 obtain ⟨a', xs, h1, h2, h3, h4⟩ := g.qW x _ ds e rfl
 rw [hx] at h1; cases h1
 have old : ∀ {j : Nat} {c : Addr}, bI (ρ.set x (.own b es)) σ j c -> bI ρ σ j c := fun {j c} ⟨⟨t, dt, q1, q2⟩, q3⟩ => by
  by_cases hj : j = x
  . subst hj; exact ⟨⟨_, _, e, rfl⟩, q3⟩
  . rw [List.getElem?_set_ne (Ne.symm hj)] at q1; exact ⟨⟨t, dt, q1, q2⟩, q3⟩
 refine ⟨⟨fun c o q => ?_, by simp [g.len], fun j b' d q => ?_, fun j t dt q q' => ?_, fun j k c q1 q2 => g.dis j k c (old q1) (old q2)⟩, .refl _, fun c n n' => absurd n n', fun c o q n => ?_, fun c ⟨j, q⟩ => .inl ⟨j, old q⟩, by simp, fun j t q l => ⟨rfl, ?_⟩⟩
 . have : c ≠ a := by rintro rfl; rw [h3] at q; cases q
   rw [aL this]; exact g.sub c o q
 . by_cases hj : j = x
   . subst hj; rw [List.getElem?_set_self hi] at q; cases q
   . rw [List.getElem?_set_ne (Ne.symm hj)] at q; exact g.val j b' d q
 . by_cases hj : j = x
   . subst hj
     rw [List.getElem?_set_self hi] at q; cases q; cases q'
     exact ⟨a, _, hx, bh, h3, ys, rfl, r⟩
   . rw [List.getElem?_set_ne (Ne.symm hj)] at q
     obtain ⟨c, zs, w1, w2, w3, w4⟩ := g.own j t dt q q'
     have : c ≠ a := by rintro rfl; exact hj (g.dis j x c ⟨⟨t, dt, q, q'⟩, w1⟩ oa)
     exact ⟨c, zs, w1, by rw [aL this]; exact w2, w3, w4⟩
 . have : c ≠ a := by rintro rfl; exact n ⟨x, oa⟩
   rw [aL this]; exact q
 . by_cases hj : j = x
   . subst hj
     rw [e] at q; cases q
     refine ⟨_, List.getElem?_set_self hi, ?_⟩
     cases b with
     | true => exact .inl ⟨_, rfl⟩
     | false => cases l
   . exact ⟨t, by rw [List.getElem?_set_ne (Ne.symm hj)]; exact q, .refl t⟩
theorem GS.lend {i : Nat} {b : Bool} {ds : List D} (g : GS K F ρ σ H) (e : ρ[i]? = some (.own b ds)) : GS K F (ρ.set i (.lent ds)) σ H := by
 have hi : i < ρ.length := (List.getElem?_eq_some_iff.mp e).1
 have old : ∀ {j : Nat} {c : Addr}, bI (ρ.set i (.lent ds)) σ j c -> bI ρ σ j c := fun {j c} ⟨⟨t, dt, q1, q2⟩, q3⟩ => by
  by_cases hj : j = i
  . subst hj; exact ⟨⟨_, _, e, rfl⟩, q3⟩
  . rw [List.getElem?_set_ne (Ne.symm hj)] at q1; exact ⟨⟨t, dt, q1, q2⟩, q3⟩
 refine ⟨g.sub, by simp [g.len], fun j b' d q => ?_, fun j t dt q q' => ?_, fun j k c q1 q2 => g.dis j k c (old q1) (old q2)⟩
 . by_cases hj : j = i
   . subst hj; rw [List.getElem?_set_self hi] at q; cases q
   . rw [List.getElem?_set_ne (Ne.symm hj)] at q; exact g.val j b' d q
 . by_cases hj : j = i
   . subst hj; rw [List.getElem?_set_self hi] at q; cases q; cases q'; exact g.own j _ _ e rfl
   . rw [List.getElem?_set_ne (Ne.symm hj)] at q; exact g.own j t dt q q'
theorem cg.bB {i : Nat} {b : Bool} {ds : List D} (g : GS K F ρ σ H) (e : ρ[i]? = some (.own b ds)) (s : cg K F (ρ.set i (.lent ds)) σ H F1 ρ1 σ1 H1) :
 cg K F ρ σ H F1 (ρ1.set i (.own b ds)) σ1 H1 /\ ∀ v r, cL K F1 ρ1 σ1 H1 (ρ.set i (.lent ds)) σ H v r -> cL K F1 (ρ1.set i (.own b ds)) σ1 H1 ρ σ H v r := by
 have hi : i < ρ.length := (List.getElem?_eq_some_iff.mp e).1
 have h1 : (ρ.set i (.lent ds))[i]? = some (.lent ds) := List.getElem?_set_self hi
 obtain ⟨z1, s', z2, z3⟩ := s.lk i _ h1 rfl
 cases (show s' = .lent ds from z3)
 have hi1 : i < ρ1.length := (List.getElem?_eq_some_iff.mp z2).1
 have o1 : ∀ {j : Nat} {c : Addr}, bI (ρ.set i (.lent ds)) σ j c -> bI ρ σ j c := fun {j c} ⟨⟨t, dt, q1, q2⟩, q3⟩ => by
  by_cases hj : j = i
  . subst hj; exact ⟨⟨_, _, e, rfl⟩, q3⟩
  . rw [List.getElem?_set_ne (Ne.symm hj)] at q1; exact ⟨⟨t, dt, q1, q2⟩, q3⟩
 have o1' : ∀ {c : Addr}, Own ρ σ c -> Own (ρ.set i (.lent ds)) σ c := fun {c} ⟨j, ⟨t, dt, q1, q2⟩, q3⟩ => by
  by_cases hj : j = i
  . subst hj; exact ⟨j, ⟨_, _, h1, rfl⟩, q3⟩
  . exact ⟨j, ⟨t, dt, by rw [List.getElem?_set_ne (Ne.symm hj)]; exact q1, q2⟩, q3⟩
 have o2 : ∀ {j : Nat} {c : Addr}, bI (ρ1.set i (.own b ds)) σ1 j c -> bI ρ1 σ1 j c := fun {j c} ⟨⟨t, dt, q1, q2⟩, q3⟩ => by
  by_cases hj : j = i
  . subst hj; exact ⟨⟨_, _, z2, rfl⟩, q3⟩
  . rw [List.getElem?_set_ne (Ne.symm hj)] at q1; exact ⟨⟨t, dt, q1, q2⟩, q3⟩
 have w : ∀ {c : Addr} {h : Hp}, Own (ρ.set i (.lent ds)) σ c \/ h c = none -> Own ρ σ c \/ h c = none := fun {c h} q => q.imp (fun ⟨j, q⟩ => ⟨j, o1 q⟩) id
 have w' : ∀ {c : Addr} {h : Hp}, Own (ρ.set i (.lent ds)) σ c \/ nt (h c) = none -> Own ρ σ c \/ nt (h c) = none := fun {c h} q => q.imp (fun ⟨j, q⟩ => ⟨j, o1 q⟩) id
 refine ⟨⟨⟨s.gs.sub, by simp [s.gs.len], fun j b' d q => ?_, fun j t dt q q' => ?_, fun j k c q1 q2 => s.gs.dis j k c (o2 q1) (o2 q2)⟩, s.cZ, fun c n n' => w' (s.zQ c n n'), fun c o q n => s.keep c o q fun ⟨j, x⟩ => n ⟨j, o1 x⟩, fun c ⟨j, q⟩ => w (s.zJ c ⟨j, o2 q⟩), by simpa using s.len, fun j t q l => ?_⟩, fun v r h => ?_⟩
 . by_cases hj : j = i
   . subst hj; rw [List.getElem?_set_self hi1] at q; cases q
   . rw [List.getElem?_set_ne (Ne.symm hj)] at q; exact s.gs.val j b' d q
 . by_cases hj : j = i
   . subst hj; rw [List.getElem?_set_self hi1] at q; cases q; cases q'; exact s.gs.own j _ _ z2 rfl
   . rw [List.getElem?_set_ne (Ne.symm hj)] at q; exact s.gs.own j t dt q q'
 . by_cases hj : j = i
   . subst hj
     rw [e] at q; cases q
     refine ⟨z1, _, List.getElem?_set_self hi1, ?_⟩
     cases b with
     | true => exact .inl ⟨_, rfl⟩
     | false => cases l
   . obtain ⟨y1, t', y2, y3⟩ := s.lk j t (by rw [List.getElem?_set_ne (Ne.symm hj)]; exact q) l
     exact ⟨y1, t', by rw [List.getElem?_set_ne (Ne.symm hj)]; exact y2, y3⟩
 . cases r with
   | val d => exact h
   | own es =>
     obtain ⟨x, xs, q1, q2, q3, q4, q5, q6⟩ := h
     exact ⟨x, xs, q1, q2, q3, q4, fun ⟨j, q⟩ => q5 ⟨j, o2 q⟩, w q6⟩
theorem GS.give {i : Nat} {ds : List D} (g : GS K F ρ σ H) (e : ρ[i]? = some (.own false ds)) : ∃ v, σ[i]? = some (some v) /\ cg K F ρ σ H F (ρ.set i .aV) σ H /\ cL K F (ρ.set i .aV) σ H ρ σ H v (.own ds) := by
 have hi : i < ρ.length := (List.getElem?_eq_some_iff.mp e).1
 obtain ⟨a, xs, h1, h2, h3, h4⟩ := g.qW i _ ds e rfl
 have old : ∀ {j : Nat} {c : Addr}, bI (ρ.set i .aV) σ j c -> bI ρ σ j c /\ j ≠ i := fun {j c} ⟨⟨t, dt, q1, q2⟩, q3⟩ => by
  by_cases hj : j = i
  . subst hj; rw [List.getElem?_set_self hi] at q1; cases q1; cases q2
  . rw [List.getElem?_set_ne (Ne.symm hj)] at q1; exact ⟨⟨⟨t, dt, q1, q2⟩, q3⟩, hj⟩
 have oa : bI ρ σ i a := ⟨⟨_, _, e, rfl⟩, h1⟩
 refine ⟨.ref a, h1, ⟨⟨g.sub, by simp [g.len], fun j b' d q => ?_, fun j t dt q q' => ?_, fun j k c q1 q2 => g.dis j k c (old q1).1 (old q2).1⟩, .refl _, fun c n n' => absurd n n', fun _ _ q _ => q, fun c ⟨j, q⟩ => .inl ⟨j, (old q).1⟩, by simp, fun j t q l => ⟨rfl, ?_⟩⟩, a, xs, rfl, h2, h3, h4, fun ⟨j, q⟩ => ?_, .inl ⟨i, oa⟩⟩
 . by_cases hj : j = i
   . subst hj; rw [List.getElem?_set_self hi] at q; cases q
   . rw [List.getElem?_set_ne (Ne.symm hj)] at q; exact g.val j b' d q
 . by_cases hj : j = i
   . subst hj; rw [List.getElem?_set_self hi] at q; cases q; cases q'
   . rw [List.getElem?_set_ne (Ne.symm hj)] at q; exact g.own j t dt q q'
 . by_cases hj : j = i
   . subst hj; rw [e] at q; cases q; cases l
   . exact ⟨t, by rw [List.getElem?_set_ne (Ne.symm hj)]; exact q, .refl t⟩
 . exact (old q).2 (g.dis j i a (old q).1 oa)
theorem GS.more {n : Nat} {τ : List (Option V)} (g : GS K F ρ σ H) (hn : τ.length = n) : GS K F (ρ ++ List.replicate n .aV) (σ ++ τ) H := by
 have get : ∀ {j : Nat} {t : Sl}, (ρ ++ List.replicate n Sl.aV)[j]? = some t -> t ≠ .aV -> ρ[j]? = some t /\ j < ρ.length := fun {j t} q ne => by
  by_cases hj : j < ρ.length
  . rw [List.getElem?_append_left hj] at q; exact ⟨q, hj⟩
  . rw [List.getElem?_append_right (by omega), List.getElem?_replicate] at q
    split at q
    . cases q; exact absurd rfl ne
    . cases q
 have up : ∀ {j : Nat} {v : Option V}, j < ρ.length -> (σ[j]? = some v ↔ (σ ++ τ)[j]? = some v) := fun {j v} hj => by rw [List.getElem?_append_left (by rw [<- g.len]; exact hj)]
 have old : ∀ {j : Nat} {c : Addr}, bI (ρ ++ List.replicate n .aV) (σ ++ τ) j c -> bI ρ σ j c := fun {j c} ⟨⟨t, dt, q1, q2⟩, q3⟩ => by
  obtain ⟨h1, h2⟩ := get q1 (by rintro rfl; cases q2)
  exact ⟨⟨t, dt, h1, q2⟩, (up h2).mpr q3⟩
 refine ⟨g.sub, by simp [g.len, hn], fun j b d q => ?_, fun j t dt q q' => ?_, fun j k c q1 q2 => g.dis j k c (old q1) (old q2)⟩
 . obtain ⟨h1, h2⟩ := get q (by simp)
   obtain ⟨v, e1, e2⟩ := g.val j b d h1
   exact ⟨v, (up h2).mp e1, e2⟩
 . obtain ⟨h1, h2⟩ := get q (by rintro rfl; cases q')
   obtain ⟨a, xs, e1, e2⟩ := g.own j t dt h1 q'
   exact ⟨a, xs, (up h2).mp e1, e2⟩
theorem cg.less {n : Nat} {τ : List (Option V)} {m : Nat} (hm : m = ρ.length) (g : GS K F ρ σ H) (hn : τ.length = n) (s : cg K F (ρ ++ List.replicate n .aV) (σ ++ τ) H F1 ρ1 σ1 H1) :
 cg K F ρ σ H F1 (ρ1.take m) (σ1.take m) H1 /\ ∀ v r, cL K F1 ρ1 σ1 H1 (ρ ++ List.replicate n .aV) (σ ++ τ) H v r -> cL K F1 (ρ1.take m) (σ1.take m) H1 ρ σ H v r := by
 subst hm
 have l1 : ρ.length <= ρ1.length := by rw [s.len]; simp
 have l2 : ρ.length <= σ1.length := by rw [<- s.gs.len]; exact l1
 have tk : ∀ {α : Type} {l : List α} {j : Nat} {x : α}, (l.take ρ.length)[j]? = some x -> l[j]? = some x /\ j < ρ.length := fun {α l j x} q => by
  rw [List.getElem?_take] at q
  split at q
  . exact ⟨q, by assumption⟩
  . cases q
 have kt : ∀ {α : Type} {l : List α} {j : Nat} {x : α}, j < ρ.length -> l[j]? = some x -> (l.take ρ.length)[j]? = some x := fun {α l j x} hj q => by rw [List.getElem?_take, if_pos hj]; exact q
 have oN : ∀ {c : Addr}, Own (ρ ++ List.replicate n .aV) (σ ++ τ) c -> Own ρ σ c := fun {c} ⟨j, ⟨t, dt, q1, q2⟩, q3⟩ => by
  by_cases hj : j < ρ.length
  . rw [List.getElem?_append_left hj] at q1
    rw [List.getElem?_append_left (by rw [<- g.len]; exact hj)] at q3
    exact ⟨j, ⟨t, dt, q1, q2⟩, q3⟩
  . rw [List.getElem?_append_right (by omega), List.getElem?_replicate] at q1
    split at q1
    . cases q1; cases q2
    . cases q1
 have oN' : ∀ {c : Addr}, Own ρ σ c -> Own (ρ ++ List.replicate n .aV) (σ ++ τ) c := fun {c} ⟨j, ⟨t, dt, q1, q2⟩, q3⟩ => by
  have hj : j < ρ.length := (List.getElem?_eq_some_iff.mp q1).1
  exact ⟨j, ⟨t, dt, by rw [List.getElem?_append_left hj]; exact q1, q2⟩, by rw [List.getElem?_append_left (by rw [<- g.len]; exact hj)]; exact q3⟩
 have o1 : ∀ {j : Nat} {c : Addr}, bI (ρ1.take ρ.length) (σ1.take ρ.length) j c -> bI ρ1 σ1 j c := fun {j c} ⟨⟨t, dt, q1, q2⟩, q3⟩ => ⟨⟨t, dt, (tk q1).1, q2⟩, (tk q3).1⟩
 have w : ∀ {c : Addr} {h : Hp}, Own (ρ ++ List.replicate n .aV) (σ ++ τ) c \/ h c = none -> Own ρ σ c \/ h c = none := fun {c h} q => q.imp oN id
 have w' : ∀ {c : Addr} {h : Hp}, Own (ρ ++ List.replicate n .aV) (σ ++ τ) c \/ nt (h c) = none -> Own ρ σ c \/ nt (h c) = none := fun {c h} q => q.imp oN id
 refine ⟨⟨⟨s.gs.sub, by simp only [List.length_take]; omega, fun j b d q => ?_, fun j t dt q q' => ?_, fun j k c q1 q2 => s.gs.dis j k c (o1 q1) (o1 q2)⟩, s.cZ, fun c a b => w' (s.zQ c a b), fun c o q n => s.keep c o q fun x => n (oN x), fun c ⟨j, q⟩ => w (s.zJ c ⟨j, o1 q⟩), by simp only [List.length_take]; omega, fun j t q l => ?_⟩, fun v r h => ?_⟩
 . obtain ⟨h1, h2⟩ := tk q
   obtain ⟨v, e1, e2⟩ := s.gs.val j b d h1
   exact ⟨v, kt h2 e1, e2⟩
 . obtain ⟨h1, h2⟩ := tk q
   obtain ⟨a, xs, e1, e2⟩ := s.gs.own j t dt h1 q'
   exact ⟨a, xs, kt h2 e1, e2⟩
 . have hj : j < ρ.length := (List.getElem?_eq_some_iff.mp q).1
   obtain ⟨y1, t', y2, y3⟩ := s.lk j t (by rw [List.getElem?_append_left hj]; exact q) l
   rw [List.getElem?_append_left (by rw [<- g.len]; exact hj)] at y1
   refine ⟨?_, t', kt hj y2, y3⟩
   rw [List.getElem?_take, if_pos hj]; exact y1
 . cases r with
   | val d => exact h
   | own es =>
     obtain ⟨x, xs, q1, q2, q3, q4, q5, q6⟩ := h
     exact ⟨x, xs, q1, q2, q3, q4, fun ⟨j, q⟩ => q5 ⟨j, o1 q⟩, w q6⟩
end
end HH
end
section
namespace HH
open PySem L2 PySem.Spec PyProof.Rows
section
variable {X : Cx} {c : Call} {n : Nat} {e a b d : Expr} {p pa pb pd : P} {pos : Pos} {es : List Expr} {ps : List P}
inductive Wz (K : PySem.W.Frag) (f : List Sl -> Res (List Arg)) (σ : L2.St) (H : Hp) (Q : List V -> Hp -> Prop) : Prop where
 | mk (F : Hp) (ρ : List Sl) (as : List Arg) (ρ' : List Sl) (g : GS K F ρ σ H) (e : f ρ = .ok as ρ') (k : ∀ vs F' H', cg K F ρ σ H F' ρ' σ H' -> tL K F' ρ' σ H' ρ H as vs -> Q vs H')
noncomputable def SG (X : Cx) (c : Call) (es : List Expr) (ps : List P) : Prop := PA X es (Wz X.K (vW c ps))
theorem aC : SG X c [] [] := tM jn fun σ H Q ⟨F, ρ, as, ρ', g, e, k⟩ => by rw [vW] at e; cases e; exact k [] F H (.refl g) .nil
theorem Fv (ha : SX X c a pa) (hr : SG X c es ps) (hs : starEach (a :: es) X.env = (false, eval a X.env) :: starEach es X.env := by rfl) : SG X c (a :: es) (pa :: ps) := by
 cases hv : isVar pa with
 | none =>
   refine tM (eN ha.ev hr hs) ?_
   rintro σ H Q ⟨F, ρ, as, ρ', g, e, k⟩
   rw [vW, hv] at e
   obtain ⟨r, ρ1, e1, e⟩ := ao e
   obtain ⟨xs, ρ2, e2, e⟩ := ao e
   cases e
   refine ⟨F, ρ, r, ρ1, g, e1, fun v F1 H1 s1 rr => ⟨F1, ρ1, xs, _, s1.gs, e2, fun vs F2 H2 s2 A => k _ F2 H2 (s1.trans s2) (tL.Qq s1 rr s2 A)⟩⟩
 | some i =>
   refine tM (eN (ha.var i hv) hr hs) ?_
   rintro σ H Q ⟨F, ρ, as, ρ', g, e, k⟩
   rw [vW, hv] at e
   obtain ⟨x0, ρ0, e0, e⟩ := ao e
   obtain ⟨Tf, zK⟩ := aG e0
   subst zK
   obtain ⟨xs, ρ2, e2, e⟩ := ao e
   cases e
   obtain ⟨v, h1, _⟩ := g.pk Tf
   exact ⟨v, h1, F, ρ, xs, _, g, e2, fun vs F2 H2 s2 A => k _ F2 H2 s2 (.cons h1 A fun ds x z => by cases z)⟩
theorem Ge {k f : Nat} {fa : Addr} {fd : FuncData} {qs : List Str} {x : Str} {p' : Pos} (Fn : cj X.prog X.w X.K X.mg X.base gG k fa fd qs (ik X.K qs.length (c f))) (hr : iB k X.A) (hg : Gl X x) (hm : X.mg x = some (.ref fa)) (hk : PySem.W.keepIn X.K (.ref fa) = true)
 (hb : Binds X.K fd qs []) (ha : SG X c (e :: es) ps) (hl : (e :: es).length = qs.length) (hdb : (x == ("__debug__" : Str)) = false := by decide) (he : starEach (e :: es) X.env = (false, eval e X.env) :: starEach es X.env := by rfl) (hpl : (backTo pos (starEach es X.env)).any (·.1) = false := by rfl)
 (hl2 : ps.length = (e :: es).length := by rfl) : SX X c (.Call (.Name x p') (e :: es) [] pos) (.call f ps) := by
 refine ⟨fX (Gi (E := E0) Fn hr hg hm hk hb .nil Qc ha hdb he hpl) ?_, fun i h => by cases h⟩
 rintro σ H Q ⟨F, ρ, r, ρ', g, e, k⟩
 rw [HH.ev] at e
 obtain ⟨as, ρ1, e1, e⟩ := ao e
 unfold jq at e
 split at e
 . cases e
 . rename_i args hb'
   split at e
   . rename_i r' args' hc
     cases e
     refine ⟨F, ρ, as, ρ1, g, e1, fun vs F1 H1 s1 A => ?_⟩
     have hlen : vs.length = qs.length := by
      have : ∀ {ps : List P} {ρ ρ' : List Sl} {as : List Arg}, vW c ps ρ = .ok as ρ' -> as.length = ps.length := by
       intro ps
       induction ps with
       | nil => intro ρ ρ' as h; rw [vW] at h; cases h; rfl
       | cons q qs ih =>
         intro ρ ρ' as h
         rw [vW] at h
         split at h
         . obtain ⟨_, _, _, h⟩ := ao h
           obtain ⟨xs, ρ2, h2, h⟩ := ao h
           cases h; simp [ih h2]
         . obtain ⟨_, _, _, h⟩ := ao h
           obtain ⟨xs, ρ2, h2, h⟩ := ao h
           cases h; simp [ih h2]
      rw [<- A.len, this e1, hl2, hl]
     show ik X.K qs.length (c f) (vs ++ []) H1 Q E0
     rw [List.append_nil]
     refine ⟨hlen, F1, args, r, args', args_gs s1.gs A hb', hc, fun v F' σ' H' s rr => ?_⟩
     obtain ⟨z1, z2⟩ := Dl s1 A hb' s
     exact k v F' H' z1 (z2 v r rr)
   . cases e
   . cases e
noncomputable def Rb (K : PySem.W.Frag) (D : Ends) (F' : Hp) (ρ' : List Sl) (σ' : L2.St) (H' : Hp) (ρ : List Sl) (σ : L2.St) (H : Hp) (fl : Fl) : Prop := match fl with
 | .next => D.nx σ' H'
 | .brk => D.bk σ' H'
 | .cont => D.ct σ' H'
 | .ret r => ∀ v, cL K F' ρ' σ' H' ρ σ H v r -> D.rt v H'
inductive Uk (K : PySem.W.Frag) (f : List Sl -> Res Fl) (D : Ends) (σ : L2.St) (H : Hp) : Prop where
 | mk (F : Hp) (ρ : List Sl) (fl : Fl) (ρ' : List Sl) (g : GS K F ρ σ H) (e : f ρ = .ok fl ρ') (k : ∀ F' σ' H', cg K F ρ σ H F' ρ' σ' H' -> Rb K D F' ρ' σ' H' ρ σ H fl)
noncomputable def SS (X : Cx) (c : Call) (n : Nat) (st : Stmt) (s : S) : Prop := PS X st (Uk X.K (ex c n s))
noncomputable def SB (X : Cx) (c : Call) (n : Nat) (st : List Stmt) (s : List S) : Prop := xK X st (Uk X.K (jg c n s))
theorem fV {st : Stmt} {t t' : TS} (h : PS X st t) (i : ∀ D σ H, t' D σ H -> t D σ H) : PS X st t' := fun pins s σ H D I q => h pins s σ H D I (i D σ H q)
theorem Ay {st : List Stmt} {t t' : TS} (h : xK X st t) (i : ∀ D σ H, t' D σ H -> t D σ H) : xK X st t' := fun pins s σ H D I q => h pins s σ H D I (i D σ H q)
theorem au : SB X c n [] [] := Ay Fe fun D σ H ⟨F, ρ, fl, ρ', g, e, k⟩ => by rw [jg] at e; cases e; exact k F σ H (.refl g)
theorem aj {st : Stmt} {s : S} {sts : List Stmt} {ss : List S} (h1 : SS X c n st s) (h2 : SB X c n sts ss) : SB X c n (st :: sts) (s :: ss) := by
 refine Ay (BW h1 h2) ?_
 rintro D σ H ⟨F, ρ, fl, ρ', g, e, k⟩
 rw [jg] at e
 obtain ⟨f1, ρ1, e1, e⟩ := ao e
 cases f1 with
 | next =>
   refine ⟨F, ρ, .next, ρ1, g, e1, fun F1 σ1 H1 s1 => ⟨F1, ρ1, fl, ρ', s1.gs, e, fun F2 σ2 H2 s2 => ?_⟩⟩
   have q := k F2 σ2 H2 (s1.trans s2)
   cases fl with
   | next => exact q
   | brk => exact q
   | cont => exact q
   | ret r => exact fun v rr => q v (rr.later s1)
 | brk => cases e; exact ⟨F, ρ, .brk, _, g, e1, k⟩
 | cont => cases e; exact ⟨F, ρ, .cont, _, g, e1, k⟩
 | ret r => cases e; exact ⟨F, ρ, .ret r, _, g, e1, k⟩
theorem Qf {t1 t2 : TE} (h1 : PE X e t1) (h2 : PE X e t2) : PE X e (fun σ H Q => t1 σ H Q \/ t2 σ H Q) := fun pins s σ H Q I h => h.elim (h1 pins s σ H Q I) (h2 pins s σ H Q I)
theorem aN (he : SX X c e p) : SS X c n (.Return (some e) pos) (.ret p) := by
 have plain : ∀ (D : Ends) (σ : L2.St) (H : Hp), (∃ F ρ fl ρ', GS X.K F ρ σ H /\ ((HH.ev c p ρ).bind fun r ρ => .ok (Fl.ret r) ρ) = .ok fl ρ' /\ ∀ F' σ' H', cg X.K F ρ σ H F' ρ' σ' H' -> (match fl with
  | .next => D.nx σ' H' | .brk => D.bk σ' H' | .cont => D.ct σ' H' | .ret r => ∀ v, cL X.K F' ρ' σ' H' ρ σ H v r -> D.rt v H')) -> Bj X.K (HH.ev c p) σ H D.rt := fun D σ H ⟨F, ρ, fl, ρ', g, e, k⟩ => by
  obtain ⟨r, ρ1, e1, e⟩ := ao e
  cases e
  exact ⟨F, ρ, r, _, g, e1, fun v F1 H1 s1 rr => k F1 σ H1 s1 v rr⟩
 cases hv : isVar p with
 | none =>
   refine fV (Bh he.ev) fun D σ H ⟨F, ρ, fl, ρ', g, e, k⟩ => plain D σ H ⟨F, ρ, fl, ρ', g, ?_, k⟩
   rw [ex, hv] at e
   exact e
 | some i =>
   -- by the name itself: its own list is handed back, else its data
   have hp : p = .var i := by cases p <;> cases hv; rfl
   subst hp
   refine fV (Bh (Qf (he.var i hv) he.ev)) ?_
   rintro D σ H ⟨F, ρ, fl, ρ', g, e, k⟩
   rw [ex, hv] at e
   dsimp only at e
   split at e
   . rename_i ds q
     cases e
     obtain ⟨v, h1, h2, h3⟩ := g.give q
     exact .inl ⟨v, h1, k F σ H h2 v h3⟩
   . exact .inr (plain D σ H ⟨F, ρ, fl, ρ', g, e, k⟩)
theorem cF {sa sb : List Stmt} {ta tb : List S} (hc : ST X c e p) (ha : SB X c n sa ta) (hb : SB X c n sb tb) : SS X c n (.If e sa sb pos) (.ifs p ta tb) := by
 refine fV (Rr hc ha hb) ?_
 rintro D σ H ⟨F, ρ, fl, ρ', g, e, k⟩
 rw [ex] at e
 obtain ⟨x, ρ1, e1, e⟩ := ao e
 refine ⟨F, ρ, x, ρ1, g, e1, fun F1 H1 s1 => ?_⟩
 have go : ∀ {f : List Sl -> Res Fl}, f ρ1 = .ok fl ρ' -> Uk X.K f D σ H1 := fun {f} h => ⟨F1, ρ1, fl, ρ', s1.gs, h, fun F2 σ2 H2 s2 => by
  have q := k F2 σ2 H2 (s1.trans s2)
  cases fl with
  | next => exact q
  | brk => exact q
  | cont => exact q
  | ret r => exact fun v rr => q v (rr.later s1)⟩
 cases x with
 | true => rw [if_pos rfl] at e; exact go e
 | false => rw [if_neg Bool.false_ne_true] at e; exact go e
theorem aM {i : Nat} {x : Str} {pos' : Pos} (hN : X.N.Nodup) (hi : X.N[i]? = some x) (hx : Loc X.env.scope x) (he : SX X c e p) (hs : swapsWith e (some (.Name x pos')) pos.line X.env = pure false := by rfl) (hf : X.fn x = true \/ X.env.scope.names.lookup x = some .local := by first | exact .inl rfl | exact .inr rfl | assumption) :
 SS X c n (.Assign [.Name x pos'] e pos) (.asg i p) := by
 refine fV (vP hN hi hx he.ev hs hf) ?_
 rintro D σ H ⟨F, ρ, fl, ρ', g, e, k⟩
 rw [ex] at e
 obtain ⟨r, ρ1, e1, e⟩ := ao e
 obtain ⟨ρ2, ρ3, e2, e⟩ := ao e
 cases e
 have zz := aG e2; clear e2; obtain ⟨e2, e3⟩ := zz
 exact ⟨F, ρ, r, ρ1, g, e1, fun v F1 H1 s1 rr => k F1 _ H1 (s1.put rr e2)⟩
end
end HH
end
section
namespace L2
open PySem PySem.Spec PyProof.Rows
noncomputable def uF (X : Cx) (scope : Scope) (N' : List Str) (cl : List (Str × Addr)) (C : Addr) (s₀ : Shared) (H₀ : Hp) (ex : List Addr) : Cx :=
 { X with N := N', s₀ := s₀, H₀ := H₀, env := compEnvC scope cl C X.env, outer := X.stack, stack := X.stack, ex := ex, fn := fun x => scope.names.lookup x == some .cell, pn := [], xe := fun _ _ => False }
theorem vm {env : Env} (l : List (Str × NameKind)) : ∀ (cs : List (Str × Addr)), (∀ n, (n, NameKind.free) ∈ l -> ∃ c, env.cells.lookup n = some c) -> (∀ n c, cs.lookup n = some c -> env.cells.lookup n = some c) ->
 ∃ cl, (forIn l cs (fun (x : Str × NameKind) (r : List (Str × Addr)) => (if (x.2 == NameKind.free) = true then (do let a <- cellOf env x.1; pure (ForInStep.yield ((x.1, a) :: r))) else pure (ForInStep.yield r) : Sem (ForInStep (List (Str × Addr))))) : Sem (List (Str × Addr))) = pure cl /\
   (∀ n c, cl.lookup n = some c -> env.cells.lookup n = some c) /\ (∀ n, ((n, NameKind.free) ∈ l \/ (cs.lookup n).isSome) -> (cl.lookup n).isSome) := by
 induction l with
 | nil => intro cs _ h; exact ⟨cs, rfl, h, fun n hn => by rcases hn with hn | hn; cases hn; exact hn⟩
 | cons y l ih =>
   obtain ⟨n, k⟩ := y
   intro cs hl hc
   rw [List.forIn_cons]
   by_cases hk : k = .free
   . subst hk
     obtain ⟨a, ha⟩ := hl n List.mem_cons_self
     obtain ⟨cl, e, h1, h2⟩ := ih ((n, a) :: cs) (fun m hm => hl m (List.mem_cons_of_mem _ hm)) fun m c hm => by
      rw [List.lookup_cons] at hm
      split at hm
      . rename_i q; have q := eq_of_beq q; subst q; cases hm; exact ha
      . exact hc m c hm
     refine ⟨cl, ?_, h1, fun m hm => h2 m ?_⟩
     . rw [<- e]
       have : cellOf env n = pure a := by unfold cellOf; rw [ha]
       simp only [beq_self_eq_true, if_true, this]
       rfl
     . rcases hm with hm | hm
       . rcases List.mem_cons.mp hm with hm | hm
         . cases hm; right; simp [List.lookup_cons]
         . exact .inl hm
       . right
         rw [List.lookup_cons]
         split
         . rfl
         . exact hm
   . obtain ⟨cl, e, h1, h2⟩ := ih cs (fun m hm => hl m (List.mem_cons_of_mem _ hm)) hc
     refine ⟨cl, ?_, h1, fun m hm => h2 m ?_⟩
     . rw [<- e]
       have : (k == NameKind.free) = false := by simpa using hk
       simp only [this, Bool.false_eq_true, if_false]
       rfl
     . rcases hm with hm | hm
       . rcases List.mem_cons.mp hm with hm | hm
         . cases hm; exact absurd rfl hk
         . exact .inl hm
       . exact .inr hm
theorem u0 {env : Env} {scope : Scope} (hl : ∀ n, (n, NameKind.free) ∈ scope.names -> ∃ c, env.cells.lookup n = some c) :
 ∃ cl, closureFor scope env = pure cl /\ (∀ n c, cl.lookup n = some c -> env.cells.lookup n = some c) /\ ∀ n, (n, NameKind.free) ∈ scope.names -> (cl.lookup n).isSome := by
 obtain ⟨cl, e, h1, h2⟩ := vm (env := env) scope.names [] hl (by simp)
 refine ⟨cl, ?_, h1, fun n hn => h2 n (.inl hn)⟩
 unfold closureFor
 exact (congrArg (fun t => t >>= fun r => pure r) e).trans rfl
theorem dB {env : Env} : ∀ (names : List (Str × NameKind)) (x : Str),
 (names.map fun (n, k) => if (k == NameKind.free && env.scope.kind == .function && env.kindOf n == some .cell) then (n, NameKind.cell) else (n, k)).lookup x =
  (names.lookup x).map fun k => if (k == NameKind.free && env.scope.kind == .function && env.kindOf x == some .cell) = true then NameKind.cell else k
 | [], x => rfl
 | (n, k) :: r, x => by
   have ih := dB (env := env) r x
   show List.lookup x ((if (k == NameKind.free && env.scope.kind == .function && env.kindOf n == some .cell) = true then (n, NameKind.cell) else (n, k)) :: _) = _
   by_cases hc : (k == NameKind.free && env.scope.kind == .function && env.kindOf n == some .cell) = true
   . rw [if_pos hc, List.lookup_cons, List.lookup_cons]
     cases hx : x == n with
     | true =>
       have := eq_of_beq hx
       subst this
       show some NameKind.cell = some (if _ then _ else _)
       rw [if_pos hc]
     | false => exact ih
   . rw [if_neg hc, List.lookup_cons, List.lookup_cons]
     cases hx : x == n with
     | true =>
       have := eq_of_beq hx
       subst this
       show some k = some (if _ then _ else _)
       rw [if_neg hc]
     | false => exact ih
noncomputable def Q9 (N N' : List Str) (sc : Scope) : Bool := (N.zip N').all fun p => (p.1 == p.2 && sc.names.lookup p.2 == some .free) || (sc.names.lookup p.2 != some .local && sc.names.lookup p.2 != some .cell && sc.names.lookup p.2 != some .free)
structure fU (X : Cx) (scope : Scope) (N' : List Str) (n : Nat) : Prop where
 kind : scope.kind = .function
 cons : ∀ y ∈ scope.names, scope.names.lookup y.1 = some y.2
 names : ∀ y ∈ scope.names, y.2 = .local -> scope.names.lookup y.1 = some .local
 cap : ∀ y ∈ scope.names, y.2 = .free -> X.env.scope.names.lookup y.1 = some .cell \/ X.env.scope.names.lookup y.1 = some .free
 len : N'.length = X.N.length + n
 same : Q9 X.N N' scope = true
theorem fU.get {X : Cx} {scope : Scope} {N' : List Str} {n : Nat} (c : fU X scope N' n) {i : Nat} {x : Str} (hi : i < X.N.length) (h : N'[i]? = some x) (hv : xU (relabel scope X.env) x) : X.N[i]? = some x /\ scope.names.lookup x = some .free := by
 have hz : (X.N.zip N')[i]? = some (X.N[i], x) := by
  rw [List.getElem?_zip_eq_some]
  exact ⟨by simp [hi], h⟩
 have := (List.all_eq_true.mp c.same) _ (List.mem_of_getElem? hz)
 simp only [Bool.or_eq_true, Bool.and_eq_true] at this
 rcases this with ⟨h1, h2⟩ | ⟨⟨h1, h2⟩, h3⟩
 . have h1 := eq_of_beq h1
   have h2 := eq_of_beq h2
   exact ⟨by simp [hi, h1], h2⟩
 . exfalso
   have h1 : scope.names.lookup x ≠ some .local := by simpa using h1
   have h2 : scope.names.lookup x ≠ some .cell := by simpa using h2
   have h3 : scope.names.lookup x ≠ some .free := by simpa using h3
   have e := dB (env := X.env) scope.names x
   have hv : (relabel scope X.env).names.lookup x = some .local \/ (relabel scope X.env).names.lookup x = some .cell \/ (relabel scope X.env).names.lookup x = some .free := hv
   rw [show (relabel scope X.env).names.lookup x = _ from e] at hv
   cases q : scope.names.lookup x with
   | none => rw [q] at hv; simp at hv
   | some k =>
     rw [q] at hv h1 h2 h3
     have hk : (k == NameKind.free) = false := by
      cases k <;> first | rfl | exact absurd rfl h3
     simp only [Option.map_some, hk, Bool.false_and, Bool.false_eq_true, if_false, Option.some.injEq] at hv
     rcases hv with rfl | rfl | rfl
     . exact h1 rfl
     . exact h2 rfl
     . exact h3 rfl
end L2
namespace L2
open PySem PySem.Spec PyProof.Rows
structure CI (cl : List (Str × Addr)) (z : Nat) (h : Heap) (acc : List (Str × Addr)) : Prop where
 from' : ∀ n c, acc.lookup n = some c -> cl.lookup n = some c \/ (z <= c /\ h.IsCell c none)
 inj : ∀ n n' c, acc.lookup n = some c -> acc.lookup n' = some c -> n = n'
theorem Ba {cl : List (Str × Addr)} {z : Nat} (hcl : ∀ n c, cl.lookup n = some c -> c < z) : ∀ (names : List (Str × NameKind)) (h : Heap) (acc : List (Str × Addr)), z <= h.objs.size -> CI cl z h acc ->
 CI cl z (pushCells h names) (cellsFrom h.objs.size names acc) /\ (∀ n, (acc.lookup n).isSome -> ((cellsFrom h.objs.size names acc).lookup n).isSome) /\
 (∀ n, ((∃ c, acc.lookup n = some c /\ z <= c) \/ (n, NameKind.cell) ∈ names) -> ∃ c, (cellsFrom h.objs.size names acc).lookup n = some c /\ z <= c) /\
 (∀ n c, (n, NameKind.cell) ∉ names -> (cellsFrom h.objs.size names acc).lookup n = some c -> acc.lookup n = some c)
 | [], h, acc, hz, x => by
   refine ⟨x, fun _ q => q, fun n q => ?_, fun _ _ _ q => q⟩
   rcases q with q | q
   . exact q
   . cases q
 | (name, kind) :: r, h, acc, hz, x => by
   unfold pushCells cellsFrom
   by_cases hk : kind = .cell
   . subst hk
     rw [if_pos (by rfl), if_pos (by rfl)]
     have hx : CI cl z (h.push { cls := .type "cell", data := .cell none }) ((name, h.objs.size) :: acc) := by
      have lt : ∀ n c, acc.lookup n = some c -> c < h.objs.size := fun n c e => by
       rcases x.from' n c e with q | q
       . exact Nat.lt_of_lt_of_le (hcl n c q) hz
       . exact q.2.lt
      refine ⟨fun n c e => ?_, fun n n' c e e' => ?_⟩
      . rw [List.lookup_cons] at e
        split at e
        . cases e; exact .inr ⟨hz, _, Heap.get?_push_size _ rfl, rfl⟩
        . rcases x.from' n c e with q | q
          . exact .inl q
          . exact .inr ⟨q.1, q.2.keeps fun b o e => Heap.get?_push_of_some _ e⟩
      . rw [List.lookup_cons] at e e'
        split at e <;> split at e'
        . rename_i _ a _ b; rw [eq_of_beq a, eq_of_beq b]
        . cases e; exact absurd (lt n' _ e') (Nat.lt_irrefl _)
        . cases e'; exact absurd (lt n _ e) (Nat.lt_irrefl _)
        . exact x.inj n n' c e e'
     have ih := Ba hcl r (h.push { cls := .type "cell", data := .cell none }) ((name, h.objs.size) :: acc) (by rw [Heap.size_push]; omega) hx
     rw [Heap.size_push] at ih
     refine ⟨ih.1, fun n q => ih.2.1 n ?_, fun n q => ih.2.2.1 n ?_, fun n c q e => ?_⟩
     . rw [List.lookup_cons]; split
       . rfl
       . exact q
     . rcases q with ⟨c, e, hc⟩ | q
       . left
         rw [List.lookup_cons]; split
         . exact ⟨_, rfl, hz⟩
         . exact ⟨c, e, hc⟩
       . rcases List.mem_cons.mp q with q | q
         . cases q; left; exact ⟨_, by simp [List.lookup_cons], hz⟩
         . exact .inr q
     . have := ih.2.2.2 n c (fun z => q (List.mem_cons_of_mem _ z)) e
       rw [List.lookup_cons] at this
       split at this
       . rename_i a; exact absurd (by rw [eq_of_beq a]; exact List.mem_cons_self) q
       . exact this
   . have hk' : (kind == NameKind.cell) = false := by simpa using hk
     rw [if_neg (by rw [hk']; decide), if_neg (by rw [hk']; decide)]
     have ih := Ba hcl r h acc hz x
     refine ⟨ih.1, ih.2.1, fun n q => ih.2.2.1 n ?_, fun n c q e => ih.2.2.2 n c (fun z => q (List.mem_cons_of_mem _ z)) e⟩
     rcases q with q | q
     . exact .inl q
     . rcases List.mem_cons.mp q with q | q
       . cases q; exact absurd rfl hk
       . exact .inr q
structure Aw (X : Cx) (scope : Scope) (z : Nat) (h : Heap) (cs : List (Str × Addr)) : Prop where
 from' : ∀ n c, cs.lookup n = some c -> X.env.cells.lookup n = some c \/ (z < c /\ h.IsCell c none)
 inj : ∀ n n' c, cs.lookup n = some c -> cs.lookup n' = some c -> n = n'
 has : ∀ n, (scope.names.lookup n = some .free \/ scope.names.lookup n = some .cell) -> ∃ c, cs.lookup n = some c
 fre : ∀ n c, scope.names.lookup n = some .free -> cs.lookup n = some c -> X.env.cells.lookup n = some c
 own : ∀ n c, scope.names.lookup n = some .cell -> cs.lookup n = some c -> z < c
theorem yz {M : Model} {A : Around} {E : Value -> Shared -> Prop} {X : Cx} {s : Shared} {scope : Scope} {N' : List Str} {n : Nat} {cl : List (Str × Addr)} {Q : Env -> Shared -> Prop} (ok : fU X scope N' n) (hlt : ∀ n c, X.env.cells.lookup n = some c -> c < s.heap.objs.size)
 (hinj : ∀ x y c, X.env.cells.lookup x = some c -> X.env.cells.lookup y = some c -> x = y)
 (hcl : ∀ n c, cl.lookup n = some c -> X.env.cells.lookup n = some c) (wH : ∀ n, (n, NameKind.free) ∈ scope.names -> (cl.lookup n).isSome)
 (hQ : ∀ cs h', h'.Ns s.heap.objs.size (fun _ => none) -> (∀ b o, s.heap.get? b = some o -> h'.get? b = some o) -> Aw X scope s.heap.objs.size h' cs ->
  Q { scope := scope, locals := s.heap.objs.size, globals := X.env.globals, cells := cs, qual := X.env.qual, func := none, code := X.env.code, frame := X.env.frame, builtins := X.env.builtins } { s with heap := h' }) :
 wpAny M A (newFunctionEnv scope X.env.globals cl [] X.env.qual none .none (some X.env)) Q E s := by
 simp only [newFunctionEnv, Option.isSome_some, if_true]
 refine wpAny_bind (wpAny_alloc ?_)
 refine wpAny_bind (wpAny_layCells _ (fun name kind cells => by cases hkc : kind == NameKind.cell <;> simp [hkc]) _ _ _ _ ?_)
 have ck := Ba (cl := cl) (z := s.heap.objs.size + 1) (fun n c e => Nat.lt_succ_of_lt (hlt n c (hcl n c e))) scope.names (s.heap.push { cls := .type "dict", data := .dict #[] }) cl (by rw [Heap.size_push]; exact Nat.le_refl _)
  ⟨fun n c e => .inl e, fun n n' c e e' => hinj n n' c (hcl n c e) (hcl n' c e')⟩
 obtain ⟨c1, c2, c3, c4⟩ := ck
 rw [show ({ s with heap := s.heap.push { cls := .type "dict", data := .dict #[] } } : Shared).heap.objs.size = (s.heap.push { cls := .type "dict", data := .dict #[] }).objs.size from rfl]
 refine wpAny_bind ?_
 rw [List.forIn_nil]
 refine wpAny_pure (wpAny_pure (hQ _ _ ((Heap.Ns.new s.heap (.type "dict")).keeps (pushCells_keeps _ _)) (fun b o e => pushCells_keeps _ _ b o (Heap.get?_push_of_some _ e)) ⟨fun n c e => ?_, c1.inj, fun n q => ?_, fun n c q e => ?_, fun n c q e => ?_⟩))
 . rcases c1.from' n c e with z | z
   . exact .inl (hcl n c z)
   . exact .inr ⟨z.1, z.2⟩
 . rcases q with q | q
   . exact Option.isSome_iff_exists.mp (c2 n (wH n (PySem.mem_of_lookup q)))
   . obtain ⟨c, e, _⟩ := c3 n (.inr (PySem.mem_of_lookup q))
     exact ⟨c, e⟩
 . refine hcl n c (c4 n c (fun z => ?_) e)
   have := ok.cons _ z
   rw [q] at this; cases this
 . obtain ⟨c', e', hc'⟩ := c3 n (.inr (PySem.mem_of_lookup q))
   rw [e] at e'; cases e'
   exact hc'
section
variable {X : Cx} {pins : List (Addr × Obj)} {σ : L2.St} {H : Hp} {s : Shared} {scope : Scope} {N' : List Str} {n : Nat} {fp : List Addr} {cl : List (Str × Addr)}
theorem Am {h1 : Heap} {m : Str -> Option Value} {t : Nat} {cs : List (Str × Addr)} (ok : fU X scope N' n) (I : Inv X pins σ H s) (hf : ∀ b ∈ fp, kW X pins H b /\ b < s.heap.objs.size) (bc : Aw X scope s.heap.objs.size h1 cs)
 (hn : h1.Ns s.heap.objs.size m) (old : ∀ b u, s.heap.get? b = some u -> h1.get? b = some u) :
 Inv (uF X scope N' cs s.heap.objs.size s H fp) [] (σ ++ List.replicate n none) H { s with heap := h1, toks := t } := by
 have Th : ∀ x, scope.names.lookup x = some .free -> (relabel scope X.env).names.lookup x = some .cell \/ (relabel scope X.env).names.lookup x = some .free := fun x h => by
  have e := dB (env := X.env) scope.names x
  rw [h] at e
  have e' : (relabel scope X.env).names.lookup x = _ := e
  rw [e']
  simp only [Option.map_some]
  split
  . exact .inl rfl
  . exact .inr rfl
 refine ⟨⟨I.ok.mod, ok.kind, I.ok.glob, I.ok.blt, Nat.le_refl _, fun x y c h1 h2 => bc.inj x y c h1 h2, fun x hx => ?_, fun x c h e => Nat.le_of_lt (bc.own x c (eq_of_beq (show (scope.names.lookup x == some NameKind.cell) = true from h)) e), I.ok.hd, I.ok.frames, .inl rfl, fun b hb => ?_, I.bs, Nat.le_trans I.ok.IV I.sz, fun b u e hb => ?_, fun b hb hfs => ?_, I.stack, I.xQ⟩,
  rfl, I.bare, Un.kept old, ⟨m, hn, fun i x v e1 e2 hv => ?_⟩, fun x c e => ?_, I.hok.fresh (Nat.le_refl _), fun x c e => ?_, fun p hp => (by cases hp), I.hok.kept old, ?_⟩
 . -- a Ti name has its cell
   have hx : (relabel scope X.env).names.lookup x = some .cell \/ (relabel scope X.env).names.lookup x = some .free := hx
   have e := dB (env := X.env) scope.names x
   have e' : (relabel scope X.env).names.lookup x = _ := e
   rw [e'] at hx
   refine bc.has x ?_
   cases q : scope.names.lookup x with
   | none => rw [q] at hx; simp at hx
   | some k =>
     rw [q] at hx
     by_cases hk : k = .free
     . rw [hk]; exact .inl rfl
     . have hk' : (k == NameKind.free) = false := by simpa using hk
       simp only [Option.map_some, hk', Bool.false_and, Bool.false_eq_true, if_false, Option.some.injEq] at hx
       rcases hx with rfl | rfl
       . exact .inr rfl
       . exact absurd rfl hk
 . obtain ⟨f, lt⟩ := hf b hb
   refine ⟨Nat.ne_of_lt lt, fun x c e => ?_⟩
   rcases bc.from' x c e with e | e
   . exact f.2.2.2.2.1 x c e
   . rintro rfl; exact absurd (Nat.lt_trans e.1 lt) (Nat.lt_irrefl _)
 . obtain ⟨f, lt⟩ := hf b hb
   rcases f.2.2.2.1 with h | h
   . exact I.ok.Dz b u e h
   . have this : b < X.base.objs.size := Heap.lt_size e
     exact absurd (Nat.lt_of_lt_of_le this (Nat.le_trans I.ok.IV h)) (Nat.lt_irrefl _)
 . obtain ⟨f, lt⟩ := hf b hb
   rcases List.mem_cons.mp (I.qY b hfs) with h | h
   . exact f.2.1 h
   . exact f.2.2.1 h
 . -- the names
   have hi : i < σ.length := by
    by_cases hi : i < σ.length
    . exact hi
    . rw [List.getElem?_append_right (by omega), List.getElem?_replicate] at e2
      split at e2 <;> cases e2
   rw [List.getElem?_append_left hi] at e2
   obtain ⟨h1', h2'⟩ := ok.get (by rw [<- I.len]; exact hi) e1 hv
   have hk := ok.cap (x, .free) (PySem.mem_of_lookup h2') rfl
   obtain ⟨m0, hn0, hl⟩ := I.loc
   obtain ⟨u, r, l⟩ := hl i x v h1' e2 (.inr hk)
   refine ⟨u, r, .inr ⟨Th x h2', ?_⟩⟩
   rcases l with ⟨hk', _⟩ | ⟨_, c, hc, hcell⟩
   . have hk' : X.env.scope.names.lookup x = some .local := hk'
     rcases hk with hk | hk <;> (rw [hk'] at hk; cases hk)
   . obtain ⟨c', hc'⟩ := bc.has x (.inl h2')
     have := bc.fre x c' h2' hc'
     rw [hc] at this; cases this
     refine ⟨c, hc', ?_⟩
     obtain ⟨oc, e3, e4⟩ := hcell
     exact ⟨oc, old c oc e3, e4⟩
 . rcases bc.from' x c e with e | e
   . obtain ⟨v, oc, e3, e4⟩ := I.cell x c e
     exact ⟨v, oc, old c oc e3, e4⟩
   . exact ⟨_, e.2⟩
 . rcases bc.from' x c e with e | e
   . exact I.jh x c e
   . exact I.hok.fresh (Nat.le_of_lt e.1)
 . show (σ ++ List.replicate n none).length = N'.length
   rw [List.length_append, List.length_replicate, I.len, ok.len]
theorem rK {prog : Program} {w : World} {A : Around} {R : Result -> Shared -> Prop} {elt target iter : Expr} {ifs : List Expr} {scope : Scope} {pos : Pos} {it acc : Value} {env : Env} (I : Nat -> Shared -> Prop)
 (turn : ∀ n s, I n s -> wpAny (model prog w) A (pyNext it) (fun r s₁ => match r with
  | none => R (.ok .next) s₁
  | some v => wpAny (model prog w) A (letOwnedTupleGo target it v) (fun _ s₁ => wpAny (model prog w) A (assign target env v) (fun _ s₂ =>
   wpAny (model prog w) A (forIn ifs true fun c r => if r = true then do let ok <- isTrue c env (eval c env); pure (ForInStep.yield ok) else pure (ForInStep.yield r)) (fun ok s₃ =>
    if ok = true then wpAny (model prog w) A (eval elt env) (fun x s₄ =>
     wpAny (model prog w) A (call (.builtin "list.append") [acc, x]) (fun _ s₅ => ∃ m, m < n /\ I m s₅) (notedBy (model prog w) A env fun e s' => R (.error e) s') s₄) (notedBy (model prog w) A env fun e s' => R (.error e) s') s₃
    else ∃ m, m < n /\ I m s₃) (notedBy (model prog w) A env fun e s' => R (.error e) s') s₂) (notedBy (model prog w) A env fun e s' => R (.error e) s') s₁) (notedBy (model prog w) A env fun e s' => R (.error e) s') s₁) (notedBy (model prog w) A env fun e s' => R (.error e) s') s)
 (n : Nat) {s : Shared} (h : I n s) :
 codeAny (model prog w) A (.compLoop (.ListComp elt [⟨target, iter, ifs, 0⟩] scope pos) 0 it acc env) R s := by
 refine codeAny_loop rfl I (fun n s hI => ?_) n h
 show wpAny _ A ((compTurn (.ListComp elt [⟨target, iter, ifs, 0⟩] scope pos) 0 it acc env).onRaise (fun x => do noteFrame x env; theTreesLotGoes x)) _ _ s
 refine wpAny_noted ?_
 rw [compTurn_list]
 refine wpAny_bind (wpAny_standAt (wpAny_bind (wpAny_mono (turn n s hI) (fun r s₁ h₁ => ?_) fun _ _ h' => h')))
 cases r with
 | none => exact wpAny_pure h₁
 | some v =>
   refine wpAny_bind (wpAny_mono h₁ (fun _ s₁ h₁ => ?_) fun _ _ h' => h')
   refine wpAny_bind (wpAny_mono h₁ (fun _ s₂ h₂ => wpAny_bind (wpAny_mono h₂ (fun ok s₃ h₃ => ?_) fun _ _ h' => h')) fun _ _ h' => h')
   cases ok with
   | false => exact wpAny_pure ⟨rfl, h₃⟩
   | true =>
     exact wpAny_bind (wpAny_bind (wpAny_mono h₃ (fun x s₄ h₄ => wpAny_bind (wpAny_mono h₄ (fun _ s₅ h₅ => wpAny_pure (wpAny_pure ⟨rfl, h₅⟩)) fun _ _ h' => h')) fun _ _ h' => h'))
noncomputable def Lr (X : Cx) (ifs : List Expr) (t : TT) : Prop :=
 ∀ (pins : List (Addr × Obj)) (s : Shared) (σ : L2.St) (H : Hp) (Q : Bool -> Hp -> Prop), Inv X pins σ H s -> t σ H Q ->
   wpAny (model X.prog X.w) X.A (forIn ifs true fun c r => if r = true then do let ok <- isTrue c X.env (eval c X.env); pure (ForInStep.yield ok) else pure (ForInStep.yield r)) (TP X pins σ Q) X.xe s
theorem Fp {X : Cx} : Lr X [] (fun _ H Q => Q true H) := fun pins s σ H Q I h => wpAny_tests_nil ⟨H, I, h⟩
theorem Gu {X : Cx} {c : Expr} {t : TT} (h : PT X c t) : Lr X [c] t := fun pins s σ H Q I q => wpAny_tests_one (h pins s σ H Q I q)
noncomputable def Hy (J : It) (g : TG) (tt : TT) (te : TE) (D : Addr) (Q : Hp -> Prop) (W : Nat -> Nat -> List V -> L2.St -> Hp -> Prop) : Prop :=
 ∀ i m ys σ H, W i m ys σ H -> H D = some (.lst ys) /\ ((J.stop i H /\ Q H) \/ (J.go i H /\ ∀ x H2, J.Ja i H x H2 -> g x σ H2 fun σ3 H3 => tt σ3 H3 fun b H4 => if b = true then
   te σ3 H4 fun y H5 => H5 D = some (.lst ys) /\ ys.length < sizeLine /\ ∃ m', m' < m /\ W (i + 1) m' (ys ++ [y]) σ3 (upd H5 D (.lst (ys ++ [y]))) else ∃ m', m' < m /\ W (i + 1) m' ys σ3 H4))
theorem pN {E : Value -> Shared -> Prop} {elt target iter : Expr} {ifs : List Expr} {pos : Pos} {it : Addr} {tn : Nat -> Heap -> Prop} {J : It} {g : TG} {tt : TT} {te : TE} {Q : Addr -> Hp -> Prop} {RR : Value -> Addr -> Result -> Shared -> Prop}
 (hc : X.calm = true) (ok : fU X scope N' n) (I : Inv X pins σ H s) (hcl : ∀ n c, cl.lookup n = some c -> X.env.cells.lookup n = some c) (wH : ∀ n, (n, NameKind.free) ∈ scope.names -> (cl.lookup n).isSome)
 (T : Turn X.prog X.w X.K target J fp it tn) (h0 : tn 0 s.heap) (hf : ∀ b ∈ fp, kW X pins H b)
 (hg : ∀ cl C s₀ H₀ ex, PG (uF X scope N' cl C s₀ H₀ ex) target g) (ht : ∀ cl C s₀ H₀ ex, Lr (uF X scope N' cl C s₀ H₀ ex) ifs tt) (he : ∀ cl C s₀ H₀ ex, PE (uF X scope N' cl C s₀ H₀ ex) elt te)
 (hw : ∀ D, H D = none -> ∃ W, (∃ m, W 0 m [] (σ ++ List.replicate n none) (upd H D (.lst []))) /\ Hy J g tt te D (Q D) W)
 (hRR : ∀ D C s' H', Q D H' -> (∃ m, s'.heap.Ns C m) -> kW X pins H' C -> Inv X pins σ H' s' -> RR (.ref D) C (.ok .next) s') :
 wpAny (model X.prog X.w) X.A (newList []) (fun acc s₃ => wpAny (model X.prog X.w) X.A (newFunctionEnv scope X.env.globals cl [] X.env.qual none .none (some X.env)) (fun cenv s₄ =>
  codeAny (model X.prog X.w) X.A (.compStart (.ListComp elt [⟨target, iter, ifs, 0⟩] scope pos) 0 (.ref it) acc { cenv with scope := relabel scope X.env }) (RR acc cenv.locals) s₄) E s₃) E s := by
 refine wpAny_newObj_type (yz ok (fun x c e => ?lt) I.ok.inj hcl wH (fun cs h₁ hns hold bc => ?_))
 case lt =>
  obtain ⟨v, z⟩ := I.cell x c e
  exact Nat.lt_of_lt_of_le z.lt (by show _ <= (s.heap.push _).objs.size; rw [Heap.size_push]; exact Nat.le_succ _)
 dsimp only at hns hold bc ⊢
 -- the new list, tracked
 have I3 : Inv X pins σ (upd H s.heap.objs.size (.lst [])) { s with heap := s.heap.push { cls := .type "list", data := .seq ([] : List Value).toArray } } := I.JQ (t' := s.toks) .nil (Nat.zero_le _)
 generalize hs3 : ({ s with heap := s.heap.push { cls := .type "list", data := .seq ([] : List Value).toArray } } : Shared) = s3 at I3
 have hsz : s3.heap.objs.size = s.heap.objs.size + 1 := by rw [<- hs3]; exact Heap.size_push _ _
 have Je : s3.heap = s.heap.push { cls := .type "list", data := .seq ([] : List Value).toArray } := by rw [<- hs3]
 obtain ⟨W, ⟨m0, w0⟩, turn⟩ := hw s.heap.objs.size I.fresh
 have tnK : ∀ {h' : Heap}, (∀ b o, s.heap.get? b = some o -> h'.get? b = some o) -> tn 0 h' := fun k => T.keep _ _ _ h0 fun b hb o e => k b o e
 have Vx : ∀ b ∈ fp, kW X pins (upd H s.heap.objs.size (.lst [])) b /\ b < s3.heap.objs.size := fun b hb => by
  obtain ⟨o, e, _⟩ := T.obj 0 _ h0 b hb
  have lt := Heap.lt_size e
  obtain ⟨f1, f2⟩ := hf b hb
  exact ⟨⟨by rw [aL (Nat.ne_of_lt lt)]; exact f1, f2⟩, by rw [hsz]; exact Nat.lt_succ_of_lt lt⟩
 rw [<- Je] at hns hold bc ⊢
 have I4 := Am (t := s3.toks) ok I3 Vx bc hns hold
 have Tj : ∀ b o, s.heap.get? b = some o -> h₁.get? b = some o := fun b o e => hold b o (by rw [Je]; exact Heap.get?_push_of_some _ e)
 generalize hX : uF X scope N' cs s3.heap.objs.size s3 (upd H s.heap.objs.size (.lst [])) fp = X' at I4
 have hA : X'.A = X.A := by rw [<- hX]; rfl
 have hpr : X'.prog = X.prog := by rw [<- hX]; rfl
 have hwr : X'.w = X.w := by rw [<- hX]; rfl
 have hKK : X'.K = X.K := by rw [<- hX]; rfl
 have hcalm : X'.calm = true := by rw [<- hX]; exact hc
 have hxe : X'.xe = fun _ _ => False := by rw [<- hX]; rfl
 have henv : X'.env = compEnvC scope cs s3.heap.objs.size X.env := by rw [<- hX]; rfl
 have hg' : PG X' target g := by rw [<- hX]; exact hg _ _ _ _ _
 have ht' : Lr X' ifs tt := by rw [<- hX]; exact ht _ _ _ _ _
 have he' : PE X' elt te := by rw [<- hX]; exact he _ _ _ _ _
 have ff : ∀ {H' : Hp} {b : Addr}, b ∈ fp -> H' b = none -> kW X' [] H' b := fun {H' b} hb hn => by
  obtain ⟨f, lt⟩ := Vx b hb
  rw [<- hX]
  refine ⟨hn, Nat.ne_of_lt lt, fun hfs => ?_, .inl hb, fun x c e => ?_, fun p hp => by cases hp⟩
  . rcases List.mem_cons.mp (I3.qY b hfs) with h | h
    . exact f.2.1 h
    . exact f.2.2.1 h
  . rcases bc.from' x c e with e | e
    . exact f.2.2.2.2.1 x c e
    . rintro rfl; exact absurd (Nat.lt_trans e.1 lt) (Nat.lt_irrefl _)
 -- behind the block
 have fin : ∀ {σ' : L2.St} {H' : Hp} {s' : Shared}, Inv X' [] σ' H' s' -> Q s.heap.objs.size H' -> RR (.ref s.heap.objs.size) s3.heap.objs.size (.ok .next) s' := fun {σ' H' s'} J' q => by
  rw [<- hX] at J'
  have hC : H' s3.heap.objs.size = none := J'.free
  obtain ⟨hh, gg, dd, tt', os'⟩ := s'
  have eos : os' = s3.os := J'.os
  subst eos
  refine hRR _ _ _ H' q (let ⟨m, hm, _⟩ := J'.loc; ⟨m, hm⟩) ?_ (I3.call (h' := hh) (g' := gg) (d' := dd) (t' := tt') (ch := fp) J'.base J'.hok J'.bare fun b hb => ?_)
  . exact I3.yE (Nat.le_refl _) hC
  . obtain ⟨f, lt⟩ := Vx b hb
    exact ⟨f.2.2.2.1, f.2.1, f.2.2.2.2.1, f.2.2.2.2.2⟩
 have main : codeAny (model X.prog X.w) X.A (.compLoop (.ListComp elt [⟨target, iter, ifs, 0⟩] scope pos) 0 (.ref it) (.ref s.heap.objs.size) X'.env) (RR (.ref s.heap.objs.size) s3.heap.objs.size) { s3 with heap := h₁, toks := s3.toks } := by
  refine rK (fun k s' => ∃ i ys σ' H', Inv X' [] σ' H' s' /\ tn i s'.heap /\ (∀ b ∈ fp, H' b = none) /\ W i k ys σ' H') (fun k s5 hI => ?_) m0 ⟨0, [], _, _, I4, tnK Tj, fun b hb => (Vx b hb).1.1, w0⟩
  obtain ⟨i, ys, σ5, H5, I5, t5, f5, w5⟩ := hI
  obtain ⟨hD, hturn⟩ := turn i k ys σ5 H5 w5
  have Vy : ∀ {Z : Value -> Shared -> Prop}, ∀ (e : Value) (s' : Shared), X'.xe e s' -> Z e s' := fun e s' z => by rw [hxe] at z; exact False.elim z
  rcases hturn with ⟨stop, q⟩ | ⟨go, step⟩
  . have z := T.done X' hpr hwr hKK hcalm i [] s5 σ5 H5 (fun _ _ => False) I5 (fun b hb => ff hb (f5 b hb)) t5 stop
    rw [hA] at z
    refine wpAny_mono z (?_) fun _ _ z => False.elim z
    rintro r s6 ⟨hr, I6⟩
    subst hr
    exact fin I6 q
  . have z := T.item X' hpr hwr hKK hcalm i [] s5 σ5 H5 (fun _ _ => False) I5 (fun b hb => ff hb (f5 b hb)) t5 go
    rw [hA] at z
    refine wpAny_mono z (?_) fun _ _ z => False.elim z
    rintro r s6 ⟨u, hr, z6⟩
    subst hr
    refine wpAny_mono z6 (?_) fun _ _ z => False.elim z
    rintro _ s7 ⟨x, H7, I7, r7, y7, t7, f7⟩
    have I7' := I7.pinned (fun b hb => ff hb (f7 b hb)) (T.obj _ _ t7)
    -- what the pins keep
    have back : ∀ {σ' : L2.St} {H' : Hp} {s' : Shared}, Inv X' ([] ++ o6 fp s7.heap) σ' H' s' -> Inv X' [] σ' H' s' /\ tn (i + 1) s'.heap /\ ∀ b ∈ fp, H' b = none := fun {σ' H' s'} J' => by
     refine ⟨J'.jN, T.keep _ _ _ t7 fun b hb o e => (J'.pin (b, o) (List.mem_append_right _ (List.mem_append_right _ (gU hb e)))).1, fun b hb => ?_⟩
     obtain ⟨o, e, _⟩ := T.obj _ _ t7 b hb
     exact (J'.pin (b, o) (List.mem_append_right _ (List.mem_append_right _ (gU hb e)))).2.1
    have z7 := hg' _ s7 σ5 H7 x u _ I7' r7 (step x H7 y7)
    rw [hA, hpr, hwr] at z7
    refine wpAny_mono z7 (?_) Vy
    rintro _ s8 ⟨σ8, H8, I8, q8⟩
    have z8 := ht' _ s8 σ8 H8 _ I8 q8
    rw [hA, hpr, hwr] at z8
    refine wpAny_mono z8 (?_) Vy
    rintro b s9 ⟨H9, I9, q9⟩
    cases b with
    | false =>
      rw [if_neg Bool.false_ne_true] at q9 ⊢
      obtain ⟨m', hm, w'⟩ := q9
      obtain ⟨b1, b2, b3⟩ := back I9
      exact ⟨m', hm, i + 1, ys, σ8, H9, b1, b2, b3, w'⟩
    | true =>
      rw [if_pos rfl] at q9 ⊢
      have z9 := he' _ s9 σ8 H9 _ I9 q9
      rw [hA, hpr, hwr] at z9
      refine wpAny_mono z9 (?_) Vy
      rintro y je ⟨yv, H10, I10, r10, Zc, hlen, m', hm, w'⟩
      have z10 := pQ _ je σ8 H10 (.ref s.heap.objs.size) [yv] (.ref s.heap.objs.size) [y] (fun v H11 => H11 = upd H10 s.heap.objs.size (.lst (ys ++ [yv]))) I10 rfl (.cons r10 .nil) ⟨_, ys, yv, rfl, rfl, Zc, hlen, rfl⟩
      rw [hA, hpr, hwr] at z10
      refine wpAny_mono z10 (?_) Vy
      rintro _ qj ⟨_, H11, I11, _, e11⟩
      subst e11
      obtain ⟨b1, b2, b3⟩ := back I11
      exact ⟨m', hm, i + 1, ys ++ [yv], σ8, _, b1, b2, b3, w'⟩
 have e3 : ({ s3 with heap := h₁, toks := s3.toks } : Shared) = { s with heap := h₁ } := by rw [<- hs3]
 rw [henv, e3] at main
 exact codeAny_compStart_list main (T.self _ 0 _ _ _ (tnK Tj) main)
end
end L2
end
section
namespace L2
open PySem PySem.Spec PyProof.Rows
section
variable {X : Cx} {elt target iter : Expr} {ifs : List Expr} {scope : Scope} {pos : Pos} {N' : List Str} {n : Nat} {wi : TI} {g : TG} {tt : TT} {te : TE}
noncomputable def yd (n : Nat) (wi : TI) (g : TG) (tt : TT) (te : TE) : TE := fun σ H Q => wi σ H fun J H1 => ∀ D, H1 D = none -> ∃ W, (∃ m, W 0 m [] (σ ++ List.replicate n none) (upd H1 D (.lst []))) /\ Hy J g tt te D (fun H' => Q (.ref D) H') W
theorem jG {pins : List (Addr × Obj)} {σ : L2.St} {H : Hp} {s : Shared} (I : Inv X pins σ H s) (ok : fU X scope N' n) :
 ∃ cl, closureFor scope X.env = pure cl /\ (∀ n c, cl.lookup n = some c -> X.env.cells.lookup n = some c) /\ ∀ n, (n, NameKind.free) ∈ scope.names -> (cl.lookup n).isSome :=
 u0 fun m hm => I.ok.has m (ok.cap (m, .free) hm rfl)
theorem GF (hc : X.calm = true) (ok : fU X scope N' n) (hi : PI X target iter wi)
 (hg : ∀ cl C s₀ H₀ ex, PG (uF X scope N' cl C s₀ H₀ ex) target g) (ht : ∀ cl C s₀ H₀ ex, Lr (uF X scope N' cl C s₀ H₀ ex) ifs tt) (he : ∀ cl C s₀ H₀ ex, PE (uF X scope N' cl C s₀ H₀ ex) elt te)
 (hs : ∀ x, foldedSetIterable iter X.env x = pure x := by intro _; rfl) : PE X (.ListComp elt [⟨target, iter, ifs, 0⟩] scope pos) (yd n wi g tt te) := by
 intro pins s σ H Q I h
 obtain ⟨cl, hclos, hcl, wH⟩ := jG I ok
 rw [eval_ListComp]
 refine wpAny_comprehension_free (use := none) rfl hs hclos ok.kind ok.names (cI (hi pins s σ H _ I h) fun v s1 h1 => cI h1 fun itv s2 h2 => ?_)
 obtain ⟨it, fp, tn, J, H2, rfl, I2, T, t0, f2, hw⟩ := h2
 refine pN (Q := fun D H' => Q (.ref D) H') (RR := fun acc C => compPost (model X.prog X.w) X.A X.xe none (EP X pins σ Q) acc C) hc ok I2 hcl wH T t0 f2 hg ht he hw fun D C s' H' q hm zL I' => ?_
 obtain ⟨m, hm⟩ := hm
 refine ⟨m, hm, fun h' hs' => ⟨.ref D, H', ?_, rfl, q⟩⟩
 exact I'.turned (t' := s'.toks) (fun b o hb e => hs'.extBut b o hb e) zL.1 zL.2.1 zL.2.2.2.1 zL.2.2.2.2.1 zL.2.2.2.2.2
theorem FW {i : Nat} {x : Str} {pos' spos : Pos} (hc : X.calm = true) (hN : X.N.Nodup) (hx0 : X.N[i]? = some x) (hx : Loc X.env.scope x) (ok : fU X scope N' n) (hi : PI X target iter wi)
 (hg : ∀ cl C s₀ H₀ ex, PG (uF X scope N' cl C s₀ H₀ ex) target g) (ht : ∀ cl C s₀ H₀ ex, Lr (uF X scope N' cl C s₀ H₀ ex) ifs tt) (he : ∀ cl C s₀ H₀ ex, PE (uF X scope N' cl C s₀ H₀ ex) elt te)
 (hsw : swapsWith (.ListComp elt [⟨target, iter, ifs, 0⟩] scope pos) (some (.Name x pos')) spos.line X.env = pure true)
 (hs : ∀ x, foldedSetIterable iter X.env x = pure x := by intro _; rfl) (hf : X.fn x = true \/ X.env.scope.names.lookup x = some .local := by first | exact .inl rfl | exact .inr rfl | assumption) :
 PS X (.Assign [.Name x pos'] (.ListComp elt [⟨target, iter, ifs, 0⟩] scope pos) spos) (Jh (yd n wi g tt te) (nW i)) := by
 intro pins s σ H D I h
 obtain ⟨cl, hclos, hcl, wH⟩ := jG I ok
 rw [exec_Assign_Name_used _ _ _ _ hsw]
 refine wpAny_bind (wpAny_standAt (wpAny_bind ?_))
 show wpAny _ X.A (do let _ <- comprehension (.ListComp elt [⟨target, iter, ifs, 0⟩] scope pos) scope X.env _ (newList []) false (eval iter X.env) (some (assign (.Name x pos') X.env))) _ _ s
 refine wpAny_bind (wpAny_mono (wpAny_comprehension_free (use := some (assign (.Name x pos') X.env)) (Q := fun _ s' => SP X pins D .next s') rfl hs hclos ok.kind ok.names
  (cI (hi pins s σ H _ I h) fun v s1 h1 => cI h1 fun itv s2 h2 => ?_)) (fun _ s' hq => wpAny_pure (wpAny_pure hq)) fun _ _ e => e)
 obtain ⟨it, fp, tn, J, H2, rfl, I2, T, t0, f2, hw⟩ := h2
 refine pN (Q := fun Da H' => D.nx (σ.set i (some (.ref Da))) H') (RR := fun acc C => compPost (model X.prog X.w) X.A X.xe (some (assign (.Name x pos') X.env)) (fun _ s' => SP X pins D .next s') acc C) hc ok I2 hcl wH T t0 f2 hg ht he hw fun Da C s' H' q hm zL I' => ?_
 obtain ⟨m, hm⟩ := hm
 show wpAny _ X.A (assign (.Name x pos') X.env (.ref Da)) _ _ _
 refine wpAny_assign_Name (qe I' hN hx0 hx (show RelV (.ref Da) (.ref Da) from rfl) (?_) hf)
 rintro s'' I'' ⟨a, sb, ha⟩
 have hCa : C ≠ a := by
  rcases ha with rfl | ha
  . exact zL.2.1
  . exact fun z => zL.2.2.2.2.1 x a ha z.symm
 refine ⟨m, hm.sameBut sb hCa, fun h' hs' => ⟨_, H', ?_, q⟩⟩
 exact I''.turned (t' := s''.toks) (fun b o hb e => hs'.extBut b o hb e) zL.1 zL.2.1 zL.2.2.2.1 zL.2.2.2.2.1 zL.2.2.2.2.2
noncomputable def V3 (K : PySem.W.Frag) (tl : TE) : TI := fun σ H R => tl σ H fun x H1 => ∃ a, x = .ref a /\ (((∃ xs, gw K H1 a xs) /\ R (LR K a) H1) \/ ((∃ xs, iY K H1 a xs) /\ R (N6 K a) H1))
theorem Dk {tg l : Expr} {tl : TE} (hl : PE X l tl) : PI X tg l (V3 X.K tl) := by
 intro pins s σ H R I h
 refine cI (hl pins s σ H _ I h) ?_
 rintro v s1 ⟨x, H1, I1, r1, q1⟩
 obtain ⟨a, e, q1⟩ := q1
 subst e
 cases r1
 rcases q1 with ⟨⟨xs, hq⟩, q⟩ | ⟨⟨xs, hq⟩, q⟩
 . obtain ⟨its, rv, p, hz⟩ := I1.list hq
   refine wpAny_pyIter_list p.isList ?_
   refine ⟨s1.heap.objs.size, [s1.heap.objs.size], _, _, H1, rfl, I1.kept (t' := s1.toks) fun b o e => Heap.get?_push_of_some _ e, yZ a _, ⟨_, Heap.get?_push_size _ rfl, rfl, rfl⟩, fun b hb => ?_, q⟩
   have e : b = s1.heap.objs.size := by simpa using hb
   subst e
   exact I1.yE (Nat.le_refl _) (I1.hok.fresh (Nat.le_refl _))
 . obtain ⟨its, rv, p, hz⟩ := I1.tuple hq
   refine wpAny_pyIter_tuple (show s1.heap.IsTuple a its.toArray from p) ?_
   refine ⟨s1.heap.objs.size, [s1.heap.objs.size], _, _, H1, rfl, I1.kept (t' := s1.toks) fun b o e => Heap.get?_push_of_some _ e, vU a _, ⟨_, Heap.get?_push_size _ rfl, rfl, rfl⟩, fun b hb => ?_, q⟩
   have e : b = s1.heap.objs.size := by simpa using hb
   subst e
   exact I1.yE (Nat.le_refl _) (I1.hok.fresh (Nat.le_refl _))
end
end L2
end
section
namespace HH
open PySem L2 PySem.Spec PyProof.Rows
structure Walk (K : PySem.W.Frag) (F : Hp) (ρ : List Sl) (σ : L2.St) (H : Hp) (ul : List Sl -> List Sl) (J : It) (ds : List D) (F1 : Hp) (ρ1 : List Sl) (H1 : Hp) : Prop where
 gs : GS K F1 ρ1 σ H1
 src : ∀ (n k : Nat) (F' : Hp) (ρ' : List Sl) (σ' : L2.St) (H' : Hp), cg K F1 (ρ1 ++ List.replicate n .aV) (σ ++ List.replicate n none) H1 F' ρ' σ' H' ->
  (∀ d, ds[k]? = some d -> J.go k H' /\ ∀ x pq, J.Ja k H' x pq -> ∃ F'', Ext F' H' F'' pq /\ Rep K F'' x d) /\ (ds.length <= k -> J.stop k H')
 fin : ∀ F2 ρ2 σ2 H2, cg K F1 ρ1 σ H1 F2 ρ2 σ2 H2 -> cg K F ρ σ H F2 (ul ρ2) σ2 H2 /\ ∀ v r, cL K F2 ρ2 σ2 H2 ρ1 σ H1 v r -> cL K F2 (ul ρ2) σ2 H2 ρ σ H v r
inductive Z3 (K : PySem.W.Frag) (iv : Option Nat) (f : Ev) (σ : L2.St) (H : Hp) (R : It -> Hp -> Prop) : Prop where
 | mk (F : Hp) (ρ : List Sl) (ds : List D) (ρ1 : List Sl) (g : GS K F ρ σ H) (e : srcOf iv f ρ = .ok ds ρ1) (k : ∀ J F1 H1, Walk K F ρ σ H (bB ρ iv) J ds F1 ρ1 H1 -> R J H1)
section
variable {K : PySem.W.Frag} {F F1 H H1 : Hp} {ρ ρ1 : List Sl} {σ : L2.St} {ds : List D} {a : Addr}
theorem Ew {xs : List V} {F' H' : Hp} (hq : iY K H' a xs) (r : aJ K F' xs ds) (s : aQ F' H') (k : Nat) :
 (∀ d, ds[k]? = some d -> (N6 K a).go k H' /\ ∀ x pq, (N6 K a).Ja k H' x pq -> ∃ F'', Ext F' H' F'' pq /\ Rep K F'' x d) /\ (ds.length <= k -> (N6 K a).stop k H') := by
 refine ⟨fun d hd => ?_, fun h => ⟨xs, hq, by rw [r.length]; exact h⟩⟩
 obtain ⟨w, h1, h2⟩ := r.get hd
 refine ⟨⟨xs, w, hq, h1⟩, ?_⟩
 rintro x pq ⟨e, y⟩
 subst e
 have := y xs hq
 rw [h1] at this; cases this
 exact ⟨F', .refl s, h2⟩
theorem uq {xs : List V} {F' H' : Hp} (hq : gw K H' a xs) (r : aJ K F' xs ds) (s : aQ F' H') (k : Nat) :
 (∀ d, ds[k]? = some d -> (LR K a).go k H' /\ ∀ x pq, (LR K a).Ja k H' x pq -> ∃ F'', Ext F' H' F'' pq /\ Rep K F'' x d) /\ (ds.length <= k -> (LR K a).stop k H') := by
 refine ⟨fun d hd => ?_, fun h => ⟨xs, hq, by rw [r.length]; exact h⟩⟩
 obtain ⟨w, h1, h2⟩ := r.get hd
 refine ⟨⟨xs, w, hq, h1⟩, ?_⟩
 rintro x pq ⟨e, y⟩
 subst e
 have := y xs hq
 rw [h1] at this; cases this
 exact ⟨F', .refl s, h2⟩
theorem ur {ul : List Sl -> List Sl} {v : V} {d : D} (s : cg K F ρ σ H F1 ρ1 σ H1) (r : Rep K F1 v d) (hi : items d = some ds)
 (fin : ∀ F2 ρ2 σ2 H2, cg K F1 ρ1 σ H1 F2 ρ2 σ2 H2 -> cg K F ρ σ H F2 (ul ρ2) σ2 H2 /\ ∀ v r, cL K F2 ρ2 σ2 H2 ρ1 σ H1 v r -> cL K F2 (ul ρ2) σ2 H2 ρ σ H v r) :
 ∃ a, v = .ref a /\ (((∃ xs, gw K H1 a xs) /\ Walk K F ρ σ H ul (LR K a) ds F1 ρ1 H1) \/ ((∃ xs, iY K H1 a xs) /\ Walk K F ρ σ H ul (N6 K a) ds F1 ρ1 H1)) := by
 cases d with
 | tup es =>
   cases hi
   rw [Rep] at r
   obtain ⟨a, xs, rfl, h1, h2⟩ := r
   exact ⟨a, rfl, .inr ⟨⟨xs, aQ.iZ s.gs.sub h1⟩, s.gs, fun n k F' ρ' σ' H' s' => Ew (aQ.iZ s'.gs.sub (aQ.iZ s'.cZ h1)) (h2.mono s'.cZ) s'.gs.sub k, fin⟩⟩
 | lst es =>
   cases hi
   rw [Rep] at r
   obtain ⟨a, xs, rfl, h1, h2⟩ := r
   exact ⟨a, rfl, .inl ⟨⟨xs, s.gs.sub.seq h1⟩, s.gs, fun n k F' ρ' σ' H' s' => uq (s'.gs.sub.seq (s'.cZ.seq h1)) (h2.mono s'.cZ) s'.gs.sub k, fin⟩⟩
 | _ => cases hi
theorem pZ {i : Nat} {ul : List Sl -> List Sl} (g : GS K F ρ1 σ H) (e : ρ1[i]? = some (.lent ds))
 (fin : ∀ F2 ρ2 σ2 H2, cg K F ρ1 σ H F2 ρ2 σ2 H2 -> cg K F ρ σ H F2 (ul ρ2) σ2 H2 /\ ∀ v r, cL K F2 ρ2 σ2 H2 ρ1 σ H v r -> cL K F2 (ul ρ2) σ2 H2 ρ σ H v r) :
 ∃ a, σ[i]? = some (some (.ref a)) /\ (∃ xs, gw K H a xs) /\ Walk K F ρ σ H ul (LR K a) ds F ρ1 H := by
 obtain ⟨a, xs, h1, h2, h3, h4⟩ := g.qW i _ ds e rfl
 have hi : i < ρ1.length := (List.getElem?_eq_some_iff.mp e).1
 refine ⟨a, h1, ⟨xs, gw.of h2⟩, g, fun n k F' ρ' σ' H' s' => ?_, fin⟩
 obtain ⟨z1, t, z2, z3⟩ := s'.lk i _ (by rw [List.getElem?_append_left hi]; exact e) rfl
 cases (show t = .lent ds from z3)
 rw [List.getElem?_append_left (by rw [<- g.len]; exact hi), h1] at z1
 obtain ⟨a', ys, w1, w2, w3, w4⟩ := s'.gs.qW i _ ds z2 rfl
 rw [z1] at w1; cases w1
 exact uq (gw.of w2) w4 s'.gs.sub k
end
section
variable {X : Cx} {c : Call} {n : Nat} {e a b d tg : Expr} {p pa pb pd : P} {pos : Pos}
theorem qg {t t' : TI} (h : PI X tg e t) (i : ∀ σ H R, t' σ H R -> t σ H R) : PI X tg e t' := fun pins s σ H R I q => h pins s σ H R I (i σ H R q)
noncomputable def SI (X : Cx) (c : Call) (tg e : Expr) (p : P) : Prop := PI X tg e (Z3 X.K (isVar p) (HH.ev c p))
theorem cO (h : SX X c e p) : SI X c tg e p := by
 unfold SI
 cases hv : isVar p with
 | none =>
   refine qg (Dk h.ev) ?_
   rintro σ H R ⟨F, ρ, ds, ρ1, g, e, k⟩
   obtain ⟨r, ρ2, e1, e2⟩ := ao e
   have zz := aG e2; clear e2; obtain ⟨e2, e3⟩ := zz
   subst e3
   refine ⟨F, ρ, r, _, g, e1, fun v F' H' s rr => ?_⟩
   obtain ⟨F2, s2, _, rp⟩ := s.gq rr
   obtain ⟨a, ha, hw⟩ := ur (ul := bB ρ none) s2 rp e2 fun F3 ρ3 σ3 H3 s3 => ⟨s2.trans s3, fun v r rr => rr.later s2⟩
   exact ⟨a, ha, hw.imp (fun ⟨z, w⟩ => ⟨z, k _ _ _ w⟩) (fun ⟨z, w⟩ => ⟨z, k _ _ _ w⟩)⟩
 | some i =>
   refine qg (Dk (h.var i hv)) ?_
   rintro σ H R ⟨F, ρ, ds, ρ1, g, e, k⟩
   unfold srcOf at e
   dsimp only at e
   split at e
   . rename_i b d q
     have zz := aG e; clear e; obtain ⟨e2, e3⟩ := zz
     subst e3
     obtain ⟨v, h1, h2⟩ := g.val i b d q
     have fin : ∀ F2 ρ2 σ2 H2, cg X.K F ρ σ H F2 ρ2 σ2 H2 -> cg X.K F ρ σ H F2 (bB ρ (some i) ρ2) σ2 H2 /\ ∀ v r, cL X.K F2 ρ2 σ2 H2 ρ σ H v r -> cL X.K F2 (bB ρ (some i) ρ2) σ2 H2 ρ σ H v r := fun F2 ρ2 σ2 H2 s => by
      unfold bB; dsimp only; rw [q]; exact ⟨s, fun _ _ z => z⟩
     obtain ⟨a, ha, hw⟩ := ur (ul := bB ρ (some i)) (.refl g) h2 e2 fin
     exact ⟨v, h1, a, ha, hw.imp (fun ⟨z, w⟩ => ⟨z, k _ _ _ w⟩) (fun ⟨z, w⟩ => ⟨z, k _ _ _ w⟩)⟩
   . rename_i b ds' q
     cases e
     have hi : i < ρ.length := (List.getElem?_eq_some_iff.mp q).1
     have fin : ∀ F2 ρ2 σ2 H2, cg X.K F (ρ.set i (.lent ds)) σ H F2 ρ2 σ2 H2 -> cg X.K F ρ σ H F2 (bB ρ (some i) ρ2) σ2 H2 /\ ∀ v r, cL X.K F2 ρ2 σ2 H2 (ρ.set i (.lent ds)) σ H v r -> cL X.K F2 (bB ρ (some i) ρ2) σ2 H2 ρ σ H v r := fun F2 ρ2 σ2 H2 s => by
      unfold bB; dsimp only; rw [q]; exact cg.bB g q s
     obtain ⟨a, h1, hx, w⟩ := pZ (ul := bB ρ (some i)) (g.lend q) (List.getElem?_set_self hi) fin
     exact ⟨_, h1, a, rfl, .inl ⟨hx, k _ _ _ w⟩⟩
   . rename_i ds' q
     cases e
     have fin : ∀ F2 ρ2 σ2 H2, cg X.K F ρ σ H F2 ρ2 σ2 H2 -> cg X.K F ρ σ H F2 (bB ρ (some i) ρ2) σ2 H2 /\ ∀ v r, cL X.K F2 ρ2 σ2 H2 ρ σ H v r -> cL X.K F2 (bB ρ (some i) ρ2) σ2 H2 ρ σ H v r := fun F2 ρ2 σ2 H2 s => by
      unfold bB; dsimp only; rw [q]; exact ⟨s, fun _ _ z => z⟩
     obtain ⟨a, h1, hx, w⟩ := pZ (ul := bB ρ (some i)) g q fin
     exact ⟨_, h1, a, rfl, .inl ⟨hx, k _ _ _ w⟩⟩
   . cases e
theorem tY {K : PySem.W.Frag} {F F1 H H1 : Hp} {ρ ρ1 : List Sl} {σ : L2.St} (s : cg K F ρ σ H F1 ρ1 σ H1) (i j : Int) : Walk K F ρ σ H (bB ρ none) (Qp i (j - i).toNat) ((List.range (j - i).toNat).map fun (k : Nat) => D.int (i + (k : Int))) F1 ρ1 H1 := by
 refine ⟨s.gs, fun n k F' ρ' σ' H' s' => ⟨fun d hd => ?_, fun h => ?_⟩, fun F3 ρ3 σ3 H3 s3 => ⟨s.trans s3, fun v r rr => rr.later s⟩⟩
 . rw [List.getElem?_map] at hd
   obtain ⟨m, e1, e2⟩ := map_some hd
   obtain ⟨h1, h2⟩ := List.getElem?_eq_some_iff.mp e1
   rw [List.getElem_range] at h2
   subst h2; subst e2
   rw [List.length_range] at h1
   refine ⟨h1, ?_⟩
   rintro x pq ⟨q1, q2⟩
   subst q1; subst q2
   exact ⟨F', .refl s'.gs.sub, bZ _⟩
 . rw [List.length_map, List.length_range] at h; exact h
theorem jZ {x : Str} {p' : Pos} (hx : x = "range") (hg : Gl X x) (hm : X.mg x = none) (ha : SX X c a pa) (hs : starEach [a] X.env = [(false, eval a X.env)] := by rfl) : SI X c tg (.Call (.Name x p') [a] [] pos) (.sE (.con (.int 0)) pa) := by
 subst hx
 obtain ⟨ta, h1, h2⟩ := ha.fj
 refine qg (yV hg hm (eN h1 jn hs) hs) ?_
 rintro σ H R ⟨F, ρ, ds, ρ1, g, e, k⟩
 obtain ⟨r, ρ2, e1, e2⟩ := ao e
 have zz := aG e2; clear e2; obtain ⟨e2, e3⟩ := zz
 subst e3
 rw [HH.ev] at e1
 obtain ⟨xy, ρ3, e4, e5⟩ := ao e1
 have zz := aG e5; clear e5; obtain ⟨e5, e6⟩ := zz
 subst e6
 obtain ⟨y0, ρ5, e9, e10⟩ := ao e4
 cases e10
 obtain ⟨i, f1, e5⟩ := dC e5
 obtain ⟨j, f2, e5⟩ := dC e5
 obtain ⟨⟨b1, b2, b3, b4⟩, e5⟩ := bC e5
 have f1 : i = 0 := by cases f1; rfl
 subst f1
 subst e5
 cases e2
 cases eV f2
 refine h2 g e9 fun v F' H' s pv => ⟨j, by rw [pv.int], by omega, by omega, ?_⟩
 have := tY s 0 j
 rw [Int.sub_zero] at this
 refine k _ F' H' ?_
 rw [Int.sub_zero]
 exact this
theorem jy {x : Str} {p' : Pos} (hx : x = "range") (hg : Gl X x) (hm : X.mg x = none) (ha : SX X c a pa) (hb : SX X c b pb) (hs : starEach [a, b] X.env = [(false, eval a X.env), (false, eval b X.env)] := by rfl) (hs2 : starEach [b] X.env = [(false, eval b X.env)] := by rfl) :
 SI X c tg (.Call (.Name x p') [a, b] [] pos) (.sE pa pb) := by
 subst hx
 obtain ⟨ta, tb, h1, h2, h3⟩ := ha.jj hb
 refine qg (zg hg hm (eN h1 (eN h2 jn hs2) (by rw [hs, hs2])) hs hs2) ?_
 rintro σ H R ⟨F, ρ, ds, ρ1, g, e, k⟩
 obtain ⟨r, ρ2, e1, e2⟩ := ao e
 have zz := aG e2; clear e2; obtain ⟨e2, e3⟩ := zz
 subst e3
 rw [HH.ev] at e1
 obtain ⟨xy, ρ3, e4, e5⟩ := ao e1
 have zz := aG e5; clear e5; obtain ⟨e5, e6⟩ := zz
 subst e6
 obtain ⟨i, f1, e5⟩ := dC e5
 obtain ⟨j, f2, e5⟩ := dC e5
 obtain ⟨⟨b1, b2, b3, b4⟩, e5⟩ := bC e5
 subst e5
 cases e2
 refine h3 g e4 fun v u F' H' s pv pu => ⟨i, j, ?_, by omega, k _ F' H' (tY s i j)⟩
 have e1 := eV f1
 have e2 := eV f2
 rw [e1] at pv; rw [e2] at pu
 rw [pv.int, pu.int]
end
end HH
end
section
namespace HH
open PySem L2 PySem.Spec PyProof.Rows
section
variable {X : Cx} {c : Call} {n : Nat} {e a b d tg iter : Expr} {p pa pb pd : P} {pos : Pos} {body : List Stmt} {ss : List S}
noncomputable def FZ (K : PySem.W.Frag) (bd : List Sl -> D -> Option (List Sl)) (g : TG) : Prop := ∀ (x : V) (d : D) (F : Hp) (ρ ρ' : List Sl) (σ : L2.St) (H : Hp) (Q : L2.St -> Hp -> Prop), GS K F ρ σ H -> Rep K F x d -> bd ρ d = some ρ' ->
 (∀ σ', cg K F ρ σ H F ρ' σ' H -> Q σ' H) -> g x σ H Q
theorem Gr {K : PySem.W.Frag} (i : Nat) : FZ K (fun ρ d => put ρ i (.val false d)) (nW i) := fun x d F ρ ρ' σ H Q g r h k =>
 k _ (cg.put (r := .val d) (.refl g) r h)
theorem bK {K : PySem.W.Frag} : ∀ (is : List Nat) (gs : zO), (∀ (xs : List V) (ds : List D) (F : Hp) (ρ ρ' : List Sl) (σ : L2.St) (H : Hp) (Q : L2.St -> Hp -> Prop), GS K F ρ σ H -> aJ K F xs ds -> putAll ρ is ds = some ρ' -> (∀ σ', cg K F ρ σ H F ρ' σ' H -> Q σ' H) -> gs xs σ H Q) ->
 ∀ i, ∀ (xs : List V) (ds : List D) (F : Hp) (ρ ρ' : List Sl) (σ : L2.St) (H : Hp) (Q : L2.St -> Hp -> Prop), GS K F ρ σ H -> aJ K F xs ds -> putAll ρ (i :: is) ds = some ρ' -> (∀ σ', cg K F ρ σ H F ρ' σ' H -> Q σ' H) -> Dr (nW i) gs xs σ H Q := by
 intro is gs ih i xs ds F ρ ρ' σ H Q g r h k
 cases ds with
 | nil => simp [putAll] at h
 | cons d ds =>
   obtain ⟨v, vs, rfl, h1, h2⟩ := r.cB
   rw [putAll] at h
   obtain ⟨ρ1, e1, e2⟩ := dC h
   have s1 := cg.put (r := .val d) (.refl g) h1 e1
   refine ⟨v, vs, rfl, ih vs ds F ρ1 ρ' _ H _ s1.gs h2 e2 fun σ' s2 => k σ' (s1.trans s2)⟩
theorem iR {K : PySem.W.Frag} : ∀ (xs : List V) (ds : List D) (F : Hp) (ρ ρ' : List Sl) (σ : L2.St) (H : Hp) (Q : L2.St -> Hp -> Prop), GS K F ρ σ H -> aJ K F xs ds -> putAll ρ [] ds = some ρ' -> (∀ σ', cg K F ρ σ H F ρ' σ' H -> Q σ' H) -> J6 xs σ H Q := by
 intro xs ds F ρ ρ' σ H Q g r h k
 cases ds with
 | nil => rw [putAll] at h; cases h; exact ⟨r.gf, k σ (.refl g)⟩
 | cons d ds => simp [putAll] at h
theorem jk : ∀ {is : List Nat} {ds : List D} {ρ ρ' : List Sl}, putAll ρ is ds = some ρ' -> ds.length = is.length
 | [], [], _, _, _ => rfl
 | [], _ :: _, _, _, h => by simp [putAll] at h
 | _ :: _, [], _, _, h => by simp [putAll] at h
 | i :: is, d :: ds, ρ, ρ', h => by
   rw [putAll] at h
   obtain ⟨ρ1, e1, e2⟩ := dC h
   simp [jk e2]
theorem lA {K : PySem.W.Frag} {is : List Nat} {gs : zO} {m : Nat} (hm : m = is.length) (h : ∀ (xs : List V) (ds : List D) (F : Hp) (ρ ρ' : List Sl) (σ : L2.St) (H : Hp) (Q : L2.St -> Hp -> Prop), GS K F ρ σ H -> aJ K F xs ds -> putAll ρ is ds = some ρ' -> (∀ σ', cg K F ρ σ H F ρ' σ' H -> Q σ' H) -> gs xs σ H Q) :
 FZ K (fun ρ d => cM ρ is false d) (JX K m gs) := by
 intro x d F ρ ρ' σ H Q g r hb k
 replace hb : cM ρ is false d = some ρ' := hb
 cases d with
 | tup ds =>
   replace hb : putAll ρ is ds = some ρ' := hb
   rw [Rep] at r
   obtain ⟨a, xs, rfl, h1, h2⟩ := r
   exact ⟨a, xs, rfl, aQ.iZ g.sub h1, by rw [h2.length, jk hb, hm], h xs _ F ρ ρ' σ H Q g h2 hb k⟩
 | _ => cases hb
theorem oA {g : TG} {is : List Nat} {one : Bool} (hp : PassesOwn (model X.prog X.w) X.A X.env X.xe) (hc : X.calm = true) (hi : SI X c tg iter p) (hg : PG X tg g) (hgo : FZ X.K (fun ρ d => cM ρ is one d) g) (hb : SB X c n body ss)
 (hs : ∀ x, foldedSetIterable iter X.env x = pure x := by intro _; rfl) : SS X c n (.For tg iter body [] pos) (.ie p is one ss) := by
 refine fV (LC hp hc hi hg hb hs) ?_
 rintro D σ H ⟨F, ρ, fl, ρ', g0, e, k⟩
 rw [ex] at e
 obtain ⟨ds, ρ1, e1, e⟩ := ao e
 obtain ⟨fl', ρ2, e2, e⟩ := ao e
 cases e
 refine ⟨F, ρ, ds, ρ1, g0, e1, fun J F1 H1 w => ?_⟩
 have src : ∀ (i : Nat) (F' : Hp) (ρ' : List Sl) (σ' : L2.St) (H' : Hp), cg X.K F1 ρ1 σ H1 F' ρ' σ' H' ->
  (∀ d, ds[i]? = some d -> J.go i H' /\ ∀ x pq, J.Ja i H' x pq -> ∃ F'', Ext F' H' F'' pq /\ Rep X.K F'' x d) /\ (ds.length <= i -> J.stop i H') := fun i F' ρ' σ' H' s => w.src 0 i F' ρ' σ' H' (by simpa using s)
 refine ⟨fun i m σi Hi => ∃ Fi ρi, cg X.K F1 ρ1 σ H1 Fi ρi σi Hi /\ m = ds.length - i /\ i <= ds.length /\ mz is one (jg c n ss) (ds.drop i) ρi = .ok fl ρ2, ⟨_, F1, ρ1, .refl w.gs, rfl, Nat.zero_le _, e2⟩, ?_⟩
 rintro i m σi Hi ⟨Fi, ρi, si, rfl, hle, ei⟩
 obtain ⟨s1, s2⟩ := src i Fi ρi σi Hi si
 by_cases hlt : i < ds.length
 . right
   have hd : ds[i]? = some ds[i] := by simp [hlt]
   obtain ⟨go, step⟩ := s1 _ hd
   refine ⟨go, fun σ' H' => ∃ m', m' < ds.length - i /\ ∃ Fi ρi, cg X.K F1 ρ1 σ H1 Fi ρi σ' H' /\ m' = ds.length - (i + 1) /\ i + 1 <= ds.length /\ mz is one (jg c n ss) (ds.drop (i + 1)) ρi = .ok fl ρ2, fun σ' H' z => z, fun x H' y => ?_⟩
   obtain ⟨F2, ext, rx⟩ := step x H' y
   have si2 := si.trans (ext.stp si.gs)
   rw [List.drop_eq_getElem_cons hlt, mz] at ei
   cases hbd : cM ρi is one ds[i] with
   | none => rw [hbd] at ei; cases ei
   | some ρb =>
     rw [hbd] at ei
     obtain ⟨flb, ρc, eb, ei⟩ := ao ei
     refine hgo x _ F2 ρi ρb σi H' _ si2.gs rx hbd fun σ2 sb => ?_
     have Zd := si2.trans sb
     refine ⟨F2, ρb, flb, ρc, Zd.gs, eb, fun F4 σ4 H4 s4 => ?_⟩
     have Vz := Zd.trans s4
     cases flb with
     | next => exact ⟨_, by omega, F4, ρc, Vz, rfl, hlt, ei⟩
     | cont => exact ⟨_, by omega, F4, ρc, Vz, rfl, hlt, ei⟩
     | brk =>
       cases ei
       exact k F4 σ4 H4 (w.fin _ _ _ _ Vz).1
     | ret r =>
       cases ei
       intro v rr
       obtain ⟨z1, z2⟩ := w.fin _ _ _ _ Vz
       exact k F4 σ4 H4 z1 v (z2 v r (rr.later Zd))
 . left
   have hdr : ds.drop i = [] := by rw [List.drop_eq_nil_iff]; omega
   rw [hdr, mz] at ei
   cases ei
   exact ⟨s2 (by omega), k Fi σi Hi (w.fin _ _ _ _ si).1⟩
theorem zc (i : Nat) : (fun (ρ : List Sl) (d : D) => cM ρ [i] true d) = fun ρ d => put ρ i (.val false d) := by funext ρ d; rfl
theorem dI {i : Nat} {x : Str} {pos' : Pos} (hp : PassesOwn (model X.prog X.w) X.A X.env X.xe) (hc : X.calm = true) (hN : X.N.Nodup) (hx0 : X.N[i]? = some x) (hx : Loc X.env.scope x) (hi : SI X c (.Name x pos') iter p) (hb : SB X c n body ss)
 (hs : ∀ x, foldedSetIterable iter X.env x = pure x := by intro _; rfl) (hf : X.fn x = true \/ X.env.scope.names.lookup x = some .local := by first | exact .inl rfl | exact .inr rfl | assumption) : SS X c n (.For (.Name x pos') iter body [] pos) (.ie p [i] true ss) :=
 oA hp hc hi (aF hN hx0 hx hf) (by rw [zc]; exact Gr i) hb hs
end
end HH
end
section
namespace HH
open PySem L2 PySem.Spec PyProof.Rows
section
variable {X : Cx} {c : Call} {n : Nat} {e elt tg iter : Expr} {p ps pe : P} {pos : Pos} {scope : Scope} {N' : List Str} {ifs : List Expr}
theorem KC {t t' : TE} (h : PE X e t) (i : ∀ σ H Q, σ.length = X.N.length -> t' σ H Q -> t σ H Q) : PE X e t' := fun pins s σ H Q I q => h pins s σ H Q I (i σ H Q I.len q)
theorem Km {st : Stmt} {t t' : TS} (h : PS X st t) (i : ∀ D σ H, σ.length = X.N.length -> t' D σ H -> t D σ H) : PS X st t' := fun pins s σ H D I q => h pins s σ H D I (i D σ H I.len q)
noncomputable def qp (K : PySem.W.Frag) (m : Nat) (is : List Nat) (one : Bool) (g : TG) : Prop := ∀ (x : V) (d : D) (F : Hp) (ρ ρ' : List Sl) (σ : L2.St) (H : Hp) (Q : L2.St -> Hp -> Prop), GS K F ρ σ H -> Rep K F x d -> cM ρ is one d = some ρ' ->
 (∀ σ', cg K F ρ σ H F ρ' σ' H -> σ'.take m = σ.take m -> Q σ' H) -> g x σ H Q
theorem take_set {α : Type} {l : List α} {i m : Nat} {a : α} (h : m <= i) : (l.set i a).take m = l.take m := by
 rw [List.take_set_of_le h]
theorem cW {K : PySem.W.Frag} {i m : Nat} (h : m <= i) : qp K m [i] true (nW i) := fun x d F ρ ρ' σ H Q g r hb k =>
 k _ (cg.put (r := .val d) (.refl g) r hb) (take_set h)
noncomputable def Eo (K : PySem.W.Frag) (m : Nat) (is : List Nat) (gs : zO) : Prop := ∀ (xs : List V) (ds : List D) (F : Hp) (ρ ρ' : List Sl) (σ : L2.St) (H : Hp) (Q : L2.St -> Hp -> Prop), GS K F ρ σ H -> aJ K F xs ds -> putAll ρ is ds = some ρ' ->
 (∀ σ', cg K F ρ σ H F ρ' σ' H -> σ'.take m = σ.take m -> Q σ' H) -> gs xs σ H Q
theorem cz {K : PySem.W.Frag} {m i : Nat} {is : List Nat} {gs : zO} (hi : m <= i) (ih : Eo K m is gs) : Eo K m (i :: is) (Dr (nW i) gs) := by
 intro xs ds F ρ ρ' σ H Q g r h k
 cases ds with
 | nil => simp [putAll] at h
 | cons d ds =>
   obtain ⟨v, vs, rfl, h1, h2⟩ := r.cB
   rw [putAll] at h
   obtain ⟨ρ1, e1, e2⟩ := dC h
   have s1 := cg.put (r := .val d) (.refl g) h1 e1
   exact ⟨v, vs, rfl, ih vs ds F ρ1 ρ' _ H _ s1.gs h2 e2 fun σ' s2 z => k σ' (s1.trans s2) (z.trans (take_set hi))⟩
theorem jV {K : PySem.W.Frag} {m : Nat} : Eo K m [] J6 := by
 intro xs ds F ρ ρ' σ H Q g r h k
 cases ds with
 | nil => rw [putAll] at h; cases h; exact ⟨r.gf, k σ (.refl g) rfl⟩
 | cons d ds => simp [putAll] at h
theorem jF {K : PySem.W.Frag} {is : List Nat} {gs : zO} {m l : Nat} (hm : l = is.length) (h : Eo K m is gs) : qp K m is false (JX K l gs) := by
 intro x d F ρ ρ' σ H Q g r hb k
 cases d with
 | tup ds =>
   replace hb : putAll ρ is ds = some ρ' := hb
   rw [Rep] at r
   obtain ⟨a, xs, rfl, h1, h2⟩ := r
   exact ⟨a, xs, rfl, aQ.iZ g.sub h1, by rw [h2.length, jk hb, hm], h xs _ F ρ ρ' σ H Q g h2 hb k⟩
 | _ => cases hb
noncomputable def SQ (X : Cx) (c : Call) (ifs : List Expr) (t : Option P) : Prop := Lr X ifs (Ih X.K (pg c t))
theorem gb : SQ X c [] none := fun pins s σ H Q I ⟨F, ρ, k, ρ', g, e, q⟩ => by
 rw [pg] at e; cases e
 exact Fp pins s σ H Q I (q F H (.refl g))
theorem gJ (h : ST X c e p) : SQ X c [e] (some p) := fun pins s σ H Q I ⟨F, ρ, k, ρ', g, e, q⟩ => by
 rw [pg] at e
 exact Gu h pins s σ H Q I ⟨F, ρ, k, ρ', g, e, q⟩
theorem cg.QR {K : PySem.W.Frag} {F H F1 H1 : Hp} {ρ ρ1 : List Sl} {σ σ1 : L2.St} {Da : Addr} {o : HO} (s : cg K F ρ σ H F1 ρ1 σ1 H1) (h : H Da = none) (hf : F1 Da = none) (ho : ¬ Own ρ1 σ1 Da) : cg K F ρ σ H F1 ρ1 σ1 (upd H1 Da o) := by
 refine ⟨⟨fun b u e => ?_, s.gs.len, s.gs.val, fun i t ds e e' => ?_, s.gs.dis⟩, s.cZ, s.zQ, fun b u e n => ?_, s.zJ, s.len, s.lk⟩
 . have : b ≠ Da := by rintro rfl; rw [hf] at e; cases e
   rw [aL this]; exact s.gs.sub b u e
 . obtain ⟨a, xs, q1, q2, q3, q4⟩ := s.gs.own i t ds e e'
   have : a ≠ Da := by rintro rfl; exact ho ⟨i, ⟨t, ds, e, e'⟩, q1⟩
   exact ⟨a, xs, q1, by rw [aL this]; exact q2, q3, q4⟩
 . have : b ≠ Da := by rintro rfl; rw [h] at e; cases e
   rw [aL this]; exact s.keep b u e n
theorem zX {K : PySem.W.Frag} {F H : Hp} {ρ ρ1 ρ2 : List Sl} {σ : L2.St} {ul : List Sl -> List Sl} {ti : TI} {is : List Nat} {one : Bool} {test : List Sl -> Res Bool} {el : Ev} {g : TG} {Q : VK} {ds xs : List D} {m : Nat}
 (hm : σ.length = m) (hgo : qp K m is one g) (hti : ∀ R : It -> Hp -> Prop, (∀ J F1 H1, Walk K F ρ σ H ul J ds F1 ρ1 H1 -> R J H1) -> ti σ H R) (hlim : ds.length <= lim)
 (e2 : turns is one test el ds [] (ρ1 ++ List.replicate n .aV) = .ok xs ρ2)
 (k : ∀ v F' H', cg K F ρ σ H F' (ul (ρ2.take ρ1.length)) σ H' -> cL K F' (ul (ρ2.take ρ1.length)) σ H' ρ σ H v (.own xs) -> Q v H') :
 yd n ti g (Ih K test) (Bj K el) σ H Q := by
 refine hti _ fun J F1 H1 w Da Ph => ?_
 have hl1 : ρ1.length = σ.length := w.gs.len
 have gm := w.gs.more (n := n) (τ := List.replicate n none) (by simp)
 have fD : F1 Da = none := by
  cases q : F1 Da with
  | none => rfl
  | some o => rw [w.gs.sub Da o q] at Ph; cases Ph
 have nO : ¬ Own (ρ1 ++ List.replicate n .aV) (σ ++ List.replicate n none) Da := fun ⟨i, ⟨t, dt, q1, q2⟩, q3⟩ => by
  obtain ⟨a, ys, z1, z2, _⟩ := gm.own i t dt q1 q2
  rw [q3] at z1; cases z1
  rw [Ph] at z2; cases z2
 refine ⟨fun i mm ys σi Hi => ∃ Fi ρi acc, cg K F1 (ρ1 ++ List.replicate n .aV) (σ ++ List.replicate n none) H1 Fi ρi σi Hi /\ σi.take m = σ /\ Hi Da = some (.lst ys) /\ Fi Da = none /\ ¬ Own ρi σi Da /\ aJ K Fi ys acc /\ acc.length <= i /\ mm = ds.length - i /\ i <= ds.length /\
  turns is one test el (ds.drop i) acc ρi = .ok xs ρ2, ⟨_, F1, _, [], (cg.refl gm).QR Ph fD nO, by rw [List.take_append_of_le_length (by omega), List.take_of_length_le (by omega)], bh, fD, nO, .nil, Nat.zero_le _, rfl, Nat.zero_le _, e2⟩, ?_⟩
 rintro i mm ys σi Hi ⟨Fi, ρi, acc, si, hσ, hD, hF, hO, rs, hacc, rfl, hle, ei⟩
 refine ⟨hD, ?_⟩
 -- what stays of the new list through a step
 have stay : ∀ {F2 H2 : Hp} {ρ3 : List Sl} {σ2 : L2.St}, cg K Fi ρi σi Hi F2 ρ3 σ2 H2 -> H2 Da = some (.lst ys) /\ F2 Da = none /\ ¬ Own ρ3 σ2 Da := fun {F2 H2 ρ3 σ2} s => by
  refine ⟨s.keep Da _ hD hO, ?_, fun o => ?_⟩
  . cases q : F2 Da with
    | none => rfl
    | some o =>
      rcases s.zQ Da hF (by rw [q]; simp) with z | z
      . exact absurd z hO
      . exact (CV hD z).elim
  . rcases s.zJ Da o with z | z
    . exact hO z
    . rw [hD] at z; cases z
 obtain ⟨s1, s2⟩ := w.src n i Fi ρi σi Hi si
 by_cases hlt : i < ds.length
 . right
   have hd : ds[i]? = some ds[i] := by simp [hlt]
   obtain ⟨go, step⟩ := s1 _ hd
   refine ⟨go, fun x H2 y => ?_⟩
   obtain ⟨F2, ext, rx⟩ := step x H2 y
   have t2 := ext.stp si.gs
   rw [List.drop_eq_getElem_cons hlt, turns] at ei
   cases hbd : cM ρi is one ds[i] with
   | none => rw [hbd] at ei; cases ei
   | some ρb =>
     rw [hbd] at ei
     obtain ⟨bb, ρc, eb, ei⟩ := ao ei
     refine hgo x _ F2 ρi ρb σi H2 _ t2.gs rx hbd fun σ2 sb htk => ?_
     have t3 := t2.trans sb
     refine ⟨F2, ρb, bb, ρc, t3.gs, eb, fun F4 H4 s4 => ?_⟩
     have t4 := t3.trans s4
     cases bb with
     | false =>
       rw [if_neg Bool.false_ne_true] at ei
       obtain ⟨y1, y2, y3⟩ := stay t4
       exact ⟨_, by omega, F4, ρc, acc, si.trans t4, htk.trans hσ, y1, y2, y3, rs.mono t4.cZ, by omega, rfl, hlt, ei⟩
     | true =>
       rw [if_pos rfl] at ei
       obtain ⟨re, ρe, ee, ei⟩ := ao ei
       refine (show Bj K el σ2 H4 _ from ⟨F4, ρc, re, ρe, t4.gs, ee, fun v F5 H5 s5 rr => ?_⟩)
       obtain ⟨F6, s6, _, rp⟩ := s5.gq rr
       have t6 := t4.trans s6
       obtain ⟨y1, y2, y3⟩ := stay t6
       have hlen : ys.length < sizeLine := by
        have h1 := rs.length
        have h2 : lim = sizeLine := rfl
        omega
       exact ⟨y1, hlen, _, by omega, F6, ρe, acc ++ [re.d], (si.trans t6).QR Ph y2 y3, htk.trans hσ, bh, y2, y3, (rs.mono t6.cZ).append (.cons rp .nil), by simp; omega, rfl, hlt, ei⟩
 . left
   have hdr : ds.drop i = [] := by rw [List.drop_eq_nil_iff]; omega
   rw [hdr, turns] at ei
   cases ei
   refine ⟨s2 (by omega), ?_⟩
   obtain ⟨l1, l2⟩ := cg.less (m := ρ1.length) rfl w.gs (by simp) si
   have hst : σi.take ρ1.length = σ := by rw [hl1, hm]; exact hσ
   rw [hst] at l1
   have rr : cL K Fi ρ2 σi Hi (ρ1 ++ List.replicate n .aV) (σ ++ List.replicate n none) H1 (.ref Da) (.own xs) := ⟨Da, ys, rfl, hD, hF, rs, hO, .inr Ph⟩
   have rr2 := l2 _ _ rr
   rw [hst] at rr2
   obtain ⟨z1, z2⟩ := w.fin _ _ _ _ l1
   exact k _ Fi Hi z1 (z2 _ _ rr2)
theorem wX {K : PySem.W.Frag} {F H : Hp} {ρ : List Sl} {σ : L2.St} {iv : Option Nat} {f : Ev} {is : List Nat} {one : Bool} {test : List Sl -> Res Bool} {el : Ev} {g : TG} {Q : VK} {r : R} {ρ' : List Sl} {m : Nat}
 (hm : σ.length = m) (hgo : qp K m is one g) (g0 : GS K F ρ σ H)
 (e : ((srcOf iv f ρ).bind fun ds ρ₁ => if ds.length <= lim then (turns is one test el ds [] (ρ₁ ++ List.replicate n .aV)).bind fun xs ρ₂ => Res.ok (R.own xs) (bB ρ iv (ρ₂.take ρ₁.length)) else .stuck) = .ok r ρ')
 (k : ∀ v F' H', cg K F ρ σ H F' ρ' σ H' -> cL K F' ρ' σ H' ρ σ H v r -> Q v H') :
 yd n (Z3 K iv f) g (Ih K test) (Bj K el) σ H Q := by
 obtain ⟨ds, ρ1, e1, e⟩ := ao e
 split at e
 . rename_i hlim
   obtain ⟨xs, ρ2, e2, e⟩ := ao e
   cases e
   exact zX hm hgo (fun R h => ⟨F, ρ, ds, ρ1, g0, e1, h⟩) hlim e2 k
 . cases e
theorem cT {g : TG} {is : List Nat} {one : Bool} {t : Option P} (hc : X.calm = true) (ok : fU X scope N' n) (hi : SI X c tg iter ps) (hg : ∀ cl C s₀ H₀ ex, PG (uF X scope N' cl C s₀ H₀ ex) tg g) (hgo : qp X.K X.N.length is one g)
 (ht : ∀ cl C s₀ H₀ ex, SQ (uF X scope N' cl C s₀ H₀ ex) c ifs t) (he : ∀ cl C s₀ H₀ ex, SX (uF X scope N' cl C s₀ H₀ ex) c elt pe)
 (hs : ∀ x, foldedSetIterable iter X.env x = pure x := by intro _; rfl) : SX X c (.ListComp elt [⟨tg, iter, ifs, 0⟩] scope pos) (.comp ps n is one t pe) := by
 refine ⟨KC (GF (tt := Ih X.K (pg c t)) (te := Bj X.K (HH.ev c pe)) hc ok hi hg ht (fun cl C s₀ H₀ ex => (he cl C s₀ H₀ ex).ev) hs) ?_, fun i h => by cases h⟩
 rintro σ H Q hl ⟨F, ρ, r, ρ', g0, e, k⟩
 rw [HH.ev] at e
 exact wX hl hgo g0 e k
theorem xm {i : Nat} {x : Str} {pos' spos : Pos} {nn : Nat} {g : TG} {is : List Nat} {one : Bool} {t : Option P} (hc : X.calm = true) (hN : X.N.Nodup) (hx0 : X.N[i]? = some x) (hx : Loc X.env.scope x) (ok : fU X scope N' n) (hi : SI X c tg iter ps)
 (hg : ∀ cl C s₀ H₀ ex, PG (uF X scope N' cl C s₀ H₀ ex) tg g) (hgo : qp X.K X.N.length is one g)
 (ht : ∀ cl C s₀ H₀ ex, SQ (uF X scope N' cl C s₀ H₀ ex) c ifs t) (he : ∀ cl C s₀ H₀ ex, SX (uF X scope N' cl C s₀ H₀ ex) c elt pe)
 (hsw : swapsWith (.ListComp elt [⟨tg, iter, ifs, 0⟩] scope pos) (some (.Name x pos')) spos.line X.env = pure true := by rfl)
 (hs : ∀ x, foldedSetIterable iter X.env x = pure x := by intro _; rfl) (hf : X.fn x = true \/ X.env.scope.names.lookup x = some .local := by first | exact .inl rfl | exact .inr rfl | assumption) :
 SS X c nn (.Assign [.Name x pos'] (.ListComp elt [⟨tg, iter, ifs, 0⟩] scope pos) spos) (.asg i (.comp ps n is one t pe)) := by
 refine Km (FW (tt := Ih X.K (pg c t)) (te := Bj X.K (HH.ev c pe)) hc hN hx0 hx ok hi hg ht (fun cl C s₀ H₀ ex => (he cl C s₀ H₀ ex).ev) hsw hs hf) ?_
 rintro D σ H hl ⟨F, ρ, fl, ρ', g0, e, k⟩
 rw [ex] at e
 obtain ⟨r, ρ1, e1, e⟩ := ao e
 obtain ⟨ρ2, ρ3, e2, e⟩ := ao e
 cases e
 have zz := aG e2; clear e2; obtain ⟨e2, e3⟩ := zz
 rw [HH.ev] at e1
 exact wX hl hgo g0 e1 fun v F1 H1 s1 rr => k F1 _ H1 (s1.put rr e2)
end
end HH
end
section
namespace HH
open PySem L2 PySem.Spec PyProof.Rows
section
variable {X : Cx} {c : Call} {n : Nat} {e a b d : Expr} {p pa pb pd : P} {pos : Pos} {es : List Expr} {ps : List P}
inductive WR (K : PySem.W.Frag) (f : List D -> Option R) (xs : List V) (H : Hp) (Q : VK) : Prop where
 | mk (F : Hp) (ds : List D) (r : R) (sm : aQ F H) (rs : aJ K F xs ds) (he : f ds = some r) (k : ∀ v F' H', Ext F H F' H' -> cD K F' H' H v r -> Q v H')
theorem HN {E : Expr} {f : List D -> Option R} {q : P} (hp : ∀ {t}, PA X es t -> PE X E (Uh (WR X.K f) t)) (ha : SA X c es ps)
 (hq : ∀ ρ, HH.ev c q ρ = (evs c ps ρ).bind fun ds ρ => lift (f ds) ρ) (hv : isVar q = none) : SX X c E q := by
 refine ⟨fX (hp ha.1) ?_, fun i h => by rw [hv] at h; cases h⟩
 rintro σ H Q ⟨F, ρ, r, ρ', g, e, k⟩
 rw [hq] at e
 obtain ⟨ds, ρ1, e1, e2⟩ := ao e
 have zz := aG e2; clear e2; obtain ⟨e2, e3⟩ := zz
 subst e3
 exact ⟨F, ρ, ds, ρ1, g, e1, fun vs F' H' s rs => ⟨F', ds, r, s.gs.sub, rs, e2, fun w F2 H2 x rn => k w F2 H2 (s.trans (x.stp s.gs)) (.later s (rn.pB s.gs))⟩⟩
theorem Ir {K : PySem.W.Frag} {F : Hp} {xs : List V} {i j : Int} (h : aJ K F xs [.int i, .int j]) : xs = [.int i, .int j] := by
 obtain ⟨v, r, rfl, h1, h2⟩ := h.cB
 obtain ⟨u, r2, rfl, h3, h4⟩ := h2.cB
 rw [Rep] at h1 h3
 rw [h1, h3, h4.gf]
theorem inv2 {f : U6} {g : Int -> Int -> Int} {ds : List D} {r : R} (h0 : blt f [] = none) (h1 : ∀ a, blt f [a] = none) (h3 : ∀ a b c l, blt f (a :: b :: c :: l) = none) (hn : ∀ a b, di a = false -> blt f [a, b] = none) (hm : ∀ i b, di b = false -> blt f [.int i, b] = none) (hi : ∀ i j, blt f [.int i, .int j] = some (.val (.int (g i j)))) (he : blt f ds = some r) : ∃ i j, ds = [.int i, .int j] /\ r = .val (.int (g i j)) := by
 rcases ds with _ | ⟨a, _ | ⟨b, _ | ⟨c, l⟩⟩⟩
 . rw [h0] at he; cases he
 . rw [h1] at he; cases he
 . by_cases ha : di a = true
   . obtain ⟨i, rfl⟩ : ∃ i, a = .int i := by cases a <;> first | exact ⟨_, rfl⟩ | cases ha
     by_cases hb : di b = true
     . obtain ⟨j, rfl⟩ : ∃ j, b = .int j := by cases b <;> first | exact ⟨_, rfl⟩ | cases hb
       rw [hi] at he; cases he; exact ⟨i, j, rfl, rfl⟩
     . rw [hm i b (by simpa using hb)] at he; cases he
   . rw [hn a b (by simpa using ha)] at he; cases he
 . rw [h3] at he; cases he
theorem Kg (hc : X.calm = true) : dq X (.builtin "min") (WR X.K (blt .min2)) := by
 rintro pins s σ H xs us Q I r ⟨F, ds, r', sm, rs, he, k⟩
 obtain ⟨i, j, rfl, rfl⟩ := inv2 (g := fun i j => if j < i then j else i) rfl (fun a => by cases a <;> rfl) (fun a b c l => by cases a <;> first | rfl | (cases b <;> rfl)) (fun a b h => by cases a <;> first | rfl | cases h) (fun i b h => by cases b <;> first | rfl | cases h) (fun _ _ => rfl) he
 rw [Ir rs] at r; exact yS hc pins s σ H _ us Q I r ⟨_, _, rfl, cD.dO sm (bZ _) k⟩
theorem KR (hc : X.calm = true) : dq X (.builtin "max") (WR X.K (blt .max2)) := by
 rintro pins s σ H xs us Q I r ⟨F, ds, r', sm, rs, he, k⟩
 obtain ⟨i, j, rfl, rfl⟩ := inv2 (g := fun i j => if i < j then j else i) rfl (fun a => by cases a <;> rfl) (fun a b c l => by cases a <;> first | rfl | (cases b <;> rfl)) (fun a b h => by cases a <;> first | rfl | cases h) (fun i b h => by cases b <;> first | rfl | cases h) (fun _ _ => rfl) he
 rw [Ir rs] at r; exact yQ hc pins s σ H _ us Q I r ⟨_, _, rfl, cD.dO sm (bZ _) k⟩
theorem boot_min : bootBuiltins "min" = some (.builtin "min") := by decide +kernel
theorem boot_max : bootBuiltins "max" = some (.builtin "max") := by decide +kernel
theorem yo {x : Str} {p' : Pos} (hx : x = "min") (hc : X.calm = true) (hg : Gl X x) (hm : X.mg x = none) (ha : SA X c [a, b] [pa, pb]) (hs : starEach [a, b] X.env = (false, eval a X.env) :: starEach [b] X.env := by rfl) (hpl : (backTo pos (starEach [b] X.env)).any (·.1) = false := by rfl) :
 SX X c (.Call (.Name x p') [a, b] [] pos) (.blt .min2 [pa, pb]) := by
 subst hx; exact HN (fun h => eY (Kg hc) hg hm boot_min h (he := hs) (hpl := hpl)) ha (fun ρ => by rw [HH.ev]; intro a h; cases h) rfl
theorem mR {x : Str} {p' : Pos} (hx : x = "max") (hc : X.calm = true) (hg : Gl X x) (hm : X.mg x = none) (ha : SA X c [a, b] [pa, pb]) (hs : starEach [a, b] X.env = (false, eval a X.env) :: starEach [b] X.env := by rfl) (hpl : (backTo pos (starEach [b] X.env)).any (·.1) = false := by rfl) :
 SX X c (.Call (.Name x p') [a, b] [] pos) (.blt .max2 [pa, pb]) := by
 subst hx; exact HN (fun h => eY (KR hc) hg hm boot_max h (he := hs) (hpl := hpl)) ha (fun ρ => by rw [HH.ev]; intro a h; cases h) rfl
end
end HH
end
section
namespace HH
open PySem L2 PySem.Spec PyProof.Rows
section
variable {X : Cx} {c : Call} {n : Nat} {e a b d : Expr} {p pa pb pd : P} {pos : Pos} {es : List Expr} {ps : List P}
theorem Er {K : PySem.W.Frag} {F H : Hp} {ρ : List Sl} {σ : L2.St} {i : Nat} {ds : List D} (g : GS K F ρ σ H) (h : Ks ρ i = some ds) : ∃ a xs, σ[i]? = some (some (V.ref a)) /\ gw K H a xs := by
 unfold Ks at h
 split at h
 . rename_i q
   cases h
   obtain ⟨v, h1, h2⟩ := g.pk q
   obtain ⟨a, xs, rfl, h3, _⟩ := h2.lst g.sub
   exact ⟨a, xs, h1, h3⟩
 . cases h
theorem rN {x : Str} {k : Nat} {px tpos : Pos} (hN : X.N[k]? = some x) (hv : xU X.env.scope x) (hi : SX X c b pb) (he : SX X c e p)
 (ha : ∀ v, assign (.Subscript (.Name x px) b tpos) X.env v = (do
  let ov <- holding [v] (eval (.Name x px) X.env)
  let iv <- holding [v, ov] (eval b X.env)
  standAt tpos
  holding [v, ov, iv] (setItem ov iv v)
  release [v, ov, iv] []) := by intro _; rfl)
 (hs : swapsWithSole [.Subscript (.Name x px) b tpos] e pos.line X.env = pure false := by rfl) (hw : swappedStores [.Subscript (.Name x px) b tpos] e X.env = pure none := by rfl)
 (h1 : (assignEach [.Subscript (.Name x px) b tpos] X.env).map (·.2) = [assign (.Subscript (.Name x px) b tpos) X.env] := by rfl) (hd : (x == ("__debug__" : Str)) = false := by decide) (hcd : (x == ("__classdict__" : Str)) = false := by decide) :
 SS X c n (.Assign [.Subscript (.Name x px) b tpos] e pos) (.DP k pb p) := by
 obtain ⟨ti, hi1, hi2⟩ := hi.fj
 refine fV (Ce he.ev (Jq (gO hN hv hd hcd) hi1 set_list ha) hs hw h1) ?_
 rintro D σ H ⟨F, ρ, fl, ρ', g, e, kk⟩
 rw [ex] at e
 obtain ⟨r, ρ1, e1, e⟩ := ao e
 obtain ⟨x0, ρ1', e0, e⟩ := ao e
 have zz := aG e0; clear e0; obtain ⟨e0, zK⟩ := zz
 subst zK
 obtain ⟨dk, ρ2, e2, e⟩ := ao e
 refine ⟨F, ρ, r, ρ1, g, e1, fun v F1 H1 s1 rr => ?_⟩
 obtain ⟨F2, s2, _, rp⟩ := s1.gq rr
 obtain ⟨o, ho, _⟩ := s2.gs.pk e0
 refine ⟨o, ho, hi2 s2.gs e2 fun vi F3 H3 s3 pi => ?_⟩
 split at e
 . rename_i bb ds kk' q
   split at e
   . rename_i j hj
     cases e
     obtain ⟨ad, xs, q1, q2, q3, q4⟩ := s3.gs.qW k _ ds q rfl
     rw [ho] at q1; cases q1
     refine ⟨ad, xs, kk', j, rfl, pi.int, q2, by rw [q4.length]; exact hj, ?_⟩
     exact kk F3 σ _ ((s2.trans s3).trans (s3.gs.mut q ho (q4.set (rp.mono s3.cZ) j)))
   . cases e
 . cases e
theorem iw {x : Str} {k : Nat} {px apos cpos : Pos} (hN : X.N[k]? = some x) (hv : xU X.env.scope x) (he : SX X c e p) (hline : (apos.endLine == cpos.line) = true := by rfl) (hs : starEach [e] X.env = (false, eval e X.env) :: starEach [] X.env := by rfl)
 (hbase : attributeBase (.Name x px) "append" X.env (eval (.Name x px) X.env) = eval (.Name x px) X.env := by rfl)
 (hfew : ((backTo cpos (starEach [e] X.env)).all (fun x => !x.1) && (backToKw cpos (keywordEach [] X.env)).all (fun x => x.1.isSome)
  && decide ([e].length + ([] : List Keyword).length + (if ([] : List Keyword).isEmpty then 0 else 1) < 30)) = true := by rfl)
 (hsw : swapsWith (.Call (.Attribute (.Name x px) "append" apos) [e] [] cpos) none pos.line X.env = pure false := by rfl)
 (hd : (x == ("__debug__" : Str)) = false := by decide) (hcd : (x == ("__classdict__" : Str)) = false := by decide) : SS X c n (.Expr (.Call (.Attribute (.Name x px) "append" apos) [e] [] cpos) pos) (.app k p) := by
 refine fV (Ff (R5 PySem.F.plainAttrs_list PySem.F.slot_list_append PySem.F.type_list_append pQ (gO hN hv hd hcd) (eN he.ev jn hs) hbase hfew hline hs) hsw) ?_
 rintro D σ H ⟨F, ρ, fl, ρ', g, e, kk⟩
 rw [ex] at e
 obtain ⟨d0, ρ0, e0, e⟩ := ao e
 have zz := aG e0; clear e0; obtain ⟨e0, zK⟩ := zz
 subst zK
 obtain ⟨r, ρ1, e1, e⟩ := ao e
 obtain ⟨a, xs, h1, h2⟩ := Er g e0
 refine ⟨.ref a, h1, .inl ⟨rfl, xs, h2⟩, F, ρ, r, ρ1, g, e1, fun v F1 H1 s1 rr => ?_⟩
 obtain ⟨F2, s2, _, rp⟩ := s1.gq rr
 split at e
 . rename_i bb ds q
   split at e
   . rename_i hlt
     cases e
     obtain ⟨ad, ys, q1, q2, q3, q4⟩ := s2.gs.qW k _ ds q rfl
     rw [h1] at q1; cases q1
     exact ⟨_, ys, v, rfl, rfl, q2, by rw [q4.length]; exact hlt, kk F2 σ _ (s2.trans (s2.gs.mut q h1 (q4.append (.cons rp .nil))))⟩
   . cases e
 . cases e
theorem BL {i j : Nat} {x y : Str} {px py pt : Pos} {kt k2 Mw} (hc : X.calm = true) (hN : X.N.Nodup) (hi : X.N[i]? = some x) (hj : X.N[j]? = some y) (hij : i ≠ j)
 (hx : X.env.scope.names.lookup x = some .local) (hy : X.env.scope.names.lookup y = some .local) (ha : SX X c a pa) (hb : SX X c b pb)
 (hw : swappedStores [.Tuple [.Name x px, .Name y py] kt pt] (.Tuple [a, b] k2 Mw) X.env = pure (some [x, y]) := by rfl)
 (hs : swapsWithSole [.Tuple [.Name x px, .Name y py] kt pt] (.Tuple [a, b] k2 Mw) pos.line X.env = pure false := by rfl)
 (h1 : starEach [a, b] X.env = (false, eval a X.env) :: starEach [b] X.env := by rfl) (h2 : starEach [b] X.env = (false, eval b X.env) :: starEach [] X.env := by rfl) :
 SS X c n (.Assign [.Tuple [.Name x px, .Name y py] kt pt] (.Tuple [a, b] k2 Mw) pos) (.par i j pa pb) := by
 refine fV (L2.Ld hc hN hi hj hij hx hy (eN ha.ev (eN hb.ev jn h2) h1) hw hs) ?_
 rintro D σ H ⟨F, ρ, fl, ρ', g, e, k⟩
 rw [ex] at e
 obtain ⟨r, ρ1, e1, e⟩ := ao e
 obtain ⟨r2, ρ2, e2, e⟩ := ao e
 obtain ⟨ρ3, ρ4, e3, e⟩ := ao e
 cases e
 have zz := aG e3; clear e3; obtain ⟨e3, e4⟩ := zz
 obtain ⟨ρ5, e5, e6⟩ := dC e3
 refine ⟨F, ρ, r, ρ1, g, e1, fun v F1 H1 s1 rr => ?_⟩
 obtain ⟨F2, s2, _, rp⟩ := s1.gq rr
 refine ⟨F2, ρ1, r2, ρ2, s2.gs, e2, fun u F3 H3 s3 rr3 => ?_⟩
 obtain ⟨F4, s4, _, rp4⟩ := s3.gq rr3
 refine ⟨v, u, rfl, ?_⟩
 have t4 := s2.trans s4
 have t5 := t4.put (r := .val r.d) (v := v) (rp.mono s4.cZ) e5
 exact k F4 _ H3 (t5.put (r := .val r2.d) (v := u) rp4 e6)
theorem Az {ds : List D} {bs : List Bool} (h : ds.mapM uJ = some bs) : ds = bs.map D.bl := by
 induction ds generalizing bs with
 | nil => simp at h; subst h; rfl
 | cons d ds ih =>
   rw [List.mapM_cons] at h
   cases hd : uJ d with
   | none => rw [hd] at h; cases h
   | some k =>
     rw [hd] at h
     cases hr : ds.mapM uJ with
     | none => rw [hr] at h; cases h
     | some r => rw [hr] at h; cases h; rw [List.map_cons, <- ih hr, m9 hd]
theorem xR {K : PySem.W.Frag} {F : Hp} : ∀ {bs : List Bool} {xs : List V}, aJ K F xs (bs.map D.bl) -> xs = bs.map V.bl
 | [], _, h => h.gf
 | k :: bs, _, h => by
   obtain ⟨v, r, rfl, h1, h2⟩ := h.cB
   rw [Rep] at h1
   rw [h1, xR h2]; rfl
theorem xG : ∀ {bs : List Bool} {us : List Value}, Vals (bs.map V.bl) us -> us = bs.map Value.bool
 | [], _, h => h.zero
 | k :: bs, _, .cons r t => by rw [List.map_cons, <- xG t, show _ = _ from r]
theorem Fo {id : String} {f : List Bool -> Bool} (hc : X.calm = true)
 (rule : ∀ {x : Value} {Q : Value -> Shared -> Prop} {s : Shared}, wpAny (model X.prog X.w) X.A.in1 (pyIter x) (fun it s₂ => ∃ I fp wr n P St tr, it = .ref I /\ Walks X.prog X.w X.A.in1 I fp wr n P St /\ St 0 s₂.heap /\ TruthOf X.prog X.w X.A.in1 P tr /\
  ∀ h' tk, (∀ b o, b ∉ wr -> s₂.heap.get? b = some o -> h'.get? b = some o) -> Q (.bool (f ((List.range n).map tr))) { s₂ with heap := h', toks := tk }) X.xe s -> wpAny (model X.prog X.w) X.A (call (.builtin id) [x]) Q X.xe s) :
 dq X (.builtin id) (fun xs H Q => ∃ p ys bs, xs = [.ref p] /\ gw X.K H p ys /\ ys = bs.map V.bl /\ Q (.bl (f bs)) H) := by
 rintro pins s σ H xs us Q I r ⟨p, ys, bs, hx, hq, hy, k⟩
 subst hx; subst hy
 obtain ⟨u, rfl, rx⟩ := r.one
 cases rx
 obtain ⟨its, rv, pl, hz⟩ := I.list hq
 have hits := xG rv
 subst hits
 refine rule (wpAny_pyIter_list pl.isList ?_)
 have hne : p ≠ s.heap.objs.size := by
  obtain ⟨o, h1, _⟩ := pl.isList
  exact Nat.ne_of_lt (Heap.lt_size h1)
 refine ⟨s.heap.objs.size, _, _, _, _, _, fun i => bs.getD i false, rfl, Walks.list (prog := X.prog) (w := X.w) (A := X.A.in1) (show X.A.in1.handled = none from I.ok.hd hc) s.heap.objs.size p hne (bs.map Value.bool).toArray, ⟨⟨_, Heap.get?_push_size _ rfl, rfl, rfl⟩, ?_⟩, ?_, fun h' tk kp => ?_⟩
 . obtain ⟨o, h1, h2⟩ := pl.isList
   exact ⟨o, Heap.get?_push_of_some _ h1, h2⟩
 . intro i v s' Q' E' hP hQ
   have hv : v = .bool (bs.getD i false) := by
    have hP : (bs.map Value.bool)[i]? = some v := by simpa using hP
    rw [List.getElem?_map] at hP
    obtain ⟨k', e1, e2⟩ := map_some hP
    rw [<- e2, List.getD_eq_getElem?_getD, e1]; rfl
   subst hv
   exact wpAny_truthy_bool hQ
 . have e : f ((List.range (bs.map Value.bool).toArray.size).map fun i => bs.getD i false) = f bs := by
    congr 1
    apply List.ext_getElem
    . simp
    . intro i h1 h2
      simp at h1
      simp [h1]
   rw [e]
   exact ⟨.bl _, H, I.kept (fun b o z => kp b o (by simp; exact Nat.ne_of_lt (Heap.lt_size z)) (Heap.get?_push_of_some _ z)), rfl, k⟩
theorem QF (hc : X.calm = true) : dq X (.builtin "all") (Ed X.K fun x => blt .all [x]) := by
 rintro pins s σ H xs us Q I r ⟨x, hx, F, d, r', sm, px, he, k⟩
 obtain ⟨bs, e1, he⟩ := map_some (show ((lF d).bind fun ds => ds.mapM uJ).map _ = some r' from he)
 subst he
 obtain ⟨ds, e2, e3⟩ := dC e1
 have e4 := Az e3
 cases d with
 | lst es =>
   cases e2
   obtain ⟨p, ys, rfl, hq, rs⟩ := px.lst sm
   rw [e4] at rs
   refine Fo (f := fun bs => bs.all id) hc (fun h => call_all_walk (wpAny_mono h (fun it s₂ ⟨I, fp, wr, n, P, Sx, tr, h1, h2, h3, h4, h5⟩ => ⟨I, fp, wr, n, P, Sx, tr, h1, h2, h3, h4, fun h' tk kp => ?_⟩) fun _ _ z => z)) pins s σ H xs us Q I r ⟨p, ys, bs, hx, hq, xR rs, cD.dO sm (jf _) k⟩
   have z := h5 h' tk kp
   rw [List.all_map] at z
   exact z
 | _ => cases e2
theorem boot_all : bootBuiltins "all" = some (.builtin "all") := by decide +kernel
theorem rH {x : Str} {p' : Pos} (hx : x = "all") (hc : X.calm = true) (hg : Gl X x) (hm : X.mg x = none) (ha : SX X c a pa) (hs : starEach [a] X.env = (false, eval a X.env) :: starEach [] X.env := by rfl) : SX X c (.Call (.Name x p') [a] [] pos) (.blt .all [pa]) := by
 subst hx; exact jE (fun h => eY (QF hc) hg hm boot_all h (he := hs)) ha (fun ρ => by rw [HH.ev]) rfl hs
end
end HH
end
section
namespace HH
open PySem L2 PySem.Spec PyProof.Rows
section
variable {K : PySem.W.Frag}
theorem iH : ∀ {xs ys : List D}, xs.length ≠ ys.length -> gR xs ys = false
 | [], [], h => absurd rfl h
 | [], _ :: _, _ => by simp [gR]
 | _ :: _, [], _ => by simp [gR]
 | x :: xs, y :: ys, h => by
   rw [gR, iH (xs := xs) (ys := ys) (by simpa using h), Bool.and_false]
theorem fW : ∀ {xs ys : List D}, xs.length = ys.length -> gR xs ys = (List.range xs.length).all fun j => bL (xs.getD j .non) (ys.getD j .non)
 | [], [], _ => by rw [gR]; rfl
 | [], _ :: _, h => by simp at h
 | _ :: _, [], h => by simp at h
 | x :: xs, y :: ys, h => by
   rw [gR, fW (xs := xs) (ys := ys) (by simpa using h), List.length_cons, List.range_succ_eq_map, List.all_cons, List.all_map]
   rfl
mutual
theorem uA : ∀ d : D, bL d d = true
 | .non => by rw [bL]
 | .bl _ => by rw [bL]; simp
 | .int _ => by rw [bL]; simp
 | .str _ => by rw [bL]; simp
 | .tup ds => by rw [bL]; exact lG ds
 | .lst ds => by rw [bL]; exact lG ds
 | .cQ _ => by rw [bL]; simp
theorem lG : ∀ ds : List D, gR ds ds = true
 | [] => by rw [gR]
 | d :: ds => by rw [gR, uA d, lG ds]; rfl
end
theorem eO {F : Hp} {d e : D} {v : V} (hf : flat d = true) (h1 : Rep K F v d) (h2 : Rep K F v e) : d = e := by
 cases d with
 | tup _ => cases hf
 | lst _ => cases hf
 | cQ _ => cases hf
 | non =>
   rw [Rep] at h1; subst h1
   cases e with
   | non => rfl
   | tup _ => rw [Rep] at h2; obtain ⟨_, _, q, _⟩ := h2; cases q
   | lst _ => rw [Rep] at h2; obtain ⟨_, _, q, _⟩ := h2; cases q
   | cQ _ => rw [Rep] at h2; obtain ⟨_, _, q, _⟩ := h2; cases q
   | _ => rw [Rep] at h2; cases h2
 | bl k =>
   rw [Rep] at h1; subst h1
   cases e with
   | bl _ => rw [Rep] at h2; cases h2; rfl
   | tup _ => rw [Rep] at h2; obtain ⟨_, _, q, _⟩ := h2; cases q
   | lst _ => rw [Rep] at h2; obtain ⟨_, _, q, _⟩ := h2; cases q
   | cQ _ => rw [Rep] at h2; obtain ⟨_, _, q, _⟩ := h2; cases q
   | _ => rw [Rep] at h2; cases h2
 | int k =>
   rw [Rep] at h1; subst h1
   cases e with
   | int _ => rw [Rep] at h2; cases h2; rfl
   | tup _ => rw [Rep] at h2; obtain ⟨_, _, q, _⟩ := h2; cases q
   | lst _ => rw [Rep] at h2; obtain ⟨_, _, q, _⟩ := h2; cases q
   | cQ _ => rw [Rep] at h2; obtain ⟨_, _, q, _⟩ := h2; cases q
   | _ => rw [Rep] at h2; cases h2
 | str k =>
   rw [Rep] at h1; subst h1
   cases e with
   | str _ => rw [Rep] at h2; cases h2; rfl
   | tup _ => rw [Rep] at h2; obtain ⟨_, _, q, _⟩ := h2; cases q
   | lst _ => rw [Rep] at h2; obtain ⟨_, _, q, _⟩ := h2; cases q
   | cQ _ => rw [Rep] at h2; obtain ⟨_, _, q, _⟩ := h2; cases q
   | _ => rw [Rep] at h2; cases h2
theorem Fj {X : Cx} {pins : List (Addr × Obj)} {σ : L2.St} {H F : Hp} {s : Shared} (I : L2.Inv X pins σ H s) (sm : aQ F H) :
 ∀ n : Nat, (∀ d : D, dR n d = true -> ∀ (v : V) (e : D), Rep X.K F v d -> Rep X.K F v e -> d = e) := by
 have tl : ∀ {a : Addr} {xs ys : List V}, iY X.K F a xs -> gw X.K F a ys -> False := fun {a xs ys} h1 h2 => by
  obtain ⟨_, _, ⟨o, q1, q2, _⟩, _⟩ := I.tuple (aQ.iZ sm h1)
  obtain ⟨_, _, pl, _⟩ := I.list (sm.seq h2)
  obtain ⟨o', q3, q4, _⟩ := pl.isList
  rw [q1] at q3; cases q3
  rw [q2] at q4
  exact absurd q4 (by decide)
 have dd : ∀ {a : Addr} {kvs : Dc}, Rep X.K F (.ref a) (.cQ kvs) -> ∃ o, s.heap.get? a = some o /\ o.cls = .type "dict" := fun {a kvs} h => by
  rw [Rep] at h
  obtain ⟨a', _, q, hq⟩ := h
  cases q
  exact Ln I (sm _ _ hq)
 have td : ∀ {a : Addr} {xs : List V} {kvs : Dc}, iY X.K F a xs -> Rep X.K F (.ref a) (.cQ kvs) -> False := fun {a xs kvs} h1 h2 => by
  obtain ⟨_, _, ⟨o, q1, q2, _⟩, _⟩ := I.tuple (aQ.iZ sm h1)
  obtain ⟨o', q3, q4⟩ := dd h2
  rw [q1] at q3; cases q3
  rw [q2] at q4
  exact absurd q4 (by decide)
 have ld : ∀ {a : Addr} {xs : List V} {kvs : Dc}, gw X.K F a xs -> Rep X.K F (.ref a) (.cQ kvs) -> False := fun {a xs kvs} h1 h2 => by
  obtain ⟨_, _, pl, _⟩ := I.list (sm.seq h1)
  obtain ⟨o, q1, q2, _⟩ := pl.isList
  obtain ⟨o', q3, q4⟩ := dd h2
  rw [q1] at q3; cases q3
  rw [q2] at q4
  exact absurd q4 (by decide)
 intro n
 induction n with
 | zero =>
   intro d hd v e h1 h2
   cases d with
   | tup _ => simp [dR] at hd
   | lst _ => simp [dR] at hd
   | cQ _ => simp [dR] at hd
   | non => exact eO rfl h1 h2
   | bl k => exact eO rfl h1 h2
   | int k => exact eO rfl h1 h2
   | str k => exact eO rfl h1 h2
 | succ n ih =>
   have all : ∀ {xs : List V} {ds es : List D}, ds.all (dR n) = true -> aJ X.K F xs ds -> aJ X.K F xs es -> ds = es := fun {xs ds} => by
    induction ds generalizing xs with
    | nil =>
      intro es _ h1 h2
      rw [h1.gf] at h2
      have := h2.length
      exact (List.eq_nil_of_length_eq_zero this.symm).symm
    | cons d ds ih2 =>
      intro es ha h1 h2
      rw [List.all_cons, Bool.and_eq_true] at ha
      obtain ⟨v, r, rfl, q1, q2⟩ := h1.cB
      cases es with
      | nil => cases h2.gf
      | cons e es =>
        obtain ⟨v', r', q0, q3, q4⟩ := h2.cB
        cases q0
        rw [ih d ha.1 v e q1 q3, ih2 ha.2 q2 q4]
   intro d hd v e h1 h2
   cases d with
   | cQ _ => simp [dR] at hd
   | tup ds =>
     have ha : ds.all (dR n) = true := by simpa [dR] using hd
     rw [Rep] at h1
     obtain ⟨a, xs, rfl, z1, z2⟩ := h1
     cases e with
     | tup es =>
       rw [Rep] at h2
       obtain ⟨a', ys, q, w1, w2⟩ := h2
       cases q
       have := I.kJ (aQ.iZ sm z1) (aQ.iZ sm w1)
       subst this
       rw [all ha z2 w2]
     | lst es => rw [Rep] at h2; obtain ⟨a', ys, q, w1, w2⟩ := h2; cases q; exact (tl z1 w1).elim
     | cQ _ => exact (td z1 h2).elim
     | _ => rw [Rep] at h2; cases h2
   | lst ds =>
     have ha : ds.all (dR n) = true := by simpa [dR] using hd
     rw [Rep] at h1
     obtain ⟨a, xs, rfl, z1, z2⟩ := h1
     cases e with
     | lst es =>
       rw [Rep] at h2
       obtain ⟨a', ys, q, w1, w2⟩ := h2
       cases q
       have := I.oK (sm.seq z1) (sm.seq w1)
       subst this
       rw [all ha z2 w2]
     | tup es => rw [Rep] at h2; obtain ⟨a', ys, q, w1, w2⟩ := h2; cases q; exact (tl w1 z1).elim
     | cQ _ => exact (ld z1 h2).elim
     | _ => rw [Rep] at h2; cases h2
   | non => exact eO rfl h1 h2
   | bl k => exact eO rfl h1 h2
   | int k => exact eO rfl h1 h2
   | str k => exact eO rfl h1 h2
theorem yj {A : Around} {s : Shared} {F : Hp} {d e : D} {v u : V} {v' u' : Value} (hd : flat d = true) (he : flat e = true) (h1 : Rep K F v d) (h2 : Rep K F u e) (r1 : RelV v v') (r2 : RelV u u') : SeqAt.EqAt A s v' u' (bL d e) := by
 cases d with
 | tup _ => cases hd
 | lst _ => cases hd
 | cQ _ => cases hd
 | non =>
   rw [Rep] at h1; subst h1; cases (show v' = .none from r1)
   cases e with
   | tup _ => cases he
   | lst _ => cases he
   | cQ _ => cases he
   | non => rw [Rep] at h2; subst h2; cases (show u' = .none from r2); rw [bL]; exact SeqAt.EqAt.same _
   | bl _ => rw [Rep] at h2; subst h2; cases (show u' = .bool _ from r2); simp only [bL]; exact SeqAt.EqAt.none_bool _
   | int _ => rw [Rep] at h2; subst h2; obtain ⟨t, rfl⟩ := r2; simp only [bL]; exact SeqAt.EqAt.none_int _ _
   | str _ => rw [Rep] at h2; subst h2; obtain ⟨t, rfl⟩ := r2; simp only [bL]; exact SeqAt.EqAt.none_str _ _
 | bl _ =>
   rw [Rep] at h1; subst h1; cases (show v' = .bool _ from r1)
   cases e with
   | tup _ => cases he
   | lst _ => cases he
   | cQ _ => cases he
   | non => rw [Rep] at h2; subst h2; cases (show u' = .none from r2); simp only [bL]; exact SeqAt.EqAt.bool_none _
   | bl _ => rw [Rep] at h2; subst h2; cases (show u' = .bool _ from r2); simp only [bL]; exact SeqAt.EqAt.bool_bool _ _
   | int _ => rw [Rep] at h2; subst h2; obtain ⟨t, rfl⟩ := r2; simp only [bL]; exact SeqAt.EqAt.bool_int _ _ _
   | str _ => rw [Rep] at h2; subst h2; obtain ⟨t, rfl⟩ := r2; simp only [bL]; exact SeqAt.EqAt.bool_str _ _ _
 | int _ =>
   rw [Rep] at h1; subst h1; obtain ⟨t0, rfl⟩ := r1
   cases e with
   | tup _ => cases he
   | lst _ => cases he
   | cQ _ => cases he
   | non => rw [Rep] at h2; subst h2; cases (show u' = .none from r2); simp only [bL]; exact SeqAt.EqAt.int_none _ _
   | bl _ => rw [Rep] at h2; subst h2; cases (show u' = .bool _ from r2); simp only [bL]; exact SeqAt.EqAt.int_bool _ _ _
   | int _ => rw [Rep] at h2; subst h2; obtain ⟨t, rfl⟩ := r2; simp only [bL]; exact SeqAt.EqAt.int_int _ _ _ _
   | str _ => rw [Rep] at h2; subst h2; obtain ⟨t, rfl⟩ := r2; simp only [bL]; exact SeqAt.EqAt.int_str _ _ _ _
 | str _ =>
   rw [Rep] at h1; subst h1; obtain ⟨t0, rfl⟩ := r1
   cases e with
   | tup _ => cases he
   | lst _ => cases he
   | cQ _ => cases he
   | non => rw [Rep] at h2; subst h2; cases (show u' = .none from r2); simp only [bL]; exact SeqAt.EqAt.str_none _ _
   | bl _ => rw [Rep] at h2; subst h2; cases (show u' = .bool _ from r2); simp only [bL]; exact SeqAt.EqAt.str_bool _ _ _
   | int _ => rw [Rep] at h2; subst h2; obtain ⟨t, rfl⟩ := r2; simp only [bL]; exact SeqAt.EqAt.str_int _ _ _ _
   | str _ => rw [Rep] at h2; subst h2; obtain ⟨t, rfl⟩ := r2; simp only [bL]; exact SeqAt.EqAt.str_str _ _ _ _
theorem jH {A : Around} {s : Shared} {F : Hp} {ds : List D} {e : D} {u : V} {u' : Value} {a : Addr} {its : Array Value} (ht : s.heap.IsTuple a its) (hu : A.units < cLine) (he : flat e = true) (h2 : Rep K F u e) (r2 : RelV u u') :
 SeqAt.EqAt A s (.ref a) u' (bL (.tup ds) e) /\ SeqAt.EqAt A s u' (.ref a) (bL e (.tup ds)) := by
 cases e with
 | tup _ => cases he
 | lst _ => cases he
 | cQ _ => cases he
 | non => rw [Rep] at h2; subst h2; cases (show u' = .none from r2); simp only [bL]; exact ⟨SeqAt.EqAt.tuple_none ht hu, SeqAt.EqAt.none_tuple ht hu⟩
 | bl _ => rw [Rep] at h2; subst h2; cases (show u' = .bool _ from r2); simp only [bL]; exact ⟨SeqAt.EqAt.tuple_bool _ ht hu, SeqAt.EqAt.bool_tuple _ ht hu⟩
 | int _ => rw [Rep] at h2; subst h2; obtain ⟨t, rfl⟩ := r2; simp only [bL]; exact ⟨SeqAt.EqAt.tuple_int _ _ ht hu, SeqAt.EqAt.int_tuple _ _ ht hu⟩
 | str _ => rw [Rep] at h2; subst h2; obtain ⟨t, rfl⟩ := r2; simp only [bL]; exact ⟨SeqAt.EqAt.tuple_str _ _ ht hu, SeqAt.EqAt.str_tuple _ _ ht hu⟩
theorem jM {A : Around} {s : Shared} {F : Hp} {ds : List D} {e : D} {u : V} {u' : Value} {a : Addr} {its : Array Value} (ht : s.heap.IsList a its) (hu : A.units < cLine) (he : flat e = true) (h2 : Rep K F u e) (r2 : RelV u u') :
 SeqAt.EqAt A s (.ref a) u' (bL (.lst ds) e) /\ SeqAt.EqAt A s u' (.ref a) (bL e (.lst ds)) := by
 cases e with
 | tup _ => cases he
 | lst _ => cases he
 | cQ _ => cases he
 | non => rw [Rep] at h2; subst h2; cases (show u' = .none from r2); simp only [bL]; exact ⟨SeqAt.EqAt.list_none ht hu, SeqAt.EqAt.none_list ht hu⟩
 | bl _ => rw [Rep] at h2; subst h2; cases (show u' = .bool _ from r2); simp only [bL]; exact ⟨SeqAt.EqAt.list_bool _ ht hu, SeqAt.EqAt.bool_list _ ht hu⟩
 | int _ => rw [Rep] at h2; subst h2; obtain ⟨t, rfl⟩ := r2; simp only [bL]; exact ⟨SeqAt.EqAt.list_int _ _ ht hu, SeqAt.EqAt.int_list _ _ ht hu⟩
 | str _ => rw [Rep] at h2; subst h2; obtain ⟨t, rfl⟩ := r2; simp only [bL]; exact ⟨SeqAt.EqAt.list_str _ _ ht hu, SeqAt.EqAt.str_list _ _ ht hu⟩
theorem sY {n : Nat} {d : D} (h : dR n d = true) (h0 : n = 0) : flat d = true := by
 subst h0; cases d <;> first | rfl | simp [dR] at h
theorem Xz {X : Cx} {pins : List (Addr × Obj)} {σ : L2.St} {H F : Hp} {s : Shared} (I : L2.Inv X pins σ H s) (sm : aQ F H) : ∀ (n : Nat) (A : Around), A.units + n < cLine -> ∀ (d e : D), dR n d = true -> dR n e = true -> ∀ (v u : V) (v' u' : Value),
 Rep X.K F v d -> Rep X.K F u e -> RelV v v' -> RelV u u' -> SeqAt.EqAt A s v' u' (bL d e) := by
 intro n
 induction n with
 | zero =>
   intro A hu d e hd he v u v' u' h1 h2 r1 r2
   exact yj (sY hd rfl) (sY he rfl) h1 h2 r1 r2
 | succ n ih =>
   intro A hu d e hd he v u v' u' h1 h2 r1 r2
   have hu0 : A.units < cLine := by omega
   have hu1 : A.in1.units + n < cLine := by show A.units + 1 + n < cLine; omega
   -- items by place
   have at_ : ∀ {xs ys : List V} {us ws : List Value} {ds es : List D} {j : Nat} (k1 : j < us.toArray.size) (k2 : j < ws.toArray.size), ds.all (dR n) = true -> es.all (dR n) = true -> Vals xs us -> Vals ys ws -> aJ X.K F xs ds -> aJ X.K F ys es ->
    SeqAt.EqAt A.in1 s us.toArray[j] ws.toArray[j] (bL (ds.getD j .non) (es.getD j .non)) := fun {xs ys us ws ds es j} k1 k2 a1 a2 v1 v2 p1 p2 => by
    have k1 : j < us.length := by simpa using k1
    have k2 : j < ws.length := by simpa using k2
    have l1 : j < ds.length := by rw [<- p1.length, v1.length]; exact k1
    have l2 : j < es.length := by rw [<- p2.length, v2.length]; exact k2
    obtain ⟨x, g1, g2⟩ := p1.get (show ds[j]? = some ds[j] by simp [l1])
    obtain ⟨y, g3, g4⟩ := p2.get (show es[j]? = some es[j] by simp [l2])
    obtain ⟨x', g5, g6⟩ := v1.get g1
    obtain ⟨y', g7, g8⟩ := v2.get g3
    have e1 : us.toArray[j] = x' := by have := (List.getElem?_eq_some_iff.mp g5).2; simpa using this
    have e2 : ws.toArray[j] = y' := by have := (List.getElem?_eq_some_iff.mp g7).2; simpa using this
    have e3 : ds.getD j .non = ds[j] := by simp [List.getD, l1]
    have e4 : es.getD j .non = es[j] := by simp [List.getD, l2]
    rw [e1, e2, e3, e4]
    exact ih A.in1 hu1 _ _ (List.all_eq_true.mp a1 _ (List.getElem_mem l1)) (List.all_eq_true.mp a2 _ (List.getElem_mem l2)) x y x' y' g2 g4 g6 g8
   -- the same object
   have same : ∀ {a : Addr}, v = .ref a -> u = .ref a -> SeqAt.EqAt A s v' u' (bL d e) := fun {a} q1 q2 => by
    subst q1; subst q2
    have := Fj I sm (n + 1) d hd _ e h1 h2
    subst this
    rw [uA]
    cases r1; cases r2
    exact SeqAt.EqAt.same _
   cases d with
   | cQ _ => simp [dR] at hd
   | tup ds =>
     have ha : ds.all (dR n) = true := by simpa [dR] using hd
     have h1' := h1
     rw [Rep] at h1'
     obtain ⟨a, xs, rfl, z1, z2⟩ := h1'
     cases r1
     obtain ⟨us, v1, p1, _⟩ := I.tuple (aQ.iZ sm z1)
     cases e with
     | cQ _ => simp [dR] at he
     | tup es =>
       have hb : es.all (dR n) = true := by simpa [dR] using he
       have h2' := h2
       rw [Rep] at h2'
       obtain ⟨b, ys, rfl, w1, w2⟩ := h2'
       by_cases hab : a = b
       . subst hab; exact same rfl rfl
       . cases r2
         obtain ⟨ws, v2, p2, _⟩ := I.tuple (aQ.iZ sm w1)
         refine .of_refs hab ?_
         have z := SeqAt.RcAt.tuples (A := A) (e := fun j => bL (ds.getD j .non) (es.getD j .non)) p1 p2 hu0 fun j k1 k2 => at_ k1 k2 ha hb v1 v2 z2 w2
         have l1 : us.toArray.size = ds.length := by rw [List.size_toArray, <- v1.length, z2.length]
         have l2 : ws.toArray.size = es.length := by rw [List.size_toArray, <- v2.length, w2.length]
         rw [l1, l2] at z
         have e0 : bL (.tup ds) (.tup es) = ((List.range (min ds.length es.length)).all (fun j => bL (ds.getD j .non) (es.getD j .non)) && ds.length == es.length) := by
          rw [bL]
          by_cases hl : ds.length = es.length
          . rw [fW hl, hl]; simp
          . rw [iH hl]
            have : (ds.length == es.length) = false := by simpa using hl
            rw [this, Bool.and_false]
         rw [e0]
         exact z
     | lst es =>
       rw [Rep] at h2
       obtain ⟨b, ys, rfl, w1, w2⟩ := h2
       cases r2
       obtain ⟨ws, v2, p2, _⟩ := I.list (sm.seq w1)
       simp only [bL]
       exact SeqAt.EqAt.tuple_list p1 p2.isList hu0
     | non => exact (jH p1 hu0 rfl h2 r2).1
     | bl _ => exact (jH p1 hu0 rfl h2 r2).1
     | int _ => exact (jH p1 hu0 rfl h2 r2).1
     | str _ => exact (jH p1 hu0 rfl h2 r2).1
   | lst ds =>
     have ha : ds.all (dR n) = true := by simpa [dR] using hd
     have h1' := h1
     rw [Rep] at h1'
     obtain ⟨a, xs, rfl, z1, z2⟩ := h1'
     cases r1
     obtain ⟨us, v1, p1, _⟩ := I.list (sm.seq z1)
     cases e with
     | cQ _ => simp [dR] at he
     | lst es =>
       have hb : es.all (dR n) = true := by simpa [dR] using he
       have h2' := h2
       rw [Rep] at h2'
       obtain ⟨b, ys, rfl, w1, w2⟩ := h2'
       by_cases hab : a = b
       . subst hab; exact same rfl rfl
       . cases r2
         obtain ⟨ws, v2, p2, _⟩ := I.list (sm.seq w1)
         refine .of_refs hab ?_
         have l1 : us.toArray.size = ds.length := by rw [List.size_toArray, <- v1.length, z2.length]
         have l2 : ws.toArray.size = es.length := by rw [List.size_toArray, <- v2.length, w2.length]
         rw [bL]
         by_cases hl : ds.length = es.length
         . have z := SeqAt.RcAt.lists (A := A) (e := fun j => bL (ds.getD j .non) (es.getD j .non)) p1.isList p2.isList (by rw [l1, l2, hl]) hu0 fun j k1 k2 => at_ k1 k2 ha hb v1 v2 z2 w2
           rw [l1] at z
           rw [fW hl]
           exact z
         . rw [iH hl]
           exact SeqAt.RcAt.lists_lengths p1.isList p2.isList (by rw [l1, l2]; simpa using hl) hu0
     | tup es =>
       rw [Rep] at h2
       obtain ⟨b, ys, rfl, w1, w2⟩ := h2
       cases r2
       obtain ⟨ws, v2, p2, _⟩ := I.tuple (aQ.iZ sm w1)
       simp only [bL]
       exact SeqAt.EqAt.list_tuple p1.isList p2 hu0
     | non => exact (jM p1.isList hu0 rfl h2 r2).1
     | bl _ => exact (jM p1.isList hu0 rfl h2 r2).1
     | int _ => exact (jM p1.isList hu0 rfl h2 r2).1
     | str _ => exact (jM p1.isList hu0 rfl h2 r2).1
   | non | bl _ | int _ | str _ =>
     cases e with
     | cQ _ => simp [dR] at he
     | tup es =>
       rw [Rep] at h2
       obtain ⟨b, ys, rfl, w1, w2⟩ := h2
       cases r2
       obtain ⟨ws, v2, p2, _⟩ := I.tuple (aQ.iZ sm w1)
       exact (jH p2 hu0 rfl h1 r1).2
     | lst es =>
       rw [Rep] at h2
       obtain ⟨b, ys, rfl, w1, w2⟩ := h2
       cases r2
       obtain ⟨ws, v2, p2, _⟩ := I.list (sm.seq w1)
       exact (jM p2.isList hu0 rfl h1 r1).2
     | _ => exact yj rfl rfl h1 h2 r1 r2
end
end HH
end
section
namespace HH
open PySem L2 PySem.Spec PyProof.Rows
section
variable {X : Cx} {pins : List (Addr × Obj)} {σ : L2.St} {H F : Hp} {s : Shared} {A : Around}
noncomputable abbrev RC (A : Around) (s : Shared) (v u : Value) (k : Bool) : Prop := SeqAt.RcAt A s v u k /\ SeqAt.RcNeAt A s v u (!k)
inductive Top (X : Cx) (F H : Hp) (s : Shared) : Value -> D -> Prop where
 | non : Top X F H s .none .non
 | bl (b : Bool) : Top X F H s (.bool b) (.bl b)
 | int (i : Int) (t : Tok) : Top X F H s (.int i t) (.int i)
 | str (x : Str) (t : Tok) : Top X F H s (.str x t) (.str x)
 | tup {a : Addr} {us : List Value} {xs : List V} {ds : List D} (ht : s.heap.IsTuple a us.toArray) (hv : Vals xs us) (hr : aJ X.K F xs ds) : Top X F H s (.ref a) (.tup ds)
 | lst {a : Addr} {us : List Value} {xs : List V} {ds : List D} (ht : s.heap.IsList a us.toArray) (hv : Vals xs us) (hr : aJ X.K F xs ds) : Top X F H s (.ref a) (.lst ds)
theorem rG (I : L2.Inv X pins σ H s) (sm : aQ F H) {v : V} {v' : Value} {d : D} (hd : dR 8 d = true) (h : eU X.K F H v d) (r : RelV v v') : Top X F H s v' d := by
 cases d with
 | cQ _ => simp [dR] at hd
 | non => rw [h.non] at r; cases r; exact .non
 | bl b => rw [h.bl] at r; cases r; exact .bl b
 | int i => rw [h.int] at r; obtain ⟨t, rfl⟩ := r; exact .int i t
 | str x => rw [h.str] at r; obtain ⟨t, rfl⟩ := r; exact .str x t
 | tup ds =>
   obtain ⟨a, xs, rfl, h1, h2, _⟩ := h.tup sm
   cases r
   obtain ⟨us, v1, p1, _⟩ := I.tuple h1
   exact .tup p1 v1 h2
 | lst ds =>
   obtain ⟨a, xs, rfl, h1, h2⟩ := h.lst sm
   cases r
   obtain ⟨us, v1, p1, _⟩ := I.list h1
   exact .lst p1.isList v1 h2
theorem RD (I : L2.Inv X pins σ H s) (sm : aQ F H) {n : Nat} (hu : A.units + (n + 1) < cLine) {d e : D} (hd : dR (n + 1) d = true) (he : dR (n + 1) e = true) {v' u' : Value} (h1 : Top X F H s v' d) (h2 : Top X F H s u' e) : RC A s v' u' (bL d e) := by
 have hu0 : A.units < cLine := by omega
 have hu1 : A.in1.units + n < cLine := by show A.units + 1 + n < cLine; omega
 have at_ : ∀ {xs ys : List V} {us ws : List Value} {ds es : List D} {j : Nat} (k1 : j < us.toArray.size) (k2 : j < ws.toArray.size), ds.all (dR n) = true -> es.all (dR n) = true -> Vals xs us -> Vals ys ws -> aJ X.K F xs ds -> aJ X.K F ys es ->
  SeqAt.EqAt A.in1 s us.toArray[j] ws.toArray[j] (bL (ds.getD j .non) (es.getD j .non)) := fun {xs ys us ws ds es j} k1 k2 a1 a2 v1 v2 p1 p2 => by
  have k1 : j < us.length := by simpa using k1
  have k2 : j < ws.length := by simpa using k2
  have l1 : j < ds.length := by rw [<- p1.length, v1.length]; exact k1
  have l2 : j < es.length := by rw [<- p2.length, v2.length]; exact k2
  obtain ⟨x, g1, g2⟩ := p1.get (show ds[j]? = some ds[j] by simp [l1])
  obtain ⟨y, g3, g4⟩ := p2.get (show es[j]? = some es[j] by simp [l2])
  obtain ⟨x', g5, g6⟩ := v1.get g1
  obtain ⟨y', g7, g8⟩ := v2.get g3
  have e1 : us.toArray[j] = x' := by have := (List.getElem?_eq_some_iff.mp g5).2; simpa using this
  have e2 : ws.toArray[j] = y' := by have := (List.getElem?_eq_some_iff.mp g7).2; simpa using this
  have e3 : ds.getD j .non = ds[j] := by simp [List.getD, l1]
  have e4 : es.getD j .non = es[j] := by simp [List.getD, l2]
  rw [e1, e2, e3, e4]
  exact Xz I sm n A.in1 hu1 _ _ (List.all_eq_true.mp a1 _ (List.getElem_mem l1)) (List.all_eq_true.mp a2 _ (List.getElem_mem l2)) x y x' y' g2 g4 g6 g8
 cases h1 with
 | non =>
   cases h2 with
   | non => simp only [bL]; exact ⟨SeqAt.RcAt.none_none, SeqAt.RcNeAt.none_none⟩
   | bl b => simp only [bL]; exact ⟨SeqAt.RcAt.none_bool _, SeqAt.RcNeAt.none_bool _⟩
   | int i t => simp only [bL]; exact ⟨SeqAt.RcAt.none_int _ _, SeqAt.RcNeAt.none_int _ _⟩
   | str i t => simp only [bL]; exact ⟨SeqAt.RcAt.none_str _ _, SeqAt.RcNeAt.none_str _ _⟩
   | tup ht _ _ => simp only [bL]; exact ⟨SeqAt.RcAt.none_tuple ht hu0, SeqAt.RcNeAt.none_tuple ht hu0⟩
   | lst ht _ _ => simp only [bL]; exact ⟨SeqAt.RcAt.none_list ht hu0, SeqAt.RcNeAt.none_list ht hu0⟩
 | bl b0 =>
   cases h2 with
   | non => simp only [bL]; exact ⟨SeqAt.RcAt.bool_none _, SeqAt.RcNeAt.bool_none _⟩
   | bl b => simp only [bL]; exact ⟨SeqAt.RcAt.bool_bool _ _, SeqAt.RcNeAt.bool_bool _ _⟩
   | int i t => simp only [bL]; exact ⟨SeqAt.RcAt.bool_int _ _ _, SeqAt.RcNeAt.bool_int _ _ _⟩
   | str i t => simp only [bL]; exact ⟨SeqAt.RcAt.bool_str _ _ _, SeqAt.RcNeAt.bool_str _ _ _⟩
   | tup ht _ _ => simp only [bL]; exact ⟨SeqAt.RcAt.bool_tuple _ ht hu0, SeqAt.RcNeAt.bool_tuple _ ht hu0⟩
   | lst ht _ _ => simp only [bL]; exact ⟨SeqAt.RcAt.bool_list _ ht hu0, SeqAt.RcNeAt.bool_list _ ht hu0⟩
 | int i0 t0 =>
   cases h2 with
   | non => simp only [bL]; exact ⟨SeqAt.RcAt.int_none _ _, SeqAt.RcNeAt.int_none _ _⟩
   | bl b => simp only [bL]; exact ⟨SeqAt.RcAt.int_bool _ _ _, SeqAt.RcNeAt.int_bool _ _ _⟩
   | int i t => simp only [bL]; exact ⟨SeqAt.RcAt.int_int _ _ _ _, SeqAt.RcNeAt.int_int _ _ _ _⟩
   | str i t => simp only [bL]; exact ⟨SeqAt.RcAt.int_str _ _ _ _, SeqAt.RcNeAt.int_str _ _ _ _⟩
   | tup ht _ _ => simp only [bL]; exact ⟨SeqAt.RcAt.int_tuple _ _ ht hu0, SeqAt.RcNeAt.int_tuple _ _ ht hu0⟩
   | lst ht _ _ => simp only [bL]; exact ⟨SeqAt.RcAt.int_list _ _ ht hu0, SeqAt.RcNeAt.int_list _ _ ht hu0⟩
 | str i0 t0 =>
   cases h2 with
   | non => simp only [bL]; exact ⟨SeqAt.RcAt.str_none _ _, SeqAt.RcNeAt.str_none _ _⟩
   | bl b => simp only [bL]; exact ⟨SeqAt.RcAt.str_bool _ _ _, SeqAt.RcNeAt.str_bool _ _ _⟩
   | int i t => simp only [bL]; exact ⟨SeqAt.RcAt.str_int _ _ _ _, SeqAt.RcNeAt.str_int _ _ _ _⟩
   | str i t => simp only [bL]; exact ⟨SeqAt.RcAt.str_str _ _ _ _, SeqAt.RcNeAt.str_str _ _ _ _⟩
   | tup ht _ _ => simp only [bL]; exact ⟨SeqAt.RcAt.str_tuple _ _ ht hu0, SeqAt.RcNeAt.str_tuple _ _ ht hu0⟩
   | lst ht _ _ => simp only [bL]; exact ⟨SeqAt.RcAt.str_list _ _ ht hu0, SeqAt.RcNeAt.str_list _ _ ht hu0⟩
 | @tup a us xs ds ht hv hr =>
   have ha : ds.all (dR n) = true := by simpa [dR] using hd
   cases h2 with
   | non => simp only [bL]; exact ⟨SeqAt.RcAt.tuple_none ht hu0, SeqAt.RcNeAt.tuple_none ht hu0⟩
   | bl b => simp only [bL]; exact ⟨SeqAt.RcAt.tuple_bool _ ht hu0, SeqAt.RcNeAt.tuple_bool _ ht hu0⟩
   | int i t => simp only [bL]; exact ⟨SeqAt.RcAt.tuple_int _ _ ht hu0, SeqAt.RcNeAt.tuple_int _ _ ht hu0⟩
   | str i t => simp only [bL]; exact ⟨SeqAt.RcAt.tuple_str _ _ ht hu0, SeqAt.RcNeAt.tuple_str _ _ ht hu0⟩
   | lst zM _ _ => simp only [bL]; exact ⟨SeqAt.RcAt.tuple_list ht zM hu0, SeqAt.RcNeAt.tuple_list ht zM hu0⟩
   | @tup b ws ys es zM hv2 hr2 =>
     have hb : es.all (dR n) = true := by simpa [dR] using he
     have l1 : us.toArray.size = ds.length := by rw [List.size_toArray, <- hv.length, hr.length]
     have l2 : ws.toArray.size = es.length := by rw [List.size_toArray, <- hv2.length, hr2.length]
     have z1 := SeqAt.RcAt.tuples (A := A) (e := fun j => bL (ds.getD j .non) (es.getD j .non)) ht zM hu0 fun j k1 k2 => at_ k1 k2 ha hb hv hv2 hr hr2
     have z2 := SeqAt.RcNeAt.tuples (A := A) (e := fun j => bL (ds.getD j .non) (es.getD j .non)) ht zM hu0 fun j k1 k2 => at_ k1 k2 ha hb hv hv2 hr hr2
     rw [l1, l2] at z1 z2
     have e0 : bL (.tup ds) (.tup es) = ((List.range (min ds.length es.length)).all (fun j => bL (ds.getD j .non) (es.getD j .non)) && ds.length == es.length) := by
      rw [bL]
      by_cases hl : ds.length = es.length
      . rw [fW hl, hl]; simp
      . rw [iH hl]
        have : (ds.length == es.length) = false := by simpa using hl
        rw [this, Bool.and_false]
     rw [e0]
     exact ⟨z1, z2⟩
 | @lst a us xs ds ht hv hr =>
   have ha : ds.all (dR n) = true := by simpa [dR] using hd
   cases h2 with
   | non => simp only [bL]; exact ⟨SeqAt.RcAt.list_none ht hu0, SeqAt.RcNeAt.list_none ht hu0⟩
   | bl b => simp only [bL]; exact ⟨SeqAt.RcAt.list_bool _ ht hu0, SeqAt.RcNeAt.list_bool _ ht hu0⟩
   | int i t => simp only [bL]; exact ⟨SeqAt.RcAt.list_int _ _ ht hu0, SeqAt.RcNeAt.list_int _ _ ht hu0⟩
   | str i t => simp only [bL]; exact ⟨SeqAt.RcAt.list_str _ _ ht hu0, SeqAt.RcNeAt.list_str _ _ ht hu0⟩
   | tup zM _ _ => simp only [bL]; exact ⟨SeqAt.RcAt.list_tuple ht zM hu0, SeqAt.RcNeAt.list_tuple ht zM hu0⟩
   | @lst b ws ys es zM hv2 hr2 =>
     have hb : es.all (dR n) = true := by simpa [dR] using he
     have l1 : us.toArray.size = ds.length := by rw [List.size_toArray, <- hv.length, hr.length]
     have l2 : ws.toArray.size = es.length := by rw [List.size_toArray, <- hv2.length, hr2.length]
     rw [show bL (.lst ds) (.lst es) = gR ds es by rw [bL]]
     by_cases hl : ds.length = es.length
     . have z1 := SeqAt.RcAt.lists (A := A) (e := fun j => bL (ds.getD j .non) (es.getD j .non)) ht zM (by rw [l1, l2, hl]) hu0 fun j k1 k2 => at_ k1 k2 ha hb hv hv2 hr hr2
       have z2 := SeqAt.RcNeAt.lists (A := A) (e := fun j => bL (ds.getD j .non) (es.getD j .non)) ht zM (by rw [l1, l2, hl]) hu0 fun j k1 k2 => at_ k1 k2 ha hb hv hv2 hr hr2
       rw [l1] at z1 z2
       rw [fW hl]
       exact ⟨z1, z2⟩
     . rw [iH hl]
       exact ⟨SeqAt.RcAt.lists_lengths ht zM (by rw [l1, l2]; simpa using hl) hu0, SeqAt.RcNeAt.lists_lengths ht zM (by rw [l1, l2]; simpa using hl) hu0⟩
theorem lg (hu : X.A.units + 8 < cLine) : fB X (compareOp .Eq) (rD X.K (lX .eq)) := by
 rintro pins s σ H x y v u Q I rx ry ⟨F, d, e, r, sm, px, py, he, k⟩
 obtain ⟨t, e1, e2⟩ := map_some (show (Dj d e).map _ = some r from he)
 subst e2
 unfold Dj at e1
 obtain ⟨hd, e1⟩ := bC e1
 rw [Bool.and_eq_true] at hd
 subst e1
 exact (RD I sm (n := 7) hu hd.1 hd.2 (rG I sm hd.1 px rx) (rG I sm hd.2 py ry)).1 _ _ _ _ ⟨.bl _, H, I, rfl, cD.dO sm (jf _) k⟩
theorem nF (hu : X.A.units + 8 < cLine) : fB X (compareOp .NotEq) (rD X.K (lX .ne)) := by
 rintro pins s σ H x y v u Q I rx ry ⟨F, d, e, r, sm, px, py, he, k⟩
 obtain ⟨t, e1, e2⟩ := map_some (show (CZ d e).map _ = some r from he)
 subst e2
 unfold CZ at e1
 obtain ⟨hd, e1⟩ := bC e1
 rw [Bool.and_eq_true] at hd
 subst e1
 exact (RD I sm (n := 7) hu hd.1 hd.2 (rG I sm hd.1 px rx) (rG I sm hd.2 py ry)).2 _ _ _ _ ⟨.bl _, H, I, rfl, cD.dO sm (jf _) k⟩
end
end HH
end
section
namespace HH
open PySem L2 PySem.Spec PyProof.Rows
section
variable {Pg : Program} {w : World} {K : PySem.W.Frag} {mg : Str -> Option Value} {base : Heap}
theorem bW {x qual : Str} {st : Stmt} {f : Addr} {fd : FuncData} {N ps : List Str} {k n : Nat} {c : Call} {d : Fd} (Fu : ig K x qual st f fd) (S : aO N ps (aD st)) (h1 : d.np = ps.length) (h2 : d.nn = N.length)
 (hb : ∀ (cdv : Value) (A : Around) (outer : List Env) (s : Shared) (H : Hp) (E : XK), iB k (A.deeper (envOfC qual (aD st) s.heap.objs.size f cdv)) -> SB (wz gG Pg w K mg base N qual (aD st) f cdv A outer s H E).Rx c n (fH st) d.body) :
 cj Pg w K mg base gG (k + 1) f fd ps (ik K ps.length (fun args => enter c n d args)) := by
 refine Fu.ok S (fun vs H Q E h => h.1) fun cdv A outer s H vs Q E hr h => ?_
 obtain ⟨hl, F, args, r, args', g, e, q⟩ := h
 refine ⟨_, hb cdv A outer s H E hr, ?_⟩
 replace e : enter c n d args = .ok r args' := e
 unfold enter at e
 split at e
 . rename_i hc
   obtain ⟨c1, c2⟩ := hc
   have hg := g.more (n := d.nn - d.np) (τ := List.replicate (N.length - vs.length) none) (by simp [h1, h2, hl])
   have hla : args.length = d.np := c1
   have go : ∀ {fl : Fl} {ρ' : List Sl}, jg c n d.body (args ++ List.replicate (d.nn - d.np) .aV) = .ok fl ρ' -> (∀ F' σ' H', cg K F (args ++ List.replicate (d.nn - d.np) .aV) (start N vs) H F' ρ' σ' H' -> (match fl with
    | .next => Q .non H'
    | .brk => False
    | .cont => False
    | .ret r => ∀ v, cL K F' ρ' σ' H' (args ++ List.replicate (d.nn - d.np) .aV) (start N vs) H v r -> Q v H')) ->
    Uk K (jg c n d.body) { nx := fun _ H' => Q .non H', rt := Q } (start N vs) H := fun {fl ρ'} z k => ⟨F, _, fl, ρ', hg, z, fun F' σ' H' s => by
    have := k F' σ' H' s
    cases fl <;> exact this⟩
   split at e
   . rename_i ρ' z
     cases e
     refine go z fun F' σ' H' s => ?_
     obtain ⟨z1, z2⟩ := cg.less (m := d.np) hla.symm g (by simp [h1, h2, hl]) s
     exact q .non F' _ H' z1 (show Rep K F' _ _ from JM)
   . rename_i r' ρ' z
     cases e
     refine go z fun F' σ' H' s v rr => ?_
     obtain ⟨z1, z2⟩ := cg.less (m := d.np) hla.symm g (by simp [h1, h2, hl]) s
     exact q v F' _ H' z1 (z2 v r rr)
   . split at e <;> cases e
 . cases e
structure az (Pg : Program) (w : World) (K : PySem.W.Frag) (mg : Str -> Option Value) (base : Heap) (k : Nat) (c : Call) (i : Nat) (x : Str) (np : Nat) : Prop where
 ex : ∃ fa fd qs, cj Pg w K mg base gG k fa fd qs (ik K qs.length (c i)) /\ mg x = some (.ref fa) /\ PySem.W.keepIn K (.ref fa) = true /\ Binds K fd qs [] /\ qs.length = np
end
section
variable {X : Cx} {c : Call} {n k : Nat} {e a b : Expr} {es : List Expr} {p pa pb : P} {ps : List P} {pos : Pos}
theorem sv (i : Nat) {x : Str} (hN : X.N[i]? = some x := by rfl) (hv : xU X.env.scope x := by first | exact Or.inl rfl | exact Or.inr (Or.inl rfl) | exact Or.inr (Or.inr rfl)) (hd : (x == ("__debug__" : Str)) = false := by rfl) (hcd : (x == ("__classdict__" : Str)) = false := by rfl) : SX X c (.Name x pos) (.var i) := Jx hN hv hd hcd
theorem cV {i np : Nat} {x : Str} {p' : Pos} (C : az X.prog X.w X.K X.mg X.base k c i x np) (hr : iB k X.A) (ha : SG X c (e :: es) ps) (hg : Gl X x := by rfl) (hl : (e :: es).length = np := by rfl) (hdb : (x == ("__debug__" : Str)) = false := by rfl)
 (he : starEach (e :: es) X.env = (false, eval e X.env) :: starEach es X.env := by rfl) (hpl : (backTo pos (starEach es X.env)).any (·.1) = false := by rfl) (hl2 : ps.length = (e :: es).length := by rfl) : SX X c (.Call (.Name x p') (e :: es) [] pos) (.call i ps) := by
 obtain ⟨fa, fd, qs, h1, h2, h3, h4, h5⟩ := C.ex
 exact Ge h1 hr hg h2 h3 h4 ha (hl.trans h5.symm) hdb he hpl hl2
noncomputable def Hw (names outer : List (Str × NameKind)) (N N' : List Str) (n : Nat) : Bool :=
 (names.all fun y => names.lookup y.1 == some y.2) && (names.all fun y => y.2 != .local || names.lookup y.1 == some .local) && (names.all fun y => y.2 != .free || outer.lookup y.1 == some .cell || outer.lookup y.1 == some .free) && N'.length == N.length + n &&
 ((N.zip N').all fun p => (p.1 == p.2 && names.lookup p.2 == some .free) || (names.lookup p.2 != some .local && names.lookup p.2 != some .cell && names.lookup p.2 != some .free))
theorem vJ {scope : Scope} {N' : List Str} (hk : scope.kind = .function) (h : Hw scope.names X.env.scope.names X.N N' n = true) : fU X scope N' n := by
 unfold Hw at h
 simp only [Bool.and_eq_true] at h
 obtain ⟨⟨⟨⟨h1, h2⟩, h3⟩, h4⟩, h5⟩ := h
 refine ⟨hk, fun y hy => eq_of_beq (List.all_eq_true.mp h1 y hy), fun y hy e => ?_, fun y hy e => ?_, by simpa using h4, h5⟩
 . have := List.all_eq_true.mp h2 y hy
   rw [e] at this
   simpa using this
 . have := List.all_eq_true.mp h3 y hy
   rw [e] at this
   simp only [Bool.or_eq_true] at this
   rcases this with (z | z) | z
   . cases z
   . exact .inl (eq_of_beq z)
   . exact .inr (eq_of_beq z)
theorem bH {A : Around} (h : iB k A) : A.units + 8 < cLine := by have := h.un; omega
end
end HH
end
section
namespace PySem
open AutoSeq1 (wpAny_loadPart')
section
variable {prog : Program} {w : World} {A : Around} {E : Value -> Shared -> Prop} {s : Shared}
theorem jA {it l : Addr} {i : Nat} {items : Array Value} {x : Value} {Q : Value -> Shared -> Prop} (hit : s.heap.IsTupleIter it l i)
 (hl : s.heap.IsTuple l items) (hx : items[i]? = some x)
 (hQ : ∀ h', h'.IsTupleIter it l (i + 1) -> Heap.SameBut it s.heap h' -> Q x { s with heap := h' }) :
 wpAny (model prog w) A (Builtin.SmallTypes.nextOf (.ref it)) Q E s := by
 obtain ⟨o, ho, hc, hd⟩ := id hit
 obtain ⟨ol, hol, _, nl, hdl⟩ := hl
 unfold Builtin.SmallTypes.nextOf
 refine wpAny_bind (wpAny_callSpecial?_slot (name := Str.ofString "__next__") hit.typeIs F.slot_tuple_iterator_next
  (wpAny_call_entry F.slot_tuple_iterator_next hit.typeIs F.entry_tuple_iterator_next ?_ (F.args_tuple_iterator_next_1 _)))
 show wpAny _ _ (field (.ref it) 0 >>= _) _ _ s
 refine wpAny_bind (wpAny_field ho hd (x := .ref l) rfl ?_)
 show wpAny _ _ (if (Value.ref l == Value.none) = true then _ else _) _ _ s
 rw [if_neg (show ¬ ((Value.ref l == Value.none) = true) from Bool.false_ne_true)]
 show wpAny _ _ (field (.ref it) 1 >>= _) _ _ s
 refine wpAny_bind (wpAny_field ho hd (x := .int i 0) rfl ?_)
 show wpAny _ _ (seqItems? (.ref l) >>= _) _ _ s
 refine wpAny_bind (wpAny_seqItems hol hdl ?_)
 simp only [Int.toNat_natCast, hx]
 refine wpAny_bind (wpAny_setField ho hd (by simp) (wpAny_pure ⟨x, rfl, wpAny_pure (hQ _ ?_ (Heap.SameBut.update ..))⟩))
 exact ⟨_, Heap.get?_update_self _ ho (Obj.isFreed_of_fields (Obj.data_mapFields hd _)), (Obj.cls_mapFields ..).trans hc, by
  rw [Obj.data_mapFields hd]; simp [rawInt]⟩
theorem lq {it l : Addr} {i : Nat} {items : Array Value} {Q : Value -> Shared -> Prop} (hh : A.handled = none)
 (hit : s.heap.IsTupleIter it l i) (hl : s.heap.IsTuple l items) (hx : items[i]? = none)
 (hE : ∀ h' e, Heap.ExtBut it s.heap h' -> (∃ o, h'.get? e = some o /\ o.cls = .type "StopIteration") -> E (.ref e) { s with heap := h' }) :
 wpAny (model prog w) A (Builtin.SmallTypes.nextOf (.ref it)) Q E s := by
 obtain ⟨o, ho, hc, hd⟩ := id hit
 obtain ⟨ol, hol, _, nl, hdl⟩ := hl
 unfold Builtin.SmallTypes.nextOf
 refine wpAny_bind (wpAny_callSpecial?_slot (name := Str.ofString "__next__") hit.typeIs F.slot_tuple_iterator_next
  (wpAny_call_entry F.slot_tuple_iterator_next hit.typeIs F.entry_tuple_iterator_next ?_ (F.args_tuple_iterator_next_1 _)))
 show wpAny _ _ (field (.ref it) 0 >>= _) _ _ s
 refine wpAny_bind (wpAny_field ho hd (x := .ref l) rfl ?_)
 show wpAny _ _ (if (Value.ref l == Value.none) = true then _ else _) _ _ s
 rw [if_neg (show ¬ ((Value.ref l == Value.none) = true) from Bool.false_ne_true)]
 show wpAny _ _ (field (.ref it) 1 >>= _) _ _ s
 refine wpAny_bind (wpAny_field ho hd (x := .int i 0) rfl ?_)
 show wpAny _ _ (seqItems? (.ref l) >>= _) _ _ s
 refine wpAny_bind (wpAny_seqItems hol hdl ?_)
 simp only [Int.toNat_natCast, hx]
 refine wpAny_bind (wpAny_rule (wpAny_bind (wpAny_setField ho hd (by simp) ?_)))
 show wpAny _ _ (newExc (.type "StopIteration") [] >>= _) _ _ _
 refine wpAny_bind ?_
 simp only [newExc, newTuple]
 refine wpAny_bind (wpAny_newObj_type ?_ (by size_fits))
 refine wpAny_bind (m := firstArgMember _ _) (wpAny_of_eq (a := Value.none) (by first | rfl | (simp only [firstArgMember]; rfl)) ?_)
 refine wpAny_newObj_type ?_ (by size_fits)
 simp only [raiseNew]
 refine wpAny_bind (wpAny_handled ?_)
 first | rw [show A.in1.handled = none from hh] | rw [hh]
 refine wpAny_bind (wpAny_pure (wpAny_throw ?_))
 exact hE _ _ (((Heap.SameBut.update ..).extBut.push _).push _) ⟨_, Heap.get?_push_size _ rfl, rfl⟩
end
end PySem
end
section
namespace L2
open PySem PySem.Spec PyProof.Rows
section
variable {X : Cx} {pins : List (Addr × Obj)} {σ : L2.St} {H : Hp} {s : Shared}
theorem Inv.KH {ch : List Addr} {h' : Heap} {o : HO} {t' : Nat} (I : Inv X pins σ H s) (k : ∀ b u, b ∉ ch -> s.heap.get? b = some u -> h'.get? b = some u) (hl : ∀ b ∈ ch, ∃ u, h'.get? b = some u) (hf : ∀ b ∈ ch, kW X pins H b)
 (new : bQ X.prog X.w (upd H s.heap.objs.size o) h' s.heap.objs.size o) : Inv X pins σ (upd H s.heap.objs.size o) { s with heap := h', toks := t' } := by
 have fr : H s.heap.objs.size = none := I.hok.fresh (Nat.le_refl _)
 have DG : ∀ b u, H b = some u -> b ∉ ch := fun b u e hb => by rw [(hf b hb).1] at e; cases e
 have up : ∀ b u, H b = some u -> upd H s.heap.objs.size o b = some u := fun b u e => by
  have : b ≠ s.heap.objs.size := by rintro rfl; rw [fr] at e; cases e
  rw [aL this]; exact e
 refine I.call (g' := s.gens) (d' := s.drawn) (ch := ch) ⟨fun b u e n _ hx => k b u hx e, fun b u e n _ hx => ⟨u.slots, k b u hx e⟩, fun b u e n hx => ?_, fun b u e hx => ⟨u, k b u hx e⟩, fun b xs e => up b _ e, fun b ob u e => up b _ e, fun b ps e => ⟨#[], by rw [up b _ e]; simp⟩⟩ ?_ I.bare
  fun b hb => ⟨(hf b hb).2.2.2.1, (hf b hb).2.1, (hf b hb).2.2.2.2.1, (hf b hb).2.2.2.2.2⟩
 . have : b ≠ s.heap.objs.size := Nat.ne_of_lt (Heap.lt_size e)
   rw [aL this]; exact n
 . intro b u e
   by_cases hb : b = s.heap.objs.size
   . subst hb; rw [bh] at e; cases e; exact new
   . rw [aL hb] at e
     refine (I.hok b u e).stay (fun c v hc q => k c v ?_ q) (fun c q => up c _ q) fun c xs q => up c _ q
     rcases hc with rfl | hc
     . exact DG _ _ e
     . exact DG _ _ hc
end
end L2
namespace HH
open PySem L2 PySem.Spec PyProof.Rows
section
variable {K : PySem.W.Frag} {F F1 H H1 : Hp} {ρ ρ1 : List Sl} {σ : L2.St} {ds : List D} {a : Addr}
theorem Bg {F' H' : Hp} {T : Addr} {v w : V} {d1 d2 : D} (sm : aQ F' H') (hT : H' T = none) (r1 : Rep K F' v d1) (r2 : Rep K F' w d2) : ∃ F'', Ext F' H' F'' (upd H' T (.tup [v, w])) /\ Rep K F'' (.ref T) (.tup [d1, d2]) :=
 yN (Q := fun v pq => ∃ F'', Ext F' H' F'' pq /\ Rep K F'' v (.tup [d1, d2])) sm (.cons r1 (.cons r2 .nil)) hT fun v F'' pq x rn => ⟨F'', x, rn⟩
end
end HH
end
section
namespace PySem
structure Nx (prog : Program) (w : World) (A : Around) (it src : Addr) (Sx : Nat -> Heap -> Prop) (get : Nat -> Option Value) : Prop where
 obj : ∀ k h, Sx k h -> ∃ o, h.get? it = some o /\ ∀ v, o.data ≠ .cell v
 keep : ∀ k h h', Sx k h -> (∀ o, h.get? it = some o -> h'.get? it = some o) -> (∀ o, h.get? src = some o -> h'.get? src = some o) -> Sx k h'
 item : ∀ k (s : Shared) (Q : Value -> Shared -> Prop) (E : Value -> Shared -> Prop) x, Sx k s.heap -> get k = some x -> (∀ h', Sx (k + 1) h' -> Heap.SameBut it s.heap h' -> Q x { s with heap := h' }) -> wpAny (model prog w) A (Builtin.SmallTypes.nextOf (.ref it)) Q E s
 fin : ∀ k (s : Shared) (Q : Value -> Shared -> Prop) (E : Value -> Shared -> Prop), Sx k s.heap -> get k = none ->
  (∀ h' e, Heap.ExtBut it s.heap h' -> (∃ o, h'.get? e = some o /\ o.cls = .type "StopIteration") -> E (.ref e) { s with heap := h' }) -> wpAny (model prog w) A (Builtin.SmallTypes.nextOf (.ref it)) Q E s
section
variable {prog : Program} {w : World} {A : Around} {E : Value -> Shared -> Prop} {s : Shared}
theorem Nx.list (hh : A.handled = none) (it l : Addr) (hne : l ≠ it) (items : Array Value) : Nx prog w A it l (fun k h => h.IsListIter it l k /\ h.IsList l items) (fun k => items[k]?) where
 obj := fun k h st => let ⟨o, h1, _, h3⟩ := st.1; ⟨o, h1, fun v z => by rw [h3] at z; cases z⟩
 keep := fun k h h' st a b => ⟨(let ⟨o, ho, r⟩ := st.1; ⟨o, a o ho, r⟩), (let ⟨o, ho, r⟩ := st.2; ⟨o, b o ho, r⟩)⟩
 item := fun k s Q E x st hx hQ => wpAny_nextOf_list_item st.1 st.2 hx fun h' hit hs => hQ h' ⟨hit, (let ⟨o, ho, r⟩ := st.2; ⟨o, hs.extBut l o hne ho, r⟩)⟩ hs
 fin := fun k s Q E st hx hE => wpAny_nextOf_list_end hh st.1 st.2 hx hE
theorem Nx.tuple (hh : A.handled = none) (it l : Addr) (hne : l ≠ it) (items : Array Value) : Nx prog w A it l (fun k h => h.IsTupleIter it l k /\ h.IsTuple l items) (fun k => items[k]?) where
 obj := fun k h st => let ⟨o, h1, _, h3⟩ := st.1; ⟨o, h1, fun v z => by rw [h3] at z; cases z⟩
 keep := fun k h h' st a b => ⟨(let ⟨o, ho, r⟩ := st.1; ⟨o, a o ho, r⟩), (let ⟨o, ho, r⟩ := st.2; ⟨o, b o ho, r⟩)⟩
 item := fun k s Q E x st hx hQ => jA st.1 st.2 hx fun h' hit hs => hQ h' ⟨hit, (let ⟨o, ho, r⟩ := st.2; ⟨o, hs.extBut l o hne ho, r⟩)⟩ hs
 fin := fun k s Q E st hx hE => lq hh st.1 st.2 hx hE
variable {z TI TO i1 i2 l1 l2 : Addr} {k : Nat} {S1 S2 : Nat -> Heap -> Prop} {g1 g2 : Nat -> Option Value} {a b : Value}
theorem yP {x y : Value} {Q : Value -> Shared -> Prop} (D : ZipApart z TI TO i1 i2 l1 l2) (N1 : Nx prog w A i1 l1 S1 g1) (N2 : Nx prog w A i2 l2 S2 g2)
 (hz : IsZip s.heap z TI TO .none) (hTI : IsPair s.heap TI (.ref i1) (.ref i2)) (hTO : IsPair s.heap TO a b) (h1 : S1 k s.heap) (h2 : S2 k s.heap) (hx : g1 k = some x) (hy : g2 k = some y)
 (hQ : ∀ h', IsZip h' z TI TO (rawInt s.heap.objs.size) -> IsPair h' TO x y -> S1 (k + 1) h' -> S2 (k + 1) h' -> IsPair h' s.heap.objs.size x y -> h'.objs.size = s.heap.objs.size + 1 ->
  (∀ c o, c ≠ z -> c ≠ TO -> c ≠ i1 -> c ≠ i2 -> s.heap.get? c = some o -> h'.get? c = some o) -> Q (.ref s.heap.objs.size) { s with heap := h' }) :
 wpAny (model prog w) A (Builtin.«zip.__next__» ⟨[.ref z], []⟩) (fun fin s' => ∃ v, fin = .done (.ret v) /\ Q v s') E s := by
 show wpAny _ _ (field (.ref z) 2 >>= _) _ _ _
 refine wpAny_bind (wpAny_field hz rfl (x := .bool false) rfl ?_)
 show wpAny _ _ (field (.ref z) 3 >>= _) _ _ _
 refine wpAny_bind (wpAny_field hz rfl (x := .ref TI) rfl (wpAny_bind (wpAny_seqItems hTI rfl ?_)))
 show wpAny _ _ (Builtin.SmallTypes.ownedTupleIsFree (.ref z) >>= _) _ _ _
 refine wpAny_bind ?_
 unfold Builtin.SmallTypes.ownedTupleIsFree
 refine wpAny_bind (wpAny_field hz rfl (x := .none) rfl (wpAny_pure ?_))
 simp only [if_true]
 refine wpAny_bind (wpAny_rule (wpAny_bind (wpAny_field hz rfl (x := .ref TO) rfl (wpAny_bind (wpAny_setField_rec hz (by simp) fun t1 z1 wI => ?_)))))
 have z1 : IsZip t1 z TI TO .ellipsis := z1
 refine wpAny_bind ?_
 simp only [List.zipIdx_cons, List.zipIdx_nil, List.forIn_cons, List.forIn_nil]
 refine wpAny_bind (wpAny_bind (wpAny_onRaise ?_))
 show wpAny _ _ (Builtin.SmallTypes.nextOf (.ref i1) >>= _) _ _ _
 have q1 : S1 k t1 := N1.keep _ _ _ h1 (fun o e => wI.extBut _ _ D.i1z e) fun o e => wI.extBut _ _ D.l1z e
 refine wpAny_bind (N1.item k _ _ _ x q1 hx fun t2 q2 wJ => wpAny_pure ?_)
 have p2 : IsPair t2 TO a b := wJ.extBut _ _ D.TOi1 (wI.extBut _ _ D.TOz hTO)
 refine wpAny_bind (wpAny_seqItems p2 rfl (wpAny_bind (wpAny_updateSeq_pair p2 fun t3 p3 wK => ?_)))
 have p3 : IsPair t3 TO x b := p3
 refine wpAny_bind (wpAny_letGo (wpAny_pure (wpAny_bind (wpAny_bind (wpAny_onRaise ?_)))))
 show wpAny _ _ (Builtin.SmallTypes.nextOf (.ref i2) >>= _) _ _ _
 have w3 : S2 k t3 := N2.keep _ _ _ h2 (fun o e => wK.extBut _ _ D.TOi2.symm (wJ.extBut _ _ D.i12.symm (wI.extBut _ _ D.i2z e))) fun o e => wK.extBut _ _ D.l2TO (wJ.extBut _ _ D.l2i1 (wI.extBut _ _ D.l2z e))
 refine wpAny_bind (N2.item k _ _ _ y w3 hy fun t4 w4 Hq => wpAny_pure ?_)
 have p4 : IsPair t4 TO x b := Hq.extBut _ _ D.TOi2 p3
 refine wpAny_bind (wpAny_seqItems p4 rfl (wpAny_bind (wpAny_updateSeq_pair p4 fun t5 p5 Ei => ?_)))
 have p5 : IsPair t5 TO x y := p5
 refine wpAny_bind (wpAny_letGo (wpAny_pure (wpAny_pure (wpAny_bind (wpAny_seqItems p5 rfl (wpAny_bind (wpAny_newTuple ?_)))))))
 have hsz : t5.objs.size = s.heap.objs.size := by rw [Ei.1, Hq.1, wK.1, wJ.1, wI.1]
 have z5 : IsZip t5 z TI TO .ellipsis := Ei.extBut _ _ D.TOz.symm (Hq.extBut _ _ D.i2z.symm (wK.extBut _ _ D.TOz.symm (wJ.extBut _ _ D.i1z.symm z1)))
 have kp : ∀ c o, c ≠ z -> c ≠ TO -> c ≠ i1 -> c ≠ i2 -> s.heap.get? c = some o -> t5.get? c = some o := fun c o c1 c2 c3 c4 e =>
  Ei.extBut _ _ c2 (Hq.extBut _ _ c4 (wK.extBut _ _ c2 (wJ.extBut _ _ c3 (wI.extBut _ _ c1 e))))
 have q5 : S1 (k + 1) t5 := N1.keep _ _ _ q2 (fun o e => Ei.extBut _ _ D.TOi1.symm (Hq.extBut _ _ D.i12 (wK.extBut _ _ D.TOi1.symm e))) fun o e => Ei.extBut _ _ D.l1TO (Hq.extBut _ _ D.l1i2 (wK.extBut _ _ D.l1TO e))
 have w5 : S2 (k + 1) t5 := N2.keep _ _ _ w4 (fun o e => Ei.extBut _ _ D.TOi2.symm e) fun o e => Ei.extBut _ _ D.l2TO e
 have zlt : z < t5.objs.size := Heap.lt_size z5
 show wpAny _ _ (Builtin.SmallTypes.ownedTupleHandOut (.ref z) (.ref t5.objs.size) >>= _) _ _ _
 refine wpAny_bind ?_
 unfold Builtin.SmallTypes.ownedTupleHandOut
 have z6 : IsZip (t5.push { cls := .type "tuple", data := .seq #[x, y] }) z TI TO .ellipsis := Heap.get?_push_of_some _ z5
 refine wpAny_bind (wpAny_setField_rec z6 (by simp) fun t7 z7 Ze => ?_)
 have z7 : IsZip t7 z TI TO (rawInt t5.objs.size) := z7
 refine wpAny_setField_rec z7 (by simp) fun t8 z8 Zf => ?_
 have z8 : IsZip t8 z TI TO (rawInt t5.objs.size) := z8
 have up : ∀ c o, c ≠ z -> t5.get? c = some o -> t8.get? c = some o := fun c o c1 e => Zf.extBut _ _ c1 (Ze.extBut _ _ c1 (Heap.get?_push_of_some _ e))
 have T8 : IsPair t8 t5.objs.size x y := Zf.extBut _ _ (Nat.ne_of_gt zlt) (Ze.extBut _ _ (Nat.ne_of_gt zlt) (Heap.get?_push_size _ rfl))
 have n8 : t8.objs.size = t5.objs.size + 1 := by rw [Zf.1, Ze.1, Heap.size_push]
 rw [hsz] at z8 T8 n8
 refine wpAny_pure ⟨_, rfl, ?_⟩
 show Q (.ref t5.objs.size) _
 rw [hsz]
 exact hQ t8 z8 (up _ _ D.TOz p5) (N1.keep _ _ _ q5 (fun o e => up _ o D.i1z e) fun o e => up _ o D.l1z e) (N2.keep _ _ _ w5 (fun o e => up _ o D.i2z e) fun o e => up _ o D.l2z e) T8 n8 fun c o c1 c2 c3 c4 e => up c o c1 (kp c o c1 c2 c3 c4 e)
theorem Di {Q : Fin -> Shared -> Prop} (D : ZipApart z TI TO i1 i2 l1 l2) (N1 : Nx prog w A i1 l1 S1 g1) (N2 : Nx prog w A i2 l2 S2 g2)
 (hz : IsZip s.heap z TI TO .none) (hTI : IsPair s.heap TI (.ref i1) (.ref i2)) (hTO : IsPair s.heap TO a b) (h1 : S1 k s.heap) (h2 : S2 k s.heap) (hend : g1 k = none \/ g2 k = none)
 (hE : ∀ h' e, (∀ c o, c ≠ z -> c ≠ TO -> c ≠ i1 -> c ≠ i2 -> s.heap.get? c = some o -> h'.get? c = some o) -> (∃ o, h'.get? e = some o /\ o.cls = .type "StopIteration") -> E (.ref e) { s with heap := h' }) :
 wpAny (model prog w) A (Builtin.«zip.__next__» ⟨[.ref z], []⟩) Q E s := by
 show wpAny _ _ (field (.ref z) 2 >>= _) _ _ _
 refine wpAny_bind (wpAny_field hz rfl (x := .bool false) rfl ?_)
 show wpAny _ _ (field (.ref z) 3 >>= _) _ _ _
 refine wpAny_bind (wpAny_field hz rfl (x := .ref TI) rfl (wpAny_bind (wpAny_seqItems hTI rfl ?_)))
 show wpAny _ _ (Builtin.SmallTypes.ownedTupleIsFree (.ref z) >>= _) _ _ _
 refine wpAny_bind ?_
 unfold Builtin.SmallTypes.ownedTupleIsFree
 refine wpAny_bind (wpAny_field hz rfl (x := .none) rfl (wpAny_pure ?_))
 simp only [if_true]
 refine wpAny_bind (wpAny_rule (wpAny_bind (wpAny_field hz rfl (x := .ref TO) rfl (wpAny_bind (wpAny_setField_rec hz (by simp) fun t1 z1 wI => ?_)))))
 have z1 : IsZip t1 z TI TO .ellipsis := z1
 refine wpAny_bind ?_
 simp only [List.zipIdx_cons, List.zipIdx_nil, List.forIn_cons, List.forIn_nil]
 refine wpAny_bind (wpAny_bind (wpAny_onRaise ?_))
 show wpAny _ _ (Builtin.SmallTypes.nextOf (.ref i1) >>= _) _ _ _
 have q1 : S1 k t1 := N1.keep _ _ _ h1 (fun o e => wI.extBut _ _ D.i1z e) fun o e => wI.extBut _ _ D.l1z e
 cases hx : g1 k with
 | none =>
   refine wpAny_bind (N1.fin k _ _ _ q1 hx fun t2 e wJ he => ?_)
   obtain ⟨oe, hoe, hce⟩ := he
   have z2 : IsZip t2 z TI TO .ellipsis := wJ _ _ D.i1z.symm z1
   have hez : e ≠ z := fun x => by subst x; rw [z2] at hoe; cases hoe; simp at hce
   exact wpAny_setField_rec z2 (by simp) fun t3 _ wK => hE t3 e (fun c o c1 _ c3 _ x => wK.extBut _ _ c1 (wJ _ _ c3 (wI.extBut _ _ c1 x))) ⟨oe, wK.extBut _ _ hez hoe, hce⟩
 | some x =>
   have hy : g2 k = none := by rcases hend with h | h; rw [hx] at h; cases h; exact h
   refine wpAny_bind (N1.item k _ _ _ x q1 hx fun t2 q2 wJ => wpAny_pure ?_)
   have p2 : IsPair t2 TO a b := wJ.extBut _ _ D.TOi1 (wI.extBut _ _ D.TOz hTO)
   refine wpAny_bind (wpAny_seqItems p2 rfl (wpAny_bind (wpAny_updateSeq_pair p2 fun t3 p3 wK => ?_)))
   refine wpAny_bind (wpAny_letGo (wpAny_pure (wpAny_bind (wpAny_bind (wpAny_onRaise ?_)))))
   show wpAny _ _ (Builtin.SmallTypes.nextOf (.ref i2) >>= _) _ _ _
   have w3 : S2 k t3 := N2.keep _ _ _ h2 (fun o e => wK.extBut _ _ D.TOi2.symm (wJ.extBut _ _ D.i12.symm (wI.extBut _ _ D.i2z e))) fun o e => wK.extBut _ _ D.l2TO (wJ.extBut _ _ D.l2i1 (wI.extBut _ _ D.l2z e))
   refine wpAny_bind (N2.fin k _ _ _ w3 hy fun t4 e Hq he => ?_)
   obtain ⟨oe, hoe, hce⟩ := he
   have z4 : IsZip t4 z TI TO .ellipsis := Hq _ _ D.i2z.symm (wK.extBut _ _ D.TOz.symm (wJ.extBut _ _ D.i1z.symm z1))
   have hez : e ≠ z := fun x => by subst x; rw [z4] at hoe; cases hoe; simp at hce
   exact wpAny_setField_rec z4 (by simp) fun t5 _ Ei => hE t5 e (fun c o c1 c2 c3 c4 x => Ei.extBut _ _ c1 (Hq _ _ c4 (wK.extBut _ _ c2 (wJ.extBut _ _ c3 (wI.extBut _ _ c1 x))))) ⟨oe, Ei.extBut _ _ hez hoe, hce⟩
theorem lD {x y : Value} {Q : Option Value -> Shared -> Prop} (D : ZipApart z TI TO i1 i2 l1 l2) (N1 : Nx prog w A.in1 i1 l1 S1 g1) (N2 : Nx prog w A.in1 i2 l2 S2 g2)
 (hz : IsZip s.heap z TI TO .none) (hTI : IsPair s.heap TI (.ref i1) (.ref i2)) (hTO : IsPair s.heap TO a b) (h1 : S1 k s.heap) (h2 : S2 k s.heap) (hx : g1 k = some x) (hy : g2 k = some y)
 (hQ : ∀ h', IsZip h' z TI TO (rawInt s.heap.objs.size) -> IsPair h' TO x y -> S1 (k + 1) h' -> S2 (k + 1) h' -> IsPair h' s.heap.objs.size x y -> h'.objs.size = s.heap.objs.size + 1 ->
  (∀ c o, c ≠ z -> c ≠ TO -> c ≠ i1 -> c ≠ i2 -> s.heap.get? c = some o -> h'.get? c = some o) -> Q (some (.ref s.heap.objs.size)) { s with heap := h' }) : wpAny (model prog w) A (pyNext (.ref z)) Q E s := by
 have hT : s.TypeIs (.ref z) "zip" := ⟨_, hz, rfl⟩
 unfold pyNext
 exact wpAny_bind (wpAny_attempt (wpAny_callSpecial?_slot (name := Str.ofString "__next__") hT F.slot_zip_next
  (wpAny_call_entry F.slot_zip_next hT F.entry_zip_next (yP D N1 N2 hz hTI hTO h1 h2 hx hy fun h' a1 a2 a3 a4 a5 a6 a7 => wpAny_pure (hQ h' a1 a2 a3 a4 a5 a6 a7)) (F.args_zip_next_1 _))))
theorem mj {Q : Option Value -> Shared -> Prop} (D : ZipApart z TI TO i1 i2 l1 l2) (N1 : Nx prog w A.in1 i1 l1 S1 g1) (N2 : Nx prog w A.in1 i2 l2 S2 g2)
 (hz : IsZip s.heap z TI TO .none) (hTI : IsPair s.heap TI (.ref i1) (.ref i2)) (hTO : IsPair s.heap TO a b) (h1 : S1 k s.heap) (h2 : S2 k s.heap) (hend : g1 k = none \/ g2 k = none)
 (hQ : ∀ h', (∀ c o, c ≠ z -> c ≠ TO -> c ≠ i1 -> c ≠ i2 -> s.heap.get? c = some o -> h'.get? c = some o) -> Q none { s with heap := h' }) : wpAny (model prog w) A (pyNext (.ref z)) Q E s := by
 have hT : s.TypeIs (.ref z) "zip" := ⟨_, hz, rfl⟩
 unfold pyNext
 refine wpAny_bind (wpAny_attempt (wpAny_callSpecial?_slot (name := Str.ofString "__next__") hT F.slot_zip_next
  (wpAny_call_entry F.slot_zip_next hT F.entry_zip_next (Di D N1 N2 hz hTI hTO h1 h2 hend fun h' e hk he => ?_) (F.args_zip_next_1 _))))
 obtain ⟨o, ho, hc⟩ := he
 exact wpAny_bind (wpAny_isInstance (T := "StopIteration") (b := true) ⟨o, ho, hc⟩ isSubtype_stop (wpAny_pure (hQ _ hk)))
end
theorem lY (l1 l2 : Addr) (xs ys : Array Value) :
 Meets (Builtin.«zip.__new__» ⟨[.type "zip", .ref l1, .ref l2], []⟩) (fun _ R s => s.heap.IsList l1 xs /\ s.heap.IsList l2 ys /\
  R (.ok (.ret (.ref (s.heap.objs.size + 4)))) { s with heap := ((((s.heap.push { cls := .type "list_iterator", data := .fields #[.ref l1, .int 0 0] }).push { cls := .type "list_iterator", data := .fields #[.ref l2, .int 0 0] }).push { cls := .type "tuple", data := .seq #[.ref s.heap.objs.size, .ref (s.heap.objs.size + 1)] }).push { cls := .type "tuple", data := .seq #[.none, .none] }).push { cls := .type "zip", data := .fields #[.none, .bool false, .bool false, .ref (s.heap.objs.size + 2), .ref (s.heap.objs.size + 3)] } }) :=
 .of_wp fun prog w A R s h => by
  obtain ⟨hp, g, d, tk, os⟩ := s; obtain ⟨hl1, hl2, h⟩ := h
  have hsub := sub_zip
  have hL1 : Heap.IsList (Shared.heap ⟨hp, g, d, tk, os⟩) l1 xs := hl1
  have hL2 : Heap.IsList (Shared.heap ⟨hp.push { cls := .type "list_iterator", data := .fields #[.ref l1, .int 0 0] }, g, d, tk, os⟩) l2 ys := Heap.IsList.push hl2 _
  wp_walk using wpAny_pyIter_list hL1, wpAny_pyIter_list hL2
  simp only [Heap.size_push] at *
  exact ⟨_, rfl, h⟩
section
variable {prog : Program} {w : World} {A : Around} {E : Value -> Shared -> Prop} {s : Shared}
theorem wk {l1 l2 : Addr} {xs ys : Array Value} {Q : Value -> Shared -> Prop} (hl1 : s.heap.IsList l1 xs) (hl2 : s.heap.IsList l2 ys)
 (h : ∀ h', IsZip h' (s.heap.objs.size + 4) (s.heap.objs.size + 2) (s.heap.objs.size + 3) .none -> IsPair h' (s.heap.objs.size + 2) (.ref s.heap.objs.size) (.ref (s.heap.objs.size + 1)) ->
  IsPair h' (s.heap.objs.size + 3) .none .none -> h'.IsListIter s.heap.objs.size l1 0 -> h'.IsListIter (s.heap.objs.size + 1) l2 0 -> (∀ c o, s.heap.get? c = some o -> h'.get? c = some o) -> Q (.ref (s.heap.objs.size + 4)) { s with heap := h' }) :
 wpAny (model prog w) A (call (.type "zip") [.ref l1, .ref l2]) Q E s := by
 refine callType_new F.called_zip (by decide) (F.typeCall_zip_2 _ _) (F.newCall_zip_2 _ _) (fun obj => F.args_object_init_3 obj _ _) F.entry_zip_new (lY l1 l2 xs ys) ⟨hl1, hl2, ?_⟩
 generalize e1 : s.heap.push { cls := .type "list_iterator", data := .fields #[.ref l1, .int 0 0] } = t1
 have n1 : t1.objs.size = s.heap.objs.size + 1 := by rw [<- e1, Heap.size_push]
 have a1 : t1.get? s.heap.objs.size = some { cls := .type "list_iterator", data := .fields #[.ref l1, .int 0 0] } := by rw [<- e1]; exact Heap.get?_push_size _ rfl
 have k1 : ∀ c o, s.heap.get? c = some o -> t1.get? c = some o := fun c o e => by rw [<- e1]; exact Heap.get?_push_of_some _ e
 generalize e2 : t1.push { cls := .type "list_iterator", data := .fields #[.ref l2, .int 0 0] } = t2
 have n2 : t2.objs.size = s.heap.objs.size + 2 := by rw [<- e2, Heap.size_push, n1]
 have a2 : t2.get? (s.heap.objs.size + 1) = some { cls := .type "list_iterator", data := .fields #[.ref l2, .int 0 0] } := by rw [<- n1, <- e2]; exact Heap.get?_push_size _ rfl
 have k2 : ∀ c o, t1.get? c = some o -> t2.get? c = some o := fun c o e => by rw [<- e2]; exact Heap.get?_push_of_some _ e
 generalize e3 : t2.push { cls := .type "tuple", data := .seq #[.ref s.heap.objs.size, .ref (s.heap.objs.size + 1)] } = t3
 have n3 : t3.objs.size = s.heap.objs.size + 3 := by rw [<- e3, Heap.size_push, n2]
 have a3 : t3.get? (s.heap.objs.size + 2) = some { cls := .type "tuple", data := .seq #[.ref s.heap.objs.size, .ref (s.heap.objs.size + 1)] } := by rw [<- n2, <- e3]; exact Heap.get?_push_size _ rfl
 have k3 : ∀ c o, t2.get? c = some o -> t3.get? c = some o := fun c o e => by rw [<- e3]; exact Heap.get?_push_of_some _ e
 generalize e4 : t3.push { cls := .type "tuple", data := .seq #[.none, .none] } = t4
 have n4 : t4.objs.size = s.heap.objs.size + 4 := by rw [<- e4, Heap.size_push, n3]
 have a4 : t4.get? (s.heap.objs.size + 3) = some { cls := .type "tuple", data := .seq #[.none, .none] } := by rw [<- n3, <- e4]; exact Heap.get?_push_size _ rfl
 have k4 : ∀ c o, t3.get? c = some o -> t4.get? c = some o := fun c o e => by rw [<- e4]; exact Heap.get?_push_of_some _ e
 generalize e5 : t4.push { cls := .type "zip", data := .fields #[.none, .bool false, .bool false, .ref (s.heap.objs.size + 2), .ref (s.heap.objs.size + 3)] } = t5
 have a5 : t5.get? (s.heap.objs.size + 4) = some { cls := .type "zip", data := .fields #[.none, .bool false, .bool false, .ref (s.heap.objs.size + 2), .ref (s.heap.objs.size + 3)] } := by rw [<- n4, <- e5]; exact Heap.get?_push_size _ rfl
 have k5 : ∀ c o, t4.get? c = some o -> t5.get? c = some o := fun c o e => by rw [<- e5]; exact Heap.get?_push_of_some _ e
 exact ⟨⟨_, a5, rfl⟩, h t5 a5 (k5 _ _ (k4 _ _ a3)) (k5 _ _ a4) ⟨_, k5 _ _ (k4 _ _ (k3 _ _ (k2 _ _ a1))), rfl, rfl⟩ ⟨_, k5 _ _ (k4 _ _ (k3 _ _ a2)), rfl, rfl⟩ fun c o e => k5 _ _ (k4 _ _ (k3 _ _ (k2 _ _ (k1 _ _ e))))⟩
end
theorem lV (l1 l2 : Addr) (xs ys : Array Value) :
 Meets (Builtin.«zip.__new__» ⟨[.type "zip", .ref l1, .ref l2], []⟩) (fun _ R s => s.heap.IsList l1 xs /\ s.heap.IsTuple l2 ys /\
  R (.ok (.ret (.ref (s.heap.objs.size + 4)))) { s with heap := ((((s.heap.push { cls := .type "list_iterator", data := .fields #[.ref l1, .int 0 0] }).push { cls := .type "tuple_iterator", data := .fields #[.ref l2, .int 0 0] }).push { cls := .type "tuple", data := .seq #[.ref s.heap.objs.size, .ref (s.heap.objs.size + 1)] }).push { cls := .type "tuple", data := .seq #[.none, .none] }).push { cls := .type "zip", data := .fields #[.none, .bool false, .bool false, .ref (s.heap.objs.size + 2), .ref (s.heap.objs.size + 3)] } }) :=
 .of_wp fun prog w A R s h => by
  obtain ⟨hp, g, d, tk, os⟩ := s; obtain ⟨hl1, hl2, h⟩ := h
  have hsub := sub_zip
  have hL1 : Heap.IsList (Shared.heap ⟨hp, g, d, tk, os⟩) l1 xs := hl1
  have hL2 : Heap.IsTuple (Shared.heap ⟨hp.push { cls := .type "list_iterator", data := .fields #[.ref l1, .int 0 0] }, g, d, tk, os⟩) l2 ys := Heap.IsTuple.push hl2 _
  wp_walk using wpAny_pyIter_list hL1, wpAny_pyIter_tuple hL2
  simp only [Heap.size_push] at *
  exact ⟨_, rfl, h⟩
section
variable {prog : Program} {w : World} {A : Around} {E : Value -> Shared -> Prop} {s : Shared}
theorem vG {l1 l2 : Addr} {xs ys : Array Value} {Q : Value -> Shared -> Prop} (hl1 : s.heap.IsList l1 xs) (hl2 : s.heap.IsTuple l2 ys)
 (h : ∀ h', IsZip h' (s.heap.objs.size + 4) (s.heap.objs.size + 2) (s.heap.objs.size + 3) .none -> IsPair h' (s.heap.objs.size + 2) (.ref s.heap.objs.size) (.ref (s.heap.objs.size + 1)) ->
  IsPair h' (s.heap.objs.size + 3) .none .none -> h'.IsListIter s.heap.objs.size l1 0 -> h'.IsTupleIter (s.heap.objs.size + 1) l2 0 -> (∀ c o, s.heap.get? c = some o -> h'.get? c = some o) -> Q (.ref (s.heap.objs.size + 4)) { s with heap := h' }) :
 wpAny (model prog w) A (call (.type "zip") [.ref l1, .ref l2]) Q E s := by
 refine callType_new F.called_zip (by decide) (F.typeCall_zip_2 _ _) (F.newCall_zip_2 _ _) (fun obj => F.args_object_init_3 obj _ _) F.entry_zip_new (lV l1 l2 xs ys) ⟨hl1, hl2, ?_⟩
 generalize e1 : s.heap.push { cls := .type "list_iterator", data := .fields #[.ref l1, .int 0 0] } = t1
 have n1 : t1.objs.size = s.heap.objs.size + 1 := by rw [<- e1, Heap.size_push]
 have a1 : t1.get? s.heap.objs.size = some { cls := .type "list_iterator", data := .fields #[.ref l1, .int 0 0] } := by rw [<- e1]; exact Heap.get?_push_size _ rfl
 have k1 : ∀ c o, s.heap.get? c = some o -> t1.get? c = some o := fun c o e => by rw [<- e1]; exact Heap.get?_push_of_some _ e
 generalize e2 : t1.push { cls := .type "tuple_iterator", data := .fields #[.ref l2, .int 0 0] } = t2
 have n2 : t2.objs.size = s.heap.objs.size + 2 := by rw [<- e2, Heap.size_push, n1]
 have a2 : t2.get? (s.heap.objs.size + 1) = some { cls := .type "tuple_iterator", data := .fields #[.ref l2, .int 0 0] } := by rw [<- n1, <- e2]; exact Heap.get?_push_size _ rfl
 have k2 : ∀ c o, t1.get? c = some o -> t2.get? c = some o := fun c o e => by rw [<- e2]; exact Heap.get?_push_of_some _ e
 generalize e3 : t2.push { cls := .type "tuple", data := .seq #[.ref s.heap.objs.size, .ref (s.heap.objs.size + 1)] } = t3
 have n3 : t3.objs.size = s.heap.objs.size + 3 := by rw [<- e3, Heap.size_push, n2]
 have a3 : t3.get? (s.heap.objs.size + 2) = some { cls := .type "tuple", data := .seq #[.ref s.heap.objs.size, .ref (s.heap.objs.size + 1)] } := by rw [<- n2, <- e3]; exact Heap.get?_push_size _ rfl
 have k3 : ∀ c o, t2.get? c = some o -> t3.get? c = some o := fun c o e => by rw [<- e3]; exact Heap.get?_push_of_some _ e
 generalize e4 : t3.push { cls := .type "tuple", data := .seq #[.none, .none] } = t4
 have n4 : t4.objs.size = s.heap.objs.size + 4 := by rw [<- e4, Heap.size_push, n3]
 have a4 : t4.get? (s.heap.objs.size + 3) = some { cls := .type "tuple", data := .seq #[.none, .none] } := by rw [<- n3, <- e4]; exact Heap.get?_push_size _ rfl
 have k4 : ∀ c o, t3.get? c = some o -> t4.get? c = some o := fun c o e => by rw [<- e4]; exact Heap.get?_push_of_some _ e
 generalize e5 : t4.push { cls := .type "zip", data := .fields #[.none, .bool false, .bool false, .ref (s.heap.objs.size + 2), .ref (s.heap.objs.size + 3)] } = t5
 have a5 : t5.get? (s.heap.objs.size + 4) = some { cls := .type "zip", data := .fields #[.none, .bool false, .bool false, .ref (s.heap.objs.size + 2), .ref (s.heap.objs.size + 3)] } := by rw [<- n4, <- e5]; exact Heap.get?_push_size _ rfl
 have k5 : ∀ c o, t4.get? c = some o -> t5.get? c = some o := fun c o e => by rw [<- e5]; exact Heap.get?_push_of_some _ e
 exact ⟨⟨_, a5, rfl⟩, h t5 a5 (k5 _ _ (k4 _ _ a3)) (k5 _ _ a4) ⟨_, k5 _ _ (k4 _ _ (k3 _ _ (k2 _ _ a1))), rfl, rfl⟩ ⟨_, k5 _ _ (k4 _ _ (k3 _ _ a2)), rfl, rfl⟩ fun c o e => k5 _ _ (k4 _ _ (k3 _ _ (k2 _ _ (k1 _ _ e))))⟩
end
theorem mF (l1 l2 : Addr) (xs ys : Array Value) :
 Meets (Builtin.«zip.__new__» ⟨[.type "zip", .ref l1, .ref l2], []⟩) (fun _ R s => s.heap.IsTuple l1 xs /\ s.heap.IsList l2 ys /\
  R (.ok (.ret (.ref (s.heap.objs.size + 4)))) { s with heap := ((((s.heap.push { cls := .type "tuple_iterator", data := .fields #[.ref l1, .int 0 0] }).push { cls := .type "list_iterator", data := .fields #[.ref l2, .int 0 0] }).push { cls := .type "tuple", data := .seq #[.ref s.heap.objs.size, .ref (s.heap.objs.size + 1)] }).push { cls := .type "tuple", data := .seq #[.none, .none] }).push { cls := .type "zip", data := .fields #[.none, .bool false, .bool false, .ref (s.heap.objs.size + 2), .ref (s.heap.objs.size + 3)] } }) :=
 .of_wp fun prog w A R s h => by
  obtain ⟨hp, g, d, tk, os⟩ := s; obtain ⟨hl1, hl2, h⟩ := h
  have hsub := sub_zip
  have hL1 : Heap.IsTuple (Shared.heap ⟨hp, g, d, tk, os⟩) l1 xs := hl1
  have hL2 : Heap.IsList (Shared.heap ⟨hp.push { cls := .type "tuple_iterator", data := .fields #[.ref l1, .int 0 0] }, g, d, tk, os⟩) l2 ys := Heap.IsList.push hl2 _
  wp_walk using wpAny_pyIter_tuple hL1, wpAny_pyIter_list hL2
  simp only [Heap.size_push] at *
  exact ⟨_, rfl, h⟩
section
variable {prog : Program} {w : World} {A : Around} {E : Value -> Shared -> Prop} {s : Shared}
theorem vg {l1 l2 : Addr} {xs ys : Array Value} {Q : Value -> Shared -> Prop} (hl1 : s.heap.IsTuple l1 xs) (hl2 : s.heap.IsList l2 ys)
 (h : ∀ h', IsZip h' (s.heap.objs.size + 4) (s.heap.objs.size + 2) (s.heap.objs.size + 3) .none -> IsPair h' (s.heap.objs.size + 2) (.ref s.heap.objs.size) (.ref (s.heap.objs.size + 1)) ->
  IsPair h' (s.heap.objs.size + 3) .none .none -> h'.IsTupleIter s.heap.objs.size l1 0 -> h'.IsListIter (s.heap.objs.size + 1) l2 0 -> (∀ c o, s.heap.get? c = some o -> h'.get? c = some o) -> Q (.ref (s.heap.objs.size + 4)) { s with heap := h' }) :
 wpAny (model prog w) A (call (.type "zip") [.ref l1, .ref l2]) Q E s := by
 refine callType_new F.called_zip (by decide) (F.typeCall_zip_2 _ _) (F.newCall_zip_2 _ _) (fun obj => F.args_object_init_3 obj _ _) F.entry_zip_new (mF l1 l2 xs ys) ⟨hl1, hl2, ?_⟩
 generalize e1 : s.heap.push { cls := .type "tuple_iterator", data := .fields #[.ref l1, .int 0 0] } = t1
 have n1 : t1.objs.size = s.heap.objs.size + 1 := by rw [<- e1, Heap.size_push]
 have a1 : t1.get? s.heap.objs.size = some { cls := .type "tuple_iterator", data := .fields #[.ref l1, .int 0 0] } := by rw [<- e1]; exact Heap.get?_push_size _ rfl
 have k1 : ∀ c o, s.heap.get? c = some o -> t1.get? c = some o := fun c o e => by rw [<- e1]; exact Heap.get?_push_of_some _ e
 generalize e2 : t1.push { cls := .type "list_iterator", data := .fields #[.ref l2, .int 0 0] } = t2
 have n2 : t2.objs.size = s.heap.objs.size + 2 := by rw [<- e2, Heap.size_push, n1]
 have a2 : t2.get? (s.heap.objs.size + 1) = some { cls := .type "list_iterator", data := .fields #[.ref l2, .int 0 0] } := by rw [<- n1, <- e2]; exact Heap.get?_push_size _ rfl
 have k2 : ∀ c o, t1.get? c = some o -> t2.get? c = some o := fun c o e => by rw [<- e2]; exact Heap.get?_push_of_some _ e
 generalize e3 : t2.push { cls := .type "tuple", data := .seq #[.ref s.heap.objs.size, .ref (s.heap.objs.size + 1)] } = t3
 have n3 : t3.objs.size = s.heap.objs.size + 3 := by rw [<- e3, Heap.size_push, n2]
 have a3 : t3.get? (s.heap.objs.size + 2) = some { cls := .type "tuple", data := .seq #[.ref s.heap.objs.size, .ref (s.heap.objs.size + 1)] } := by rw [<- n2, <- e3]; exact Heap.get?_push_size _ rfl
 have k3 : ∀ c o, t2.get? c = some o -> t3.get? c = some o := fun c o e => by rw [<- e3]; exact Heap.get?_push_of_some _ e
 generalize e4 : t3.push { cls := .type "tuple", data := .seq #[.none, .none] } = t4
 have n4 : t4.objs.size = s.heap.objs.size + 4 := by rw [<- e4, Heap.size_push, n3]
 have a4 : t4.get? (s.heap.objs.size + 3) = some { cls := .type "tuple", data := .seq #[.none, .none] } := by rw [<- n3, <- e4]; exact Heap.get?_push_size _ rfl
 have k4 : ∀ c o, t3.get? c = some o -> t4.get? c = some o := fun c o e => by rw [<- e4]; exact Heap.get?_push_of_some _ e
 generalize e5 : t4.push { cls := .type "zip", data := .fields #[.none, .bool false, .bool false, .ref (s.heap.objs.size + 2), .ref (s.heap.objs.size + 3)] } = t5
 have a5 : t5.get? (s.heap.objs.size + 4) = some { cls := .type "zip", data := .fields #[.none, .bool false, .bool false, .ref (s.heap.objs.size + 2), .ref (s.heap.objs.size + 3)] } := by rw [<- n4, <- e5]; exact Heap.get?_push_size _ rfl
 have k5 : ∀ c o, t4.get? c = some o -> t5.get? c = some o := fun c o e => by rw [<- e5]; exact Heap.get?_push_of_some _ e
 exact ⟨⟨_, a5, rfl⟩, h t5 a5 (k5 _ _ (k4 _ _ a3)) (k5 _ _ a4) ⟨_, k5 _ _ (k4 _ _ (k3 _ _ (k2 _ _ a1))), rfl, rfl⟩ ⟨_, k5 _ _ (k4 _ _ (k3 _ _ a2)), rfl, rfl⟩ fun c o e => k5 _ _ (k4 _ _ (k3 _ _ (k2 _ _ (k1 _ _ e))))⟩
end
theorem mC (l1 l2 : Addr) (xs ys : Array Value) :
 Meets (Builtin.«zip.__new__» ⟨[.type "zip", .ref l1, .ref l2], []⟩) (fun _ R s => s.heap.IsTuple l1 xs /\ s.heap.IsTuple l2 ys /\
  R (.ok (.ret (.ref (s.heap.objs.size + 4)))) { s with heap := ((((s.heap.push { cls := .type "tuple_iterator", data := .fields #[.ref l1, .int 0 0] }).push { cls := .type "tuple_iterator", data := .fields #[.ref l2, .int 0 0] }).push { cls := .type "tuple", data := .seq #[.ref s.heap.objs.size, .ref (s.heap.objs.size + 1)] }).push { cls := .type "tuple", data := .seq #[.none, .none] }).push { cls := .type "zip", data := .fields #[.none, .bool false, .bool false, .ref (s.heap.objs.size + 2), .ref (s.heap.objs.size + 3)] } }) :=
 .of_wp fun prog w A R s h => by
  obtain ⟨hp, g, d, tk, os⟩ := s; obtain ⟨hl1, hl2, h⟩ := h
  have hsub := sub_zip
  have hL1 : Heap.IsTuple (Shared.heap ⟨hp, g, d, tk, os⟩) l1 xs := hl1
  have hL2 : Heap.IsTuple (Shared.heap ⟨hp.push { cls := .type "tuple_iterator", data := .fields #[.ref l1, .int 0 0] }, g, d, tk, os⟩) l2 ys := Heap.IsTuple.push hl2 _
  wp_walk using wpAny_pyIter_tuple hL1, wpAny_pyIter_tuple hL2
  simp only [Heap.size_push] at *
  exact ⟨_, rfl, h⟩
section
variable {prog : Program} {w : World} {A : Around} {E : Value -> Shared -> Prop} {s : Shared}
theorem wA {l1 l2 : Addr} {xs ys : Array Value} {Q : Value -> Shared -> Prop} (hl1 : s.heap.IsTuple l1 xs) (hl2 : s.heap.IsTuple l2 ys)
 (h : ∀ h', IsZip h' (s.heap.objs.size + 4) (s.heap.objs.size + 2) (s.heap.objs.size + 3) .none -> IsPair h' (s.heap.objs.size + 2) (.ref s.heap.objs.size) (.ref (s.heap.objs.size + 1)) ->
  IsPair h' (s.heap.objs.size + 3) .none .none -> h'.IsTupleIter s.heap.objs.size l1 0 -> h'.IsTupleIter (s.heap.objs.size + 1) l2 0 -> (∀ c o, s.heap.get? c = some o -> h'.get? c = some o) -> Q (.ref (s.heap.objs.size + 4)) { s with heap := h' }) :
 wpAny (model prog w) A (call (.type "zip") [.ref l1, .ref l2]) Q E s := by
 refine callType_new F.called_zip (by decide) (F.typeCall_zip_2 _ _) (F.newCall_zip_2 _ _) (fun obj => F.args_object_init_3 obj _ _) F.entry_zip_new (mC l1 l2 xs ys) ⟨hl1, hl2, ?_⟩
 generalize e1 : s.heap.push { cls := .type "tuple_iterator", data := .fields #[.ref l1, .int 0 0] } = t1
 have n1 : t1.objs.size = s.heap.objs.size + 1 := by rw [<- e1, Heap.size_push]
 have a1 : t1.get? s.heap.objs.size = some { cls := .type "tuple_iterator", data := .fields #[.ref l1, .int 0 0] } := by rw [<- e1]; exact Heap.get?_push_size _ rfl
 have k1 : ∀ c o, s.heap.get? c = some o -> t1.get? c = some o := fun c o e => by rw [<- e1]; exact Heap.get?_push_of_some _ e
 generalize e2 : t1.push { cls := .type "tuple_iterator", data := .fields #[.ref l2, .int 0 0] } = t2
 have n2 : t2.objs.size = s.heap.objs.size + 2 := by rw [<- e2, Heap.size_push, n1]
 have a2 : t2.get? (s.heap.objs.size + 1) = some { cls := .type "tuple_iterator", data := .fields #[.ref l2, .int 0 0] } := by rw [<- n1, <- e2]; exact Heap.get?_push_size _ rfl
 have k2 : ∀ c o, t1.get? c = some o -> t2.get? c = some o := fun c o e => by rw [<- e2]; exact Heap.get?_push_of_some _ e
 generalize e3 : t2.push { cls := .type "tuple", data := .seq #[.ref s.heap.objs.size, .ref (s.heap.objs.size + 1)] } = t3
 have n3 : t3.objs.size = s.heap.objs.size + 3 := by rw [<- e3, Heap.size_push, n2]
 have a3 : t3.get? (s.heap.objs.size + 2) = some { cls := .type "tuple", data := .seq #[.ref s.heap.objs.size, .ref (s.heap.objs.size + 1)] } := by rw [<- n2, <- e3]; exact Heap.get?_push_size _ rfl
 have k3 : ∀ c o, t2.get? c = some o -> t3.get? c = some o := fun c o e => by rw [<- e3]; exact Heap.get?_push_of_some _ e
 generalize e4 : t3.push { cls := .type "tuple", data := .seq #[.none, .none] } = t4
 have n4 : t4.objs.size = s.heap.objs.size + 4 := by rw [<- e4, Heap.size_push, n3]
 have a4 : t4.get? (s.heap.objs.size + 3) = some { cls := .type "tuple", data := .seq #[.none, .none] } := by rw [<- n3, <- e4]; exact Heap.get?_push_size _ rfl
 have k4 : ∀ c o, t3.get? c = some o -> t4.get? c = some o := fun c o e => by rw [<- e4]; exact Heap.get?_push_of_some _ e
 generalize e5 : t4.push { cls := .type "zip", data := .fields #[.none, .bool false, .bool false, .ref (s.heap.objs.size + 2), .ref (s.heap.objs.size + 3)] } = t5
 have a5 : t5.get? (s.heap.objs.size + 4) = some { cls := .type "zip", data := .fields #[.none, .bool false, .bool false, .ref (s.heap.objs.size + 2), .ref (s.heap.objs.size + 3)] } := by rw [<- n4, <- e5]; exact Heap.get?_push_size _ rfl
 have k5 : ∀ c o, t4.get? c = some o -> t5.get? c = some o := fun c o e => by rw [<- e5]; exact Heap.get?_push_of_some _ e
 exact ⟨⟨_, a5, rfl⟩, h t5 a5 (k5 _ _ (k4 _ _ a3)) (k5 _ _ a4) ⟨_, k5 _ _ (k4 _ _ (k3 _ _ (k2 _ _ a1))), rfl, rfl⟩ ⟨_, k5 _ _ (k4 _ _ (k3 _ _ a2)), rfl, rfl⟩ fun c o e => k5 _ _ (k4 _ _ (k3 _ _ (k2 _ _ (k1 _ _ e))))⟩
end
end PySem
end
section
namespace L2
open PySem PySem.Spec PyProof.Rows
noncomputable def Sq (t : Bool) (K : PySem.W.Frag) (H : Hp) (a : Addr) (xs : List V) : Prop := if t then iY K H a xs else gw K H a xs
noncomputable def Ol (t : Bool) (h : Heap) (a : Addr) (xs : Array Value) : Prop := if t then h.IsTuple a xs else h.IsList a xs
noncomputable def zP (t : Bool) (h : Heap) (i a : Addr) (k : Nat) : Prop := if t then h.IsTupleIter i a k else h.IsListIter i a k
section
variable {X : Cx} {pins : List (Addr × Obj)} {σ : L2.St} {H : Hp} {s : Shared}
theorem Inv.sq {t : Bool} {a : Addr} {xs : List V} (I : Inv X pins σ H s) (h : Sq t X.K H a xs) : ∃ its : List Value, Vals xs its /\ Ol t s.heap a its.toArray := by
 cases t with
 | true => obtain ⟨its, rv, pl, _⟩ := I.tuple h; exact ⟨its, rv, pl⟩
 | false => obtain ⟨its, rv, pl, _⟩ := I.list h; exact ⟨its, rv, pl.isList⟩
theorem Inv.Bd {t : Bool} {a : Addr} {xs ys : List V} (I : Inv X pins σ H s) (h : Sq t X.K H a xs) (h' : Sq t X.K H a ys) : xs = ys := by
 cases t with
 | true => exact I.kJ h h'
 | false => exact I.oK h h'
theorem Ol.lt {t : Bool} {h : Heap} {a : Addr} {xs : Array Value} (q : Ol t h a xs) : a < h.objs.size := by
 cases t with
 | true => obtain ⟨o, e, _⟩ := id q; exact Heap.lt_size e
 | false => obtain ⟨o, e, _⟩ := id q; exact Heap.lt_size e
theorem zP.obj {t : Bool} {h : Heap} {i a : Addr} {k : Nat} (q : zP t h i a k) : ∃ o, h.get? i = some o /\ ∀ v, o.data ≠ .cell v := by
 cases t with
 | true => obtain ⟨o, h2, h3, h4⟩ := id q; exact ⟨o, h2, fun v z => by rw [h4] at z; cases z⟩
 | false => obtain ⟨o, h2, h3, h4⟩ := id q; exact ⟨o, h2, fun v z => by rw [h4] at z; cases z⟩
theorem zP.keep {t : Bool} {h h' : Heap} {i a : Addr} {k : Nat} (q : zP t h i a k) (e : ∀ o, h.get? i = some o -> h'.get? i = some o) : zP t h' i a k := by
 cases t with
 | true => obtain ⟨o, h2, r⟩ := id q; exact ⟨o, e o h2, r⟩
 | false => obtain ⟨o, h2, r⟩ := id q; exact ⟨o, e o h2, r⟩
theorem Eu (t : Bool) {prog : Program} {w : World} {A : Around} (hh : A.handled = none) (it l : Addr) (hne : l ≠ it) (items : Array Value) : Nx prog w A it l (fun k h => zP t h it l k /\ Ol t h l items) (fun k => items[k]?) := by
 cases t with
 | true => exact Nx.tuple hh it l hne items
 | false => exact Nx.list hh it l hne items
theorem Inv.zV {ch : List Addr} {h' : Heap} (I : Inv X pins σ H s) (k : ∀ b u, b ∉ ch -> s.heap.get? b = some u -> h'.get? b = some u) (hf : ∀ b ∈ ch, kW X pins H b) :
 Inv X pins σ H { s with heap := h' } := by
 have DG : ∀ b u, H b = some u -> b ∉ ch := fun b u e hb => by rw [(hf b hb).1] at e; cases e
 refine I.call (g' := s.gens) (d' := s.drawn) (t' := s.toks) (ch := ch) ⟨fun b u e n _ hx => k b u hx e, fun b u e n _ hx => ⟨u.slots, k b u hx e⟩, fun b u e n hx => n, fun b u e hx => ⟨u, k b u hx e⟩, fun b xs e => e, fun b ob u e => e, fun b ps e => ⟨#[], by rw [e]; simp⟩⟩ ?_ I.bare
  fun b hb => ⟨(hf b hb).2.2.2.1, (hf b hb).2.1, (hf b hb).2.2.2.2.1, (hf b hb).2.2.2.2.2⟩
 intro b u e
 refine (I.hok b u e).stay (fun c v hc q => k c v ?_ q) (fun c q => q) fun c xs q => q
 rcases hc with rfl | hc
 . exact DG _ _ e
 . exact DG _ _ hc
end
noncomputable def QV (t1 t2 : Bool) (K : PySem.W.Frag) (a b : Addr) : It :=
 ⟨fun i H => ∃ xs ys x y, Sq t1 K H a xs /\ Sq t2 K H b ys /\ xs[i]? = some x /\ ys[i]? = some y,
  fun i H x H' => ∃ T v w, H T = none /\ x = .ref T /\ H' = upd H T (.tup [v, w]) /\ (∀ xs, Sq t1 K H a xs -> xs[i]? = some v) /\ ∀ ys, Sq t2 K H b ys -> ys[i]? = some w,
  fun i H => ∃ xs ys, Sq t1 K H a xs /\ Sq t2 K H b ys /\ (xs.length <= i \/ ys.length <= i)⟩
theorem BK {P : Program} {w : World} {K : PySem.W.Frag} {elts : List Expr} {x1} {tp : Pos} (t1 t2 : Bool) {z TI TO i1 i2 l1 l2 : Addr} (D : ZipApart z TI TO i1 i2 l1 l2) :
 Turn P w K (.Tuple elts x1 tp) (QV t1 t2 K l1 l2) [z, TI, TO, i1, i2] z (fun i h => IsZip h z TI TO .none /\ IsPair h TI (.ref i1) (.ref i2) /\ (∃ a b, IsPair h TO a b) /\ zP t1 h i1 l1 i /\ zP t2 h i2 l2 i) where
 mem := by simp
 obj := fun i h st b hb => by
  obtain ⟨h1, h2, ⟨u, v, h3⟩, h4, h5⟩ := st
  simp only [List.mem_cons, List.not_mem_nil, or_false] at hb
  rcases hb with rfl | rfl | rfl | rfl | rfl
  . exact ⟨_, h1, fun v z => by cases z⟩
  . exact ⟨_, h2, fun v z => by cases z⟩
  . exact ⟨_, h3, fun v z => by cases z⟩
  . exact h4.obj
  . exact h5.obj
 keep := fun i h h' st k => by
  obtain ⟨h1, h2, ⟨u, v, h3⟩, h4, h5⟩ := st
  exact ⟨k z (by simp) _ h1, k TI (by simp) _ h2, ⟨u, v, k TO (by simp) _ h3⟩, h4.keep (k i1 (by simp)), h5.keep (k i2 (by simp))⟩
 item := fun X hP hw hK hc i pins s σ H E I hf st go => by
  subst hP hw hK
  obtain ⟨h1, h2, ⟨u, v, h3⟩, h4, h5⟩ := st
  obtain ⟨xs, ys, x, y, hq1, hq2, hx, hy⟩ := go
  obtain ⟨Hr, VB, Pj⟩ := I.sq hq1
  obtain ⟨its2, MF, Jd⟩ := I.sq hq2
  obtain ⟨ux, hu1, hu2⟩ := VB.get hx
  obtain ⟨uy, hw1, hw2⟩ := MF.get hy
  have hh : X.A.in1.handled = none := I.ok.hd hc
  refine lD D (Eu t1 hh i1 l1 D.l1i1 Hr.toArray) (Eu t2 hh i2 l2 D.l2i2 its2.toArray) h1 h2 h3 (k := i) ⟨h4, Pj⟩ ⟨h5, Jd⟩ (x := ux) (y := uy) (by simpa using hu1) (by simpa using hw1) fun h' z1 p1 s1 s2 pT hsz kp => ?_
  refine ⟨_, rfl, wpAny_letOwnedTupleGo_zip z1 fun h'' z2 sb => ?_⟩
  have hlt : ∀ b ∈ [z, TI, TO, i1, i2], b ≠ s.heap.objs.size := fun b hb => by
   simp only [List.mem_cons, List.not_mem_nil, or_false] at hb
   rcases hb with rfl | rfl | rfl | rfl | rfl
   . exact Nat.ne_of_lt (Heap.lt_size h1)
   . exact Nat.ne_of_lt (Heap.lt_size h2)
   . exact Nat.ne_of_lt (Heap.lt_size h3)
   . exact Nat.ne_of_lt (Heap.lt_size h4.obj.choose_spec.1)
   . exact Nat.ne_of_lt (Heap.lt_size h5.obj.choose_spec.1)
  have kp2 : ∀ b o, b ∉ [z, TO, i1, i2] -> s.heap.get? b = some o -> h''.get? b = some o := fun b o hb q => by
   simp only [List.mem_cons, List.not_mem_nil, or_false, not_or] at hb
   exact sb.extBut b o hb.1 (kp b o hb.1 hb.2.1 hb.2.2.1 hb.2.2.2 q)
  have pT2 : IsPair h'' s.heap.objs.size ux uy := sb.extBut _ _ (hlt z (by simp)).symm pT
  have p2 : IsPair h'' TO ux uy := sb.extBut _ _ D.TOz p1
  have j1 : zP t1 h'' i1 l1 (i + 1) := s1.1.keep fun o e => sb.extBut _ _ D.i1z e
  have j2 : zP t2 h'' i2 l2 (i + 1) := s2.1.keep fun o e => sb.extBut _ _ D.i2z e
  refine ⟨.ref s.heap.objs.size, upd H s.heap.objs.size (.tup [x, y]), ?_, rfl, ⟨_, x, y, I.fresh, rfl, rfl, fun zs hz => ?_, fun zs hz => ?_⟩, ⟨z2, kp2 TI _ ?_ h2, ⟨_, _, p2⟩, j1, j2⟩, fun b hb => ?_⟩
  . refine I.KH (ch := [z, TO, i1, i2]) (t' := s.toks) kp2 (fun b hb => ?_) (fun b hb => hf b ?_) ⟨(by show 2 <= sizeLine; decide), [ux, uy], .cons hu2 (.cons hw2 .nil), ⟨_, pT2, rfl, _, rfl⟩⟩
    . simp only [List.mem_cons, List.not_mem_nil, or_false] at hb
      rcases hb with rfl | rfl | rfl | rfl
      . exact ⟨_, z2⟩
      . exact ⟨_, p2⟩
      . exact ⟨_, j1.obj.choose_spec.1⟩
      . exact ⟨_, j2.obj.choose_spec.1⟩
    . simp only [List.mem_cons, List.not_mem_nil, or_false] at hb ⊢
      rcases hb with h | h | h | h <;> simp [h]
  . rw [I.Bd hz hq1]; exact hx
  . rw [I.Bd hz hq2]; exact hy
  . simp [D.TIz, D.TITO, D.TIi1, D.TIi2]
  . rw [aL (hlt b hb)]; exact (hf b hb).1
 done := fun X hP hw hK hc i pins s σ H E I hf st stop => by
  subst hP hw hK
  obtain ⟨h1, h2, ⟨u, v, h3⟩, h4, h5⟩ := st
  obtain ⟨xs, ys, hq1, hq2, hx⟩ := stop
  obtain ⟨Hr, VB, Pj⟩ := I.sq hq1
  obtain ⟨its2, MF, Jd⟩ := I.sq hq2
  have hh : X.A.in1.handled = none := I.ok.hd hc
  refine mj D (Eu t1 hh i1 l1 D.l1i1 Hr.toArray) (Eu t2 hh i2 l2 D.l2i2 its2.toArray) h1 h2 h3 (k := i) ⟨h4, Pj⟩ ⟨h5, Jd⟩ ?_ fun h' kp => ⟨rfl, ?_⟩
  . rcases hx with hx | hx
    . left; rw [VB.length] at hx; simpa using hx
    . right; rw [MF.length] at hx; simpa using hx
  . exact I.zV (ch := [z, TO, i1, i2]) (fun b u hb q => by
     simp only [List.mem_cons, List.not_mem_nil, or_false, not_or] at hb
     exact kp b u hb.1 hb.2.1 hb.2.2.1 hb.2.2.2 q) fun b hb => hf b (by
     simp only [List.mem_cons, List.not_mem_nil, or_false] at hb ⊢
     rcases hb with h | h | h | h <;> simp [h])
 self := fun A i s Q E st q => wpAny_pyIter_zip st.1 q
section
variable {X : Cx} {elts : List Expr} {x1 : Nat} {tp : Pos}
theorem yH {prog : Program} {w : World} {A : Around} {E : Value -> Shared -> Prop} {s : Shared} (t1 t2 : Bool) {l1 l2 : Addr} {xs ys : Array Value} {Q : Value -> Shared -> Prop} (hl1 : Ol t1 s.heap l1 xs) (hl2 : Ol t2 s.heap l2 ys)
 (h : ∀ h', IsZip h' (s.heap.objs.size + 4) (s.heap.objs.size + 2) (s.heap.objs.size + 3) .none -> IsPair h' (s.heap.objs.size + 2) (.ref s.heap.objs.size) (.ref (s.heap.objs.size + 1)) ->
  IsPair h' (s.heap.objs.size + 3) .none .none -> zP t1 h' s.heap.objs.size l1 0 -> zP t2 h' (s.heap.objs.size + 1) l2 0 -> (∀ c o, s.heap.get? c = some o -> h'.get? c = some o) -> Q (.ref (s.heap.objs.size + 4)) { s with heap := h' }) :
 wpAny (model prog w) A (call (.type "zip") [.ref l1, .ref l2]) Q E s := by
 cases t1 <;> cases t2
 . exact wk hl1 hl2 h
 . exact vG hl1 hl2 h
 . exact vg hl1 hl2 h
 . exact wA hl1 hl2 h
theorem Jg {n l m : Nat} (h1 : l < n) (h2 : m < n) : ZipApart (n + 4) (n + 2) (n + 3) n (n + 1) l m := by
 constructor <;> exact fun h => absurd (show (_ : Nat) = _ from h) (by omega)
noncomputable def W7 (K : PySem.W.Frag) (R : It -> Hp -> Prop) (vs : List V) (H1 : Hp) : Prop := ∃ t1 t2 a b, vs = [.ref a, .ref b] /\ (∃ xs, Sq t1 K H1 a xs) /\ (∃ ys, Sq t2 K H1 b ys) /\ R (QV t1 t2 K a b) H1
noncomputable def Xm (K : PySem.W.Frag) (ta : TA) : TI := fun σ H R => ta σ H (W7 K R)
theorem boot_zip : bootBuiltins "zip" = some (.type "zip") := by decide +kernel
theorem JH {a b : Expr} {ta : TA} {p pos : Pos} (hg : Gl X "zip") (hm : X.mg "zip" = none) (ha : PA X [a, b] ta) (hs : starEach [a, b] X.env = [(false, eval a X.env), (false, eval b X.env)] := by rfl) (hs2 : starEach [b] X.env = [(false, eval b X.env)] := by rfl) :
 PI X (.Tuple elts x1 tp) (.Call (.Name "zip" p) [a, b] [] pos) (Xm X.K ta) := by
 intro pins s σ H R I h
 refine Call_ (nD I hg hm boot_zip (PyProof.Rows.callWith_type1 (cI (ha pos pins s σ H _ I h) ?_) (by rw [hs, hs2]) (by rw [hs2]; rfl)))
 rintro us s1 ⟨vs, H1, I1, r1, q1⟩
 obtain ⟨t1, t2, l1, l2, rfl, ⟨xs, hq1⟩, ⟨ys, hq2⟩, q⟩ := q1
 obtain ⟨u, v, rfl, ru, rv⟩ := r1.two
 cases ru; cases rv
 obtain ⟨Hr, VB, Pj⟩ := I1.sq hq1
 obtain ⟨its2, MF, Jd⟩ := I1.sq hq2
 have b1 := Pj.lt
 have b2 := Jd.lt
 refine yH t1 t2 Pj Jd fun h' z0 p0 o0 j1 j2 kp => ?_
 have D : ZipApart (s1.heap.objs.size + 4) (s1.heap.objs.size + 2) (s1.heap.objs.size + 3) s1.heap.objs.size (s1.heap.objs.size + 1) l1 l2 := Jg b1 b2
 refine wpAny_pyIter_zip z0 ⟨_, _, _, _, H1, rfl, I1.kept (t' := s1.toks) kp, BK t1 t2 D, ⟨z0, p0, ⟨_, _, o0⟩, j1, j2⟩, fun b hb => ?_, q⟩
 have hb' : s1.heap.objs.size <= b := by
  simp only [List.mem_cons, List.not_mem_nil, or_false] at hb
  rcases hb with rfl | rfl | rfl | rfl | rfl <;> first | exact Nat.le_add_right _ _ | exact Nat.le_refl _
 exact I1.yE hb' (I1.hok.fresh hb')
end
end L2
namespace HH
open PySem L2 PySem.Spec PyProof.Rows
section
variable {K : PySem.W.Frag} {F F1 H H1 : Hp} {ρ ρ1 : List Sl} {σ : L2.St} {ds es : List D} {a b : Addr}
theorem aQ.sq {t : Bool} {xs : List V} (e : aQ F H) (h : Sq t K F a xs) : Sq t K H a xs := by
 cases t with
 | true => exact aQ.iZ e h
 | false => exact e.seq h
theorem Fz {t1 t2 : Bool} {xs ys : List V} {F' H' : Hp} (hq1 : Sq t1 K H' a xs) (hq2 : Sq t2 K H' b ys) (r1 : aJ K F' xs ds) (r2 : aJ K F' ys es) (s : aQ F' H') (k : Nat) :
 (∀ d, ((ds.zip es).map fun p => D.tup [p.1, p.2])[k]? = some d -> (QV t1 t2 K a b).go k H' /\ ∀ x pq, (QV t1 t2 K a b).Ja k H' x pq -> ∃ F'', Ext F' H' F'' pq /\ Rep K F'' x d) /\ (((ds.zip es).map fun p => D.tup [p.1, p.2]).length <= k -> (QV t1 t2 K a b).stop k H') := by
 refine ⟨fun d hd => ?_, fun h => ⟨xs, ys, hq1, hq2, by rw [r1.length, r2.length]; rw [List.length_map, List.length_zip] at h; omega⟩⟩
 rw [List.getElem?_map] at hd
 obtain ⟨⟨d0, d1⟩, e1, e2⟩ := map_some hd
 subst e2
 obtain ⟨f1, f2⟩ := List.getElem?_zip_eq_some.mp e1
 obtain ⟨w, h1, h2⟩ := r1.get f1
 obtain ⟨w', h1', h2'⟩ := r2.get f2
 refine ⟨⟨xs, ys, w, w', hq1, hq2, h1, h1'⟩, ?_⟩
 rintro x pq ⟨T, v, v', hT, hx, hH, y, y'⟩
 subst hx; subst hH
 have := y xs hq1
 rw [h1] at this; cases this
 have := y' ys hq2
 rw [h1'] at this; cases this
 exact Bg s hT h2 h2'
theorem Al {v : V} {d : D} {ds : List D} (h : Rep K F v d) (e : items d = some ds) : ∃ t a xs, v = .ref a /\ Sq t K F a xs /\ aJ K F xs ds := by
 cases d with
 | tup es =>
   cases e
   rw [Rep] at h
   obtain ⟨a, xs, rfl, h1, h2⟩ := h
   exact ⟨true, a, xs, rfl, h1, h2⟩
 | lst es =>
   cases e
   rw [Rep] at h
   obtain ⟨a, xs, rfl, h1, h2⟩ := h
   exact ⟨false, a, xs, rfl, h1, h2⟩
 | _ => cases e
end
section
variable {X : Cx} {c : Call} {e a b : Expr} {pa pb : P} {pos : Pos} {elts : List Expr} {x1 : Nat} {tp : Pos}
theorem Ji {x : Str} {p' : Pos} (hx : x = "zip") (hg : Gl X x) (hm : X.mg x = none) (ha : SX X c a pa) (hb : SX X c b pb) (hs : starEach [a, b] X.env = [(false, eval a X.env), (false, eval b X.env)] := by rfl) (hs2 : starEach [b] X.env = [(false, eval b X.env)] := by rfl) :
 SI X c (.Tuple elts x1 tp) (.Call (.Name x p') [a, b] [] pos) (.zip pa pb) := by
 subst hx
 refine qg (JH hg hm (m5 ha (m5 hb aY hs2) (by rw [hs, hs2])).1 hs hs2) ?_
 rintro σ H R ⟨F, ρ, ds, ρ1, g, e, k⟩
 obtain ⟨r, ρ2, e1, e2⟩ := ao e
 have zz := aG e2; clear e2; obtain ⟨e2, e3⟩ := zz
 subst e3
 rw [HH.ev] at e1
 obtain ⟨x0, ρ3, e4, e7⟩ := ao e1
 obtain ⟨y0, ρ4, e5, e8⟩ := ao e7
 have zz := aG e8; clear e8; obtain ⟨e8, e6⟩ := zz
 subst e6
 obtain ⟨us, f1, e9⟩ := dC e8
 obtain ⟨ws, f2, f3⟩ := map_some e9
 subst f3
 cases e2
 refine ⟨F, ρ, [x0.d, y0.d], _, g, by rw [evs, e4]; show (evs c [pb] ρ3).bind _ = _; rw [evs, e5]; rfl, fun vs F' H' s rr => ?_⟩
 obtain ⟨v, r', rfl, rv, rr⟩ := rr.cB
 obtain ⟨u, r'', rfl, ru, rr⟩ := rr.cB
 rw [rr.gf]
 obtain ⟨t1, a1, xs, rfl, q1, r1⟩ := Al rv f1
 obtain ⟨t2, a2, ys, rfl, q2, r2⟩ := Al ru f2
 exact ⟨t1, t2, a1, a2, rfl, ⟨xs, aQ.sq s.gs.sub q1⟩, ⟨ys, aQ.sq s.gs.sub q2⟩, k _ _ _ ⟨s.gs, fun n k F' ρ' σ' H' s' => Fz (aQ.sq s'.gs.sub (aQ.sq s'.cZ q1)) (aQ.sq s'.gs.sub (aQ.sq s'.cZ q2)) (r1.mono s'.cZ) (r2.mono s'.cZ) s'.gs.sub k, fun F3 ρ3 σ3 H3 s3 => ⟨s.trans s3, fun v r rr => rr.later s⟩⟩⟩
end
end HH
end
section
namespace HH
open PySem L2 PySem.Spec PyProof.Rows
structure bN (K : PySem.W.Frag) (x : Str) (st : Stmt) : Prop where
 ex : ∃ f fd, PySem.W.nsIn K mainGlobals x = some (some (.ref f)) /\ ig K x x st f fd
section
variable {Pg : Program} {w : World} {K : PySem.W.Frag} {mg : Str -> Option Value} {base h : Heap}
theorem bA {x : Str} {st : Stmt} {f : Addr} {oc : Value} {od an : Option Addr} {osl : Array (Option Value)} {kV doc pm cdv ct : Value} (a : PySem.W.nsIn K mainGlobals x = some (some (.ref f)))
 (l : K.lookup f = some ⟨oc, od, .func (PySem.W.fnOf x x (gZ st) (fH st) (aD st) .none kV doc pm an cdv ct), osl⟩)
 (c : PySem.W.codeIn K cdv x = true) (k : PySem.W.keepIn K (.ref f) = true) : bN K x st := ⟨_, _, a, Ke l c k⟩
theorem bY {Γ : Tab} {wl i np : Nat} {x : Str} {st : Stmt} {ps : List Str} (X : K.In h) (G : h.Ns mainGlobals mg) (D : bN K x st) (hp : ps.length = np)
 (hb : ∀ (kV doc pm : Value) (an : Option Addr) (cdv ct : Value) (us : List Value), us.length = ps.length -> bindArgs (PySem.W.fnOf x x (gZ st) (fH st) (aD st) .none kV doc pm an cdv ct) ⟨us, []⟩ = pure (ps.zip us)) :
 az Pg w K mg base 0 (run Γ wl 0) i x np := by
 obtain ⟨f, fd, a, F⟩ := D.ex
 exact ⟨f, fd, ps, ⟨fun vs H Q E s => s.1, fun A outer s H args us vs Q E hr e b v sp => by obtain ⟨_, F, as, r, as', _, z, _⟩ := sp; cases z⟩, PySem.W.mg_of X G a, F.kp, F.binds hb, hp⟩
theorem bV {Γ : Tab} {wl n i np : Nat} {x : Str} {st : Stmt} {ps : List Str} {d : Fd} (X : K.In h) (G : h.Ns mainGlobals mg) (D : bN K x st) (hp : ps.length = np) (hΓ : Γ i = some d)
 (hb : ∀ (kV doc pm : Value) (an : Option Addr) (cdv ct : Value) (us : List Value), us.length = ps.length -> bindArgs (PySem.W.fnOf x x (gZ st) (fH st) (aD st) .none kV doc pm an cdv ct) ⟨us, []⟩ = pure (ps.zip us))
 (ok : ∀ f fd, ig K x x st f fd -> cj Pg w K mg base gG (n + 1) f fd ps (ik K np (fun args => enter (run Γ wl n) wl d args))) :
 az Pg w K mg base (n + 1) (run Γ wl (n + 1)) i x np := by
 obtain ⟨f, fd, a, F⟩ := D.ex
 refine ⟨f, fd, ps, ?_, PySem.W.mg_of X G a, F.kp, F.binds hb, hp⟩
 have e : run Γ wl (n + 1) i = fun args => enter (run Γ wl n) wl d args := by
  funext args
  show (match Γ i with | some d => enter (run Γ wl n) wl d args | none => .stuck) = _
  rw [hΓ]
 rw [e, hp]
 exact ok f fd F
theorem pU {F : Hp} : ∀ ns : List Int, aJ K F (ns.map V.int) (ns.map D.int)
 | [] => .nil
 | n :: ns => .cons (bZ n) (pU ns)
theorem zy {H : Hp} {a : Addr} {ns : List Int} {g : List Sl -> Res R} {as : List Sl} (hS : gw K H a (ns.map V.int)) (hr : g [.val false (.lst (ns.map D.int))] = .ok (.val (.bl true)) as) :
 ik K 1 g [.ref a] H (fun v _ => v = .bl true) fun _ _ _ => False := by
 refine ⟨rfl, H, _, _, as, ⟨.refl _, rfl, fun i b d e => ?_, fun i s ds e e' => ?_, fun i j c h => ?_⟩, hr, fun v F' σ' H' s rr => ?_⟩
 . match i, e with
   | 0, e =>
     cases e
     refine ⟨.ref a, rfl, ?_⟩
     rw [Rep]
     exact ⟨a, _, rfl, hS, pU ns⟩
   | i + 1, e => simp at e
 . match i, e with
   | 0, e => cases e; cases e'
   | i + 1, e => simp at e
 . obtain ⟨⟨s, ds, e, e'⟩, _⟩ := h
   match i, e with
   | 0, e => cases e; cases e'
   | i + 1, e => simp at e
 . have rr : Rep K F' v (.bl true) := rr
   rw [Rep] at rr
   exact rr
end
end HH
end
section
namespace HH
open PySem
noncomputable def Res.sat {α : Type} (Q : α -> List Sl -> Prop) (x : Res α) : Prop := match x with
 | .ok a ρ => Q a ρ
 | .exc _ _ => False
 | .stuck => False
section
variable {α β : Type} {Q Q' : α -> List Sl -> Prop}
@[simp] theorem jr {a : α} {ρ : List Sl} : (Res.ok a ρ).sat Q = Q a ρ := rfl
@[simp] theorem TJ {k : Nat} {ρ : List Sl} : (Res.exc k ρ : Res α).sat Q = False := rfl
@[simp] theorem N8 : (Res.stuck : Res α).sat Q = False := rfl
theorem bf {x : Res β} {f : β -> List Sl -> Res α} : (x.bind f).sat Q = x.sat fun a ρ => (f a ρ).sat Q := by cases x <;> rfl
@[simp] theorem Vi {p : Prop} [Decidable p] {x y : Res α} : (if p then x else y).sat Q = ((p -> x.sat Q) /\ (¬ p -> y.sat Q)) := by
  by_cases h : p <;> simp [h]
@[simp] theorem bU {a : α} {ρ : List Sl} : (lift (some a) ρ).sat Q = Q a ρ := rfl
@[simp] theorem Eg {ρ : List Sl} : (lift (none : Option α) ρ).sat Q = False := rfl
@[simp] theorem Ey {p : Prop} [Decidable p] {a : α} {ρ : List Sl} : (lift (if p then some a else none) ρ).sat Q = (p /\ Q a ρ) := by
  by_cases h : p <;> simp [h]
theorem Res.sat.imp {x : Res α} (h : x.sat Q) (k : ∀ a ρ, Q a ρ -> Q' a ρ) : x.sat Q' := by
 cases x with
 | ok a ρ => exact k a ρ h
 | exc _ _ => exact h
 | stuck => exact h
theorem sat_iff {x : Res α} : x.sat Q ↔ ∃ a ρ, x = .ok a ρ /\ Q a ρ := by
 cases x with
 | ok a ρ => exact ⟨fun h => ⟨a, ρ, rfl, h⟩, fun ⟨_, _, e, h⟩ => by cases e; exact h⟩
 | exc _ _ => exact ⟨fun h => h.elim, fun ⟨_, _, e, _⟩ => by cases e⟩
 | stuck => exact ⟨fun h => h.elim, fun ⟨_, _, e, _⟩ => by cases e⟩
end
theorem Nt {α : Type} {x y : Res α} {Q : α -> List Sl -> Prop} (h : x = y) : x.sat Q = y.sat Q := by rw [h]
theorem bind_congr {α β : Type} {x y : Res α} {f : α -> List Sl -> Res β} (h : x = y) : x.bind f = y.bind f := by rw [h]
noncomputable def fr : Sl -> Bool
 | .aV => true
 | .val b _ => !b
 | .own b _ => !b
 | .lent _ => false
 | .fc _ => false
@[simp] theorem WX : fr .aV = true := rfl
@[simp] theorem W2 {b : Bool} {d : D} : fr (.val b d) = !b := rfl
@[simp] theorem W0 {b : Bool} {d : List D} : fr (.own b d) = !b := rfl
@[simp] theorem UT {d : List D} : fr (.lent d) = false := rfl
theorem Mi (ρ : List Sl) (i : Nat) (s : Sl) : put ρ i s = match ρ[i]? with | some t => if fr t = true then some (ρ.set i s) else none | none => none := by
 unfold put
 cases h : ρ[i]? with
 | none => rfl
 | some t => cases t with
   | aV => rfl
   | val b d => cases b <;> rfl
   | own b d => cases b <;> rfl
   | lent d => rfl
   | fc m => rfl
theorem nR {Γ : Tab} {w n i : Nat} {d : Fd} {args : List Sl} (h : Γ i = some d) : run Γ w (n + 1) i args = enter (run Γ w n) w d args := by
 rw [run, h]
noncomputable def fin (np : Nat) : Fl -> List Sl -> Option (R × List Sl)
 | .next, ρ => some (.val .non, ρ.take np)
 | .ret r, ρ => some (r, ρ.take np)
 | _, _ => none
noncomputable def eQ (np : Nat) (Q : R -> List Sl -> Prop) (fl : Fl) (ρ : List Sl) : Prop := match fl with | .next => Q (.val .non) (ρ.take np) | .ret r => Q r (ρ.take np) | _ => False
noncomputable def sQ (c : Call) (n : Nat) (r : List S) (Q : Fl -> List Sl -> Prop) (fl : Fl) (ρ : List Sl) : Prop := match fl with | .next => (jg c n r ρ).sat Q | fl => Q fl ρ
noncomputable def fQ (J : List Sl -> Prop) (Q : Fl -> List Sl -> Prop) (fl : Fl) (ρ : List Sl) : Prop := match fl with | .next => J ρ | .cont => J ρ | .brk => Q .next ρ | .ret v => Q (.ret v) ρ
section
variable {np : Nat} {Q : R -> List Sl -> Prop} {ρ : List Sl} {v : R} {c : Call} {n : Nat} {r : List S} {Q' : Fl -> List Sl -> Prop} {J : List Sl -> Prop}
@[simp] theorem TQ : eQ np Q .next ρ = Q (.val .non) (ρ.take np) := rfl
@[simp] theorem Yw : eQ np Q (.ret v) ρ = Q v (ρ.take np) := rfl
@[simp] theorem Wt : eQ np Q .brk ρ = False := rfl
@[simp] theorem Vo : eQ np Q .cont ρ = False := rfl
@[simp] theorem UW : sQ c n r Q' .next ρ = (jg c n r ρ).sat Q' := rfl
@[simp] theorem Wd : sQ c n r Q' (.ret v) ρ = Q' (.ret v) ρ := rfl
@[simp] theorem Yk : sQ c n r Q' .brk ρ = Q' .brk ρ := rfl
@[simp] theorem Ux : sQ c n r Q' .cont ρ = Q' .cont ρ := rfl
@[simp] theorem Ut : fQ J Q' .next ρ = J ρ := rfl
@[simp] theorem Uc : fQ J Q' .cont ρ = J ρ := rfl
@[simp] theorem XN : fQ J Q' .brk ρ = Q' .next ρ := rfl
@[simp] theorem WK : fQ J Q' (.ret v) ρ = Q' (.ret v) ρ := rfl
end
theorem zb {c : Call} {n : Nat} {d : Fd} {args : List Sl} {Q : R -> List Sl -> Prop} (hl : args.length = d.np) (hd : d.np <= d.nn)
 (h : (jg c n d.body (args ++ List.replicate (d.nn - d.np) .aV)).sat (eQ d.np Q)) : (enter c n d args).sat Q := by
 unfold enter
 rw [if_pos ⟨hl, hd⟩]
 revert h
 cases jg c n d.body (args ++ List.replicate (d.nn - d.np) .aV) with
 | stuck => exact fun h => False.elim h
 | exc _ _ => exact fun h => False.elim h
 | ok fl ρ => cases fl <;> first | exact id | exact fun h => False.elim h
theorem aX {Γ : Tab} {w n i : Nat} {d : Fd} {args : List Sl} {Q : R -> List Sl -> Prop} (hΓ : Γ i = some d) (hl : args.length = d.np) (hd : d.np <= d.nn)
 (h : (jg (run Γ w n) w d.body (args ++ List.replicate (d.nn - d.np) .aV)).sat (eQ d.np Q)) : (run Γ w (n + 1) i args).sat Q := by
 rw [nR hΓ]; exact zb hl hd h
theorem aa {c : Call} {n : Nat} {s : S} {r : List S} {ρ : List Sl} {Q : Fl -> List Sl -> Prop} (h : (ex c n s ρ).sat (sQ c n r Q)) : (jg c n (s :: r) ρ).sat Q := by
 rw [jg, bf]
 refine h.imp fun fl ρ' q => ?_
 cases fl <;> exact q
theorem aq {c : Call} {n : Nat} {s : S} {r : List S} {ρ : List Sl} {Q : Fl -> List Sl -> Prop} (h : (ex c n s ρ).sat (sQ c n r Q)) : sQ c n (s :: r) Q .next ρ := aa h
@[simp] theorem T7 {c : Call} {n : Nat} {ρ : List Sl} {Q : Fl -> List Sl -> Prop} : (jg c n [] ρ).sat Q = Q .next ρ := by rw [jg]; rfl
theorem iT {c : Call} {n : Nat} {s : S} {r : List S} {ρ : List Sl} {Q : Fl -> List Sl -> Prop} (M : List Sl -> Prop) (h : (ex c n s ρ).sat fun fl ρ' => fl = .next /\ M ρ') (k : ∀ ρ', M ρ' -> (jg c n r ρ').sat Q) : (jg c n (s :: r) ρ).sat Q :=
 aa (h.imp fun fl ρ' ⟨e, q⟩ => by subst e; exact k ρ' q)
theorem cY {is : List Nat} {one : Bool} {body : List Sl -> Res Fl} (J : List D -> List Sl -> Prop) {Q : Fl -> List Sl -> Prop} (hb : ∀ d r ρ, J (d :: r) ρ -> ∃ ρ1, cM ρ is one d = some ρ1 /\ (body ρ1).sat (fQ (J r) Q)) (hq : ∀ ρ, J [] ρ -> Q .next ρ) : ∀ {ds : List D} {ρ : List Sl}, J ds ρ -> (mz is one body ds ρ).sat Q
 | [], ρ, j => hq ρ j
 | d :: r, ρ, j => by
   obtain ⟨ρ1, e, h⟩ := hb d r ρ j
   rw [mz, e]
   show ((body ρ1).bind _).sat Q
   rw [bf]
   refine h.imp fun fl ρ2 q => ?_
   cases fl with
   | next => exact cY J hb hq q
   | cont => exact cY J hb hq q
   | brk => exact q
   | ret v => exact q
theorem iK {is : List Nat} {one : Bool} {test : List Sl -> Res Bool} {elt : Ev} (J : List Sl -> Prop) (g : D -> Option D) {Q : List D -> List Sl -> Prop} :
 ∀ {ds acc : List D} {ρ : List Sl}, J ρ -> (∀ d, d ∈ ds -> ∀ ρ, J ρ -> ∃ ρ1, cM ρ is one d = some ρ1 /\ (test ρ1).sat fun b ρ2 => if b = true then (elt ρ2).sat fun r ρ3 => g d = some r.d /\ J ρ3 else g d = none /\ J ρ2) -> (∀ ρ, J ρ -> Q (acc ++ ds.filterMap g) ρ) ->
   (turns is one test elt ds acc ρ).sat Q
 | [], acc, ρ, j, h, k => by rw [turns]; simpa using k ρ j
 | d :: r, acc, ρ, j, h, k => by
   obtain ⟨ρ1, e, h1⟩ := h d (by simp) ρ j
   rw [turns, e]
   show ((test ρ1).bind _).sat Q
   rw [bf]
   refine h1.imp fun b ρ2 q => ?_
   cases b with
   | true =>
     rw [if_pos rfl] at q
     rw [if_pos rfl, bf]
     refine q.imp fun x ρ3 ⟨e1, j3⟩ => ?_
     refine iK J g j3 (fun d' hd' => h d' (by simp [hd'])) fun ρ' j' => ?_
     have := k ρ' j'
     rw [List.filterMap_cons, e1] at this
     rw [List.append_assoc]; exact this
   | false =>
     rw [if_neg (by simp)] at q
     rw [if_neg (by simp)]
     refine iK J g q.2 (fun d' hd' => h d' (by simp [hd'])) fun ρ' j' => ?_
     have := k ρ' j'
     rw [List.filterMap_cons, q.1] at this
     exact this
theorem vL {is : List Nat} {one : Bool} {elt : Ev} {c : Call} (J : List Sl -> Prop) (g : D -> D) {Q : List D -> List Sl -> Prop} {ds : List D} {ρ : List Sl} (j : J ρ) (h : ∀ d, d ∈ ds -> ∀ ρ, J ρ -> ∃ ρ1, cM ρ is one d = some ρ1 /\ (elt ρ1).sat fun r ρ3 => g d = r.d /\ J ρ3)
 (k : ∀ ρ, J ρ -> Q (ds.map g) ρ) : (turns is one (pg c none) elt ds [] ρ).sat Q :=
 iK J (fun d => some (g d)) j (fun d hd ρ j => by
  obtain ⟨ρ1, e, h1⟩ := h d hd ρ j
  refine ⟨ρ1, e, ?_⟩
  rw [pg, jr, if_pos rfl]
  exact h1.imp fun r ρ3 q => ⟨by rw [q.1], q.2⟩) fun ρ j => by simpa using k ρ j
section
variable {ρ l : List Sl} {a : Sl} {i j : Int} {k m : Nat} {b b' : Bool} {s : Str} {d : D} {ds es : List D} {e f : Ev} {x : Option Sl} {c : Call}
@[simp] theorem J8 : cJ .int .non = false := rfl
@[simp] theorem Oq : cJ .int (.bl b) = true := rfl
@[simp] theorem Kh : cJ .int (.int i) = true := rfl
@[simp] theorem Kl : cJ .int (.str s) = false := rfl
@[simp] theorem Ky : cJ .int (.tup ds) = false := rfl
@[simp] theorem Li : cJ .int (.lst ds) = false := rfl
@[simp] theorem Iu : cJ .bool .non = false := rfl
@[simp] theorem KJ : cJ .bool (.bl b) = true := rfl
@[simp] theorem Ij : cJ .bool (.int i) = false := rfl
@[simp] theorem HB : cJ .bool (.str s) = false := rfl
@[simp] theorem HD : cJ .bool (.tup ds) = false := rfl
@[simp] theorem Ia : cJ .bool (.lst ds) = false := rfl
@[simp] theorem J1 : cJ .str .non = false := rfl
@[simp] theorem Ng : cJ .str (.bl b) = false := rfl
@[simp] theorem LQ : cJ .str (.int i) = false := rfl
@[simp] theorem K6 : cJ .str (.str s) = true := rfl
@[simp] theorem Jt : cJ .str (.tup ds) = false := rfl
@[simp] theorem Lw : cJ .str (.lst ds) = false := rfl
@[simp] theorem Ej : cJ .tuple .non = false := rfl
@[simp] theorem Hv : cJ .tuple (.bl b) = false := rfl
@[simp] theorem Gv : cJ .tuple (.int i) = false := rfl
@[simp] theorem Hf : cJ .tuple (.str s) = false := rfl
@[simp] theorem GR : cJ .tuple (.tup ds) = true := rfl
@[simp] theorem Ek : cJ .tuple (.lst ds) = false := rfl
@[simp] theorem Im : cJ .list .non = false := rfl
@[simp] theorem Jp : cJ .list (.bl b) = false := rfl
@[simp] theorem Ib : cJ .list (.int i) = false := rfl
@[simp] theorem Il : cJ .list (.str s) = false := rfl
@[simp] theorem HS : cJ .list (.tup ds) = false := rfl
@[simp] theorem Hu : cJ .list (.lst ds) = true := rfl
@[simp] theorem Hs : cJ .none .non = true := rfl
@[simp] theorem Lz : cJ .none (.bl b) = false := rfl
@[simp] theorem Ik : cJ .none (.int i) = false := rfl
@[simp] theorem Io : cJ .none (.str s) = false := rfl
@[simp] theorem IK : cJ .none (.tup ds) = false := rfl
@[simp] theorem Iw : cJ .none (.lst ds) = false := rfl
@[simp] theorem NB : jc .non = true := rfl
@[simp] theorem PN : jc (.bl b) = false := rfl
@[simp] theorem Oh : jc (.int i) = false := rfl
@[simp] theorem Ot : jc (.str s) = false := rfl
@[simp] theorem O6 : jc (.tup ds) = false := rfl
@[simp] theorem NK : jc (.lst ds) = false := rfl
@[simp] theorem Sd : flat .non = true := rfl
@[simp] theorem Ui : flat (.bl b) = true := rfl
@[simp] theorem jL : flat (.int i) = true := rfl
@[simp] theorem Ry : flat (.str s) = true := rfl
@[simp] theorem Qh : flat (.tup ds) = false := rfl
@[simp] theorem R0 : flat (.lst ds) = false := rfl
@[simp] theorem Aj : (R.val d).d = d := rfl
@[simp] theorem lC : (R.own ds).d = .lst ds := rfl
@[simp] theorem RL : yC (.val d) = .val false d := rfl
@[simp] theorem Qk : yC (.own ds) = .own false ds := rfl
@[simp] theorem N7 : tV (.val d) = .dat d := rfl
@[simp] theorem MP : tV (.own ds) = .tmp ds := rfl
@[simp] theorem U8 : oh (.int i) = some i := rfl
@[simp] theorem Ci : uJ (.bl b) = some b := rfl
@[simp] theorem lr : items (.lst ds) = some ds := rfl
@[simp] theorem pX : items (.tup ds) = some ds := rfl
@[simp] theorem JG : Dp (.tup ds) = some ds := rfl
@[simp] theorem Lj : lF (.lst ds) = some ds := rfl
@[simp] theorem Uz : sy .add = nj := rfl
@[simp] theorem Vq : sy .sub = uf := rfl
@[simp] theorem Tw : sy .mul = oW := rfl
@[simp] theorem R9 : sy .fdiv = oE := rfl
@[simp] theorem TV : sy .mod = uh := rfl
@[simp] theorem T4 : sy .pow = sJ := rfl
@[simp] theorem Oe : nj (.int i) (.int j) = some (.val (.int (i + j))) := rfl
@[simp] theorem Ou : nj (.lst ds) (.lst es) = if ds.length + es.length <= lim then some (.own (ds ++ es)) else none := rfl
@[simp] theorem Nm : nj (.tup ds) (.tup es) = if ds.length + es.length <= lim then some (.val (.tup (ds ++ es))) else none := rfl
@[simp] theorem Oi : uf (.int i) (.int j) = some (.val (.int (i - j))) := rfl
@[simp] theorem Np : oW (.int i) (.int j) = if ((-18446744073709551616 < i /\ i < 18446744073709551616) \/ (-18446744073709551616 < j /\ j < 18446744073709551616)) then some (.val (.int (i * j))) else none := rfl
@[simp] theorem Lf : oE (.int i) (.int j) = if 0 < j /\ j < 1606938044258990275541962092341162602522202993782792835301376 then some (.val (.int (i / j))) else none := rfl
@[simp] theorem MN : uh (.int i) (.int j) = if 0 < j then some (.val (.int (i % j))) else none := rfl
@[simp] theorem O2 : sJ (.int i) (.int j) = if 0 <= j /\ j <= 1000 /\ i.natAbs < 18446744073709551616 then some (.val (.int (i ^ j.toNat))) else none := rfl
@[simp] theorem Vl : uX (.lst ds) (.int i) = (at' ds i).map .val := rfl
@[simp] theorem Uu : uX (.tup ds) (.int i) = (at' ds i).map .val := rfl
@[simp] theorem PK : Gz (.int i) = some (.val (.int (-i))) := rfl
@[simp] theorem OJ : cm .eq (.int i) (.int j) = some (i == j) := rfl
@[simp] theorem M3 : cm .ne (.int i) (.int j) = some (!(i == j)) := rfl
@[simp] theorem QH : cm .eq (.bl b) (.bl b') = some (b == b') := rfl
@[simp] theorem Qy : cm .ne (.bl b) (.bl b') = some (!(b == b')) := rfl
@[simp] theorem OD : cm .lt (.int i) (.int j) = some (decide (i < j)) := rfl
@[simp] theorem MK : cm .le (.int i) (.int j) = some (decide (i <= j)) := rfl
@[simp] theorem M7 : cm .gt (.int i) (.int j) = some (decide (j < i)) := rfl
@[simp] theorem Od : cm .ge (.int i) (.int j) = some (decide (j <= i)) := rfl
@[simp] theorem XJ : cm .isN d .non = some (jc d) := rfl
@[simp] theorem Uj : cm .S8 d .non = some (!jc d) := rfl
@[simp] theorem Ig : blt .len [.lst ds] = some (.val (.int ds.length)) := rfl
@[simp] theorem Ip : blt .len [.tup ds] = some (.val (.int ds.length)) := rfl
@[simp] theorem Og : blt .Jc [.lst ds] = if ds.length <= 16777216 then some (.own ds) else none := rfl
@[simp] theorem Gw : blt .list [.lst ds] = some (.own ds) := rfl
@[simp] theorem Gp : blt .list [.tup ds] = some (.own ds) := rfl
@[simp] theorem Ea : blt .tuple [.lst ds] = some (.val (.tup ds)) := rfl
@[simp] theorem Ef : blt .tuple [.tup ds] = some (.val (.tup ds)) := rfl
@[simp] theorem R8 : blt .min2 [.int i, .int j] = some (.val (.int (if j < i then j else i))) := rfl
@[simp] theorem Qv : blt .max2 [.int i, .int j] = some (.val (.int (if i < j then j else i))) := rfl
@[simp] theorem mV : blt .all [.lst ds] = (ds.mapM uJ).map fun bs => .val (.bl (bs.all id)) := rfl
@[simp] theorem Ul : blt .any [.lst ds] = (ds.mapM uJ).map fun bs => .val (.bl (bs.any id)) := rfl
@[simp] theorem Nk : isVar (.var k) = some k := rfl
@[simp] theorem Ur : pk (a :: l) k = match (a :: l)[k]? with | some (.val _ d) => some d | some (.own _ ds) => some (.lst ds) | some (.lent ds) => some (.lst ds) | _ => none := rfl
@[simp] theorem QB : Ks (a :: l) k = match pk (a :: l) k with | some (.lst ds) => some ds | _ => none := rfl
@[simp] theorem R1 : fj (some k) e ρ = lift (pk ρ k) ρ := rfl
@[simp] theorem QT : fj none e ρ = (e ρ).bind fun r ρ => .ok r.d ρ := rfl
@[simp] theorem Nz {y : Option Nat} : jj (some k) e y f ρ = (lift (pk ρ k) ρ).bind fun _ ρ => (fj y f ρ).bind fun y ρ => (lift (pk ρ k) ρ).bind fun x ρ => .ok (x, y) ρ := rfl
@[simp] theorem O4 {y : Option Nat} : jj none e y f ρ = (fj none e ρ).bind fun x ρ => (fj y f ρ).bind fun y ρ => .ok (x, y) ρ := rfl
@[simp] theorem Ov {es : List D} : dU (.own b ds) (some (.own b' es)) = .own b es := rfl
@[simp] theorem Nh : dU (.own b ds) (some (.val b' d)) = .val b d := rfl
@[simp] theorem Dw : dU a none = a := by cases a <;> rfl
@[simp] theorem za : dU (.val b d) x = .val b d := by cases x <;> rfl
@[simp] theorem Nb : dU .aV x = .aV := by cases x <;> rfl
@[simp] theorem wB : dU (.lent ds) x = .lent ds := by cases x <;> rfl
@[simp] theorem Rw : cM ρ [k] true d = put ρ k (.val false d) := rfl
@[simp] theorem Om {is : List Nat} : cM ρ is false (.tup ds) = putAll ρ is ds := by cases is <;> rfl
@[simp] theorem Ml : srcOf none e ρ = (e ρ).bind fun r ρ => lift (items r.d) ρ := rfl
@[simp] theorem cC : srcOf (some k) e (a :: l) = match (a :: l)[k]? with | some (.val _ d) => lift (items d) (a :: l) | some (.own _ ds) => .ok ds ((a :: l).set k (.lent ds)) | some (.lent ds) => .ok ds (a :: l) | _ => .stuck := rfl
@[simp] theorem HR {ρ' : List Sl} : bB ρ' none ρ = ρ := rfl
@[simp] theorem bJ : bB (a :: l) (some k) ρ = match (a :: l)[k]? with | some (.own b ds) => ρ.set k (.own b ds) | _ => ρ := rfl
@[simp] theorem QM {s : Sl} : put (a :: l) k s = match (a :: l)[k]? with | some t => if fr t = true then some ((a :: l).set k s) else none | none => none := Mi ..
@[simp] theorem Jz : putAll ρ [] [] = some ρ := rfl
@[simp] theorem HF {is : List Nat} : putAll ρ (k :: is) (d :: ds) = (put ρ k (.val false d)).bind fun ρ => putAll ρ is ds := rfl
theorem K7 {as : List Arg} {Q : R -> List Sl -> Prop} : (jq c k as ρ).sat Q = match bG ρ as [] with | none => False | some args => (c k args).sat fun r args' => Q r (cG as args' 0 ρ) := by
 unfold jq
 cases bG ρ as [] with
 | none => rfl
 | some args => simp only; cases c k args <;> rfl
end
@[simp] theorem at_0 {α : Type} {a0 : α} {l : List α} : at' (a0 :: l) 0 = some a0 := by
  unfold at' jx; rw [if_pos (by decide), if_pos (by simp only [List.length_cons]; omega)]; rfl
@[simp] theorem at_1 {α : Type} {a0 a1 : α} {l : List α} : at' (a0 :: a1 :: l) 1 = some a1 := by
  unfold at' jx; rw [if_pos (by decide), if_pos (by simp only [List.length_cons]; omega)]; rfl
@[simp] theorem at_2 {α : Type} {a0 a1 a2 : α} {l : List α} : at' (a0 :: a1 :: a2 :: l) 2 = some a2 := by
  unfold at' jx; rw [if_pos (by decide), if_pos (by simp only [List.length_cons]; omega)]; rfl
@[simp] theorem at_3 {α : Type} {a0 a1 a2 a3 : α} {l : List α} : at' (a0 :: a1 :: a2 :: a3 :: l) 3 = some a3 := by
  unfold at' jx; rw [if_pos (by decide), if_pos (by simp only [List.length_cons]; omega)]; rfl
@[simp] theorem at_4 {α : Type} {a0 a1 a2 a3 a4 : α} {l : List α} : at' (a0 :: a1 :: a2 :: a3 :: a4 :: l) 4 = some a4 := by
  unfold at' jx; rw [if_pos (by decide), if_pos (by simp only [List.length_cons]; omega)]; rfl
@[simp] theorem at_5 {α : Type} {a0 a1 a2 a3 a4 a5 : α} {l : List α} : at' (a0 :: a1 :: a2 :: a3 :: a4 :: a5 :: l) 5 = some a5 := by
  unfold at' jx; rw [if_pos (by decide), if_pos (by simp only [List.length_cons]; omega)]; rfl
@[simp] theorem at_6 {α : Type} {a0 a1 a2 a3 a4 a5 a6 : α} {l : List α} : at' (a0 :: a1 :: a2 :: a3 :: a4 :: a5 :: a6 :: l) 6 = some a6 := by
  unfold at' jx; rw [if_pos (by decide), if_pos (by simp only [List.length_cons]; omega)]; rfl
@[simp] theorem at_7 {α : Type} {a0 a1 a2 a3 a4 a5 a6 a7 : α} {l : List α} : at' (a0 :: a1 :: a2 :: a3 :: a4 :: a5 :: a6 :: a7 :: l) 7 = some a7 := by
  unfold at' jx; rw [if_pos (by decide), if_pos (by simp only [List.length_cons]; omega)]; rfl
theorem qM {α : Type} {l : List α} {i : Int} (h : 0 <= i) (h' : i < l.length) : at' l i = l[i.toNat]? := by
 unfold at' jx; rw [if_pos h, if_pos h']; rfl
theorem Cw {α : Type} {l : List α} {k : Nat} (h' : k < l.length) : at' l (k : Int) = l[k]? := by
 rw [qM (by omega) (by omega)]; simp
theorem Vb {α : Type} {l : List α} {i : Int} (h : (l.length : Int) <= i) : at' l i = none := by
 unfold at' jx; rw [if_pos (by omega), if_neg (by omega)]; rfl
theorem Su {p : P} (h : ∀ i, p ≠ .var i) : isVar p = none := by cases p <;> first | rfl | exact absurd rfl (h _)
@[simp] theorem Nf {d : D} : isVar (.con d) = none := rfl
@[simp] theorem Jo {x : Str} {d : D} : isVar (.glob x d) = none := rfl
@[simp] theorem O3 {o : Op} {p q : P} : isVar (.bin o p q) = none := rfl
@[simp] theorem Nj {p : P} : isVar (.neg p) = none := rfl
@[simp] theorem NT {p : P} : isVar (.not p) = none := rfl
@[simp] theorem O5 {p q : P} : isVar (.and p q) = none := rfl
@[simp] theorem Rg {p q : P} : isVar (.or p q) = none := rfl
@[simp] theorem Ni {o : Cm} {p q : P} : isVar (.cmp o p q) = none := rfl
@[simp] theorem Ii {o o' : Cm} {p q r : P} : isVar (.chain o o' p q r) = none := rfl
@[simp] theorem N5 {p q r : P} : isVar (.ife p q r) = none := rfl
@[simp] theorem NP {as : List P} : isVar (.tup as) = none := rfl
@[simp] theorem Nv {as : List P} : isVar (.lst as) = none := rfl
@[simp] theorem M5 {p q : P} : isVar (.idx p q) = none := rfl
@[simp] theorem Ht {p q r : P} : isVar (.slice p q r) = none := rfl
@[simp] theorem Kz {f : Nat} {as : List P} : isVar (.call f as) = none := rfl
@[simp] theorem Oa {b : U6} {as : List P} : isVar (.blt b as) = none := rfl
@[simp] theorem JK {ts : List Ty} {p : P} : isVar (.inst ts p) = none := rfl
@[simp] theorem O9 {x : Nat} : isVar (.pop x) = none := rfl
@[simp] theorem Mu {p e : P} {n : Nat} {is : List Nat} {one : Bool} {t : Option P} : isVar (.comp p n is one t e) = none := rfl
@[simp] theorem M9 {p q : P} : isVar (.sE p q) = none := rfl
@[simp] theorem Ny {p : P} : isVar (.enm p) = none := rfl
@[simp] theorem M8 {p q : P} : isVar (.zip p q) = none := rfl
@[simp] theorem Ow {p : P} : isVar (.rev p) = none := rfl
noncomputable def jJ (c : Call) (is : List Nat) (one : Bool) (test : Option P) (elt : P) (ds : List D) (ρ : List Sl) : Res (List D) := turns is one (pg c test) (ev c elt) ds [] ρ
@[simp] theorem U3 {c : Call} {src elt : P} {n : Nat} {is : List Nat} {one : Bool} {test : Option P} {ρ : List Sl} : ev c (.comp src n is one test elt) ρ = (srcOf (isVar src) (ev c src) ρ).bind fun ds ρ₁ =>
 if ds.length <= lim then (jJ c is one test elt ds (ρ₁ ++ List.replicate n .aV)).bind fun xs ρ₂ => .ok (.own xs) (bB ρ (isVar src) (ρ₂.take ρ₁.length)) else .stuck := by rw [ev]; rfl
noncomputable def BP (c : Call) (n : Nat) (t : P) (body : List S) (k : Nat) (ρ : List Sl) : Res Fl := Aq (jB (ev c t)) (jg c n body) k ρ
@[simp] theorem XQ {c : Call} {n : Nat} {t : P} {body : List S} {ρ : List Sl} : ex c n (.whl t body) ρ = BP c n t body n ρ := by rw [ex]; rfl
theorem qT {α β γ : Type} {x : Res β} {f : β -> List Sl -> Res α} {g : α -> List Sl -> Res γ} : (x.bind f).bind g = x.bind fun a ρ => (f a ρ).bind g := by cases x <;> rfl
@[simp] theorem Yg {Γ : Tab} {w n i : Nat} {args : List Sl} {α : Type} {f : R -> List Sl -> Res α} {Q : α -> List Sl -> Prop} : ((run Γ w n i args).bind f).sat Q = (run Γ w n i args).sat fun a ρ => (f a ρ).sat Q := bf
@[simp] theorem Yx {Γ : Tab} {w n i : Nat} {args : List Sl} {α β : Type} {f : R -> List Sl -> Res α} {g : α -> List Sl -> Res β} : ((run Γ w n i args).bind f).bind g = (run Γ w n i args).bind fun a ρ => (f a ρ).bind g := qT
@[simp] theorem Uv {c : Call} {is : List Nat} {one : Bool} {test : Option P} {elt : P} {ds : List D} {ρ : List Sl} {α : Type} {f : List D -> List Sl -> Res α} {Q : α -> List Sl -> Prop} : ((jJ c is one test elt ds ρ).bind f).sat Q = (jJ c is one test elt ds ρ).sat fun a ρ => (f a ρ).sat Q := bf
@[simp] theorem T5 {c : Call} {is : List Nat} {one : Bool} {test : Option P} {elt : P} {ds : List D} {ρ : List Sl} {α β : Type} {f : List D -> List Sl -> Res α} {g : α -> List Sl -> Res β} : ((jJ c is one test elt ds ρ).bind f).bind g = (jJ c is one test elt ds ρ).bind fun a ρ => (f a ρ).bind g := qT
@[simp] theorem Xh {is : List Nat} {one : Bool} {b : List Sl -> Res Fl} {ds : List D} {ρ : List Sl} {α : Type} {f : Fl -> List Sl -> Res α} {Q : α -> List Sl -> Prop} : ((mz is one b ds ρ).bind f).sat Q = (mz is one b ds ρ).sat fun a ρ => (f a ρ).sat Q := bf
@[simp] theorem Uw {α β : Type} {p : Prop} [Decidable p] {a : β} {ρ : List Sl} {f : β -> List Sl -> Res α} {Q : α -> List Sl -> Prop} : ((lift (if p then some a else none) ρ).bind f).sat Q = (p /\ (f a ρ).sat Q) := by by_cases h : p <;> simp [h, lift, Res.bind]
@[simp] theorem Vk {α β γ : Type} {p : Prop} [Decidable p] {a : β} {ρ : List Sl} {f : β -> List Sl -> Res α} {g : α -> List Sl -> Res γ} : ((lift (if p then some a else none) ρ).bind f).bind g = (lift (if p then some a else none) ρ).bind fun a ρ => (f a ρ).bind g := qT
@[simp] theorem bb_ite {α β : Type} {p : Prop} [Decidable p] {x y : Res β} {f : β -> List Sl -> Res α} : (if p then x else y).bind f = if p then x.bind f else y.bind f := by by_cases h : p <;> simp [h]
@[simp] theorem Wb {c : Call} {n k : Nat} {t : P} {b : List S} {ρ : List Sl} {α : Type} {f : Fl -> List Sl -> Res α} {Q : α -> List Sl -> Prop} : ((BP c n t b k ρ).bind f).sat Q = (BP c n t b k ρ).sat fun a ρ => (f a ρ).sat Q := bf
@[simp] theorem Xj {α β : Type} {a : α} {ρ : List Sl} {f : α -> List Sl -> Res β} : (Res.ok a ρ).bind f = f a ρ := rfl
@[simp] theorem Nu {α β : Type} {f : α -> List Sl -> Res β} : (Res.stuck : Res α).bind f = .stuck := rfl
@[simp] theorem QD {α : Type} {a : α} {ρ : List Sl} : lift (some a) ρ = .ok a ρ := rfl
@[simp] theorem Qw {α : Type} {ρ : List Sl} : lift (none : Option α) ρ = .stuck := rfl
noncomputable def zE : List Sl -> Nat -> Sl -> List Sl
 | [], _, _ => []
 | t :: ρ, 0, s => dU t (some s) :: ρ
 | t :: ρ, k + 1, s => t :: zE ρ k s
noncomputable def bk : List Arg -> List Sl -> List Sl -> List Sl
 | .fu k :: as, s :: ss, ρ => bk as ss (zE ρ k s)
 | .dat _ :: as, _ :: ss, ρ => bk as ss ρ
 | .tmp _ :: as, _ :: ss, ρ => bk as ss ρ
 | _, _, ρ => ρ
section
variable {t s : Sl} {ρ ss : List Sl} {k : Nat} {as : List Arg} {d : D} {ds : List D}
@[simp] theorem aag : zE (t :: ρ) 0 s = dU t (some s) :: ρ := rfl
@[simp] theorem aah : zE (t :: ρ) (k + 1) s = t :: zE ρ k s := rfl
@[simp] theorem Yy : bk (.fu k :: as) (s :: ss) ρ = bk as ss (zE ρ k s) := rfl
@[simp] theorem YF : bk (.dat d :: as) (s :: ss) ρ = bk as ss ρ := rfl
@[simp] theorem WT : bk (.tmp ds :: as) (s :: ss) ρ = bk as ss ρ := rfl
@[simp] theorem Wr : bk [] ss ρ = ρ := rfl
end
theorem v5 {s : Sl} : ∀ {ρ : List Sl} {k j : Nat}, (zE ρ k s)[j]? = (ρ[j]?).map fun t => if j = k then dU t (some s) else t
 | [], _, _ => by simp [zE]
 | t :: ρ, 0, 0 => by simp [zE]
 | t :: ρ, 0, j + 1 => by simp [zE]
 | t :: ρ, k + 1, 0 => by simp [zE]
 | t :: ρ, k + 1, j + 1 => by
   have := v5 (s := s) (ρ := ρ) (k := k) (j := j)
   simp only [zE, List.getElem?_cons_succ, this]
   congr 1; funext t; simp
theorem uK {as : List Arg} {ss : List Sl} : ∀ {ρ : List Sl} {i j : Nat}, (cG as ss i ρ)[j]? = (ρ[j]?).map fun t => dU t (aW (i + j) as ss)
 | [], _, _ => by simp [cG]
 | t :: ρ, i, 0 => by simp [cG]
 | t :: ρ, i, j + 1 => by
   have := uK (as := as) (ss := ss) (ρ := ρ) (i := i + 1) (j := j)
   simp only [cG, List.getElem?_cons_succ, this]
   rw [show i + 1 + j = i + (j + 1) by omega]
noncomputable def Z1 (t : Sl) : Prop := ∀ x, dU t x = t
noncomputable def Le (ρ : List Sl) : List Arg -> Prop
 | [] => True
 | .fu k :: as => (Arg.fu k ∈ as -> ∀ t, ρ[k]? = some t -> Z1 t) /\ Le ρ as
 | _ :: as => Le ρ as
theorem mL {ρ : List Sl} : ∀ {as : List Arg} {ρ' : List Sl}, Le ρ as -> (∀ k, Arg.fu k ∈ as -> ∀ t, ρ'[k]? = some t -> ρ[k]? = some t \/ Z1 t) -> Le ρ' as
 | [], _, _, _ => trivial
 | .fu k :: as, ρ', h, g => ⟨fun hm t ht => by
  rcases g k (by simp) t ht with e | e
  . exact h.1 hm t e
  . exact e, mL h.2 fun j hj => g j (by simp [hj])⟩
 | .dat _ :: as, ρ', h, g => mL (as := as) h fun j hj => g j (by simp [hj])
 | .tmp _ :: as, ρ', h, g => mL (as := as) h fun j hj => g j (by simp [hj])
theorem jX {k : Nat} : ∀ {as : List Arg} {ss : List Sl}, Arg.fu k ∉ as -> aW k as ss = none
 | [], _, _ => by unfold aW; rfl
 | .fu j :: as, [], _ => rfl
 | .dat _ :: as, [], _ => rfl
 | .tmp _ :: as, [], _ => rfl
 | .fu j :: as, s :: ss, h => by
   simp only [List.mem_cons, Arg.fu.injEq, not_or] at h
   rw [aW, if_neg (fun e => h.1 e.symm), jX h.2]
 | .dat _ :: as, s :: ss, h => by
   simp only [List.mem_cons, not_or] at h
   rw [aW, jX h.2]
 | .tmp _ :: as, s :: ss, h => by
   simp only [List.mem_cons, not_or] at h
   rw [aW, jX h.2]
theorem xN : ∀ {as : List Arg} {ss ρ : List Sl}, Le ρ as -> ∀ j, (bk as ss ρ)[j]? = (ρ[j]?).map fun t => dU t (aW j as ss)
 | [], ss, ρ, _, j => by cases ss <;> simp [bk, aW]
 | .fu k :: as, [], ρ, _, j => by simp [bk, aW]
 | .dat _ :: as, [], ρ, _, j => by simp [bk, aW]
 | .tmp _ :: as, [], ρ, _, j => by simp [bk, aW]
 | .dat _ :: as, s :: ss, ρ, h, j => by rw [bk, aW]; exact xN (as := as) h j
 | .tmp _ :: as, s :: ss, ρ, h, j => by rw [bk, aW]; exact xN (as := as) h j
 | .fu k :: as, s :: ss, ρ, h, j => by
   have h2 : Le (zE ρ k s) as := mL h.2 fun i hi t ht => by
    rw [v5] at ht
    cases e : ρ[i]? with
    | none => rw [e] at ht; cases ht
    | some t0 =>
      rw [e] at ht
      by_cases c : i = k
      . subst c
        have hs := h.1 hi t0 e
        simp [hs (some s)] at ht
        exact .inl (by rw [ht])
      . simp [c] at ht
        exact .inl (by rw [ht])
   rw [bk, xN h2 j, v5, aW]
   cases e : ρ[j]? with
   | none => rfl
   | some t0 =>
     simp only [Option.map_some]
     by_cases c : j = k
     . subst c
       rw [if_pos rfl, if_pos rfl]
       by_cases hm : Arg.fu j ∈ as
       . have hs := h.1 hm t0 e
         rw [hs (some s), hs]
       . rw [jX hm, Dw]
     . rw [if_neg c, if_neg (fun z => c z.symm)]
theorem fM {ρ : List Sl} {k : Nat} {b : Bool} {ds : List D} (e : ρ[k]? = some (.own b ds)) : ∀ {as : List Arg} {u : List Nat} {r : List Sl}, k ∈ u -> bG ρ as u = some r -> Arg.fu k ∉ as
 | [], _, _, _, _ => by simp
 | .dat _ :: as, u, r, hu, h => by
   simp only [bG, Option.map_eq_some_iff] at h
   obtain ⟨r', h, _⟩ := h
   simp [fM e hu h]
 | .tmp _ :: as, u, r, hu, h => by
   simp only [bG, Option.map_eq_some_iff] at h
   obtain ⟨r', h, _⟩ := h
   simp [fM e hu h]
 | .fu i :: as, u, r, hu, h => by
   rw [bG] at h
   have hi : i ≠ k := by
    rintro rfl
    rw [e] at h
    simp [hu] at h
   have : Arg.fu k ∉ as := by
    split at h
    . obtain ⟨r', h, _⟩ := Option.map_eq_some_iff.mp h; exact fM e hu h
    . split at h
      . cases h
      . obtain ⟨r', h, _⟩ := Option.map_eq_some_iff.mp h; exact fM e (by simp [hu]) h
    . split at h
      . cases h
      . obtain ⟨r', h, _⟩ := Option.map_eq_some_iff.mp h; exact fM e (by simp [hu]) h
    . cases h
   simp [this]; exact fun z => hi z.symm
theorem fL {ρ : List Sl} : ∀ {as : List Arg} {u : List Nat} {r : List Sl}, bG ρ as u = some r -> Le ρ as
 | [], _, _, _ => trivial
 | .dat _ :: as, u, r, h => by
   obtain ⟨r', h, _⟩ := Option.map_eq_some_iff.mp h; exact fL (as := as) h
 | .tmp _ :: as, u, r, h => by
   obtain ⟨r', h, _⟩ := Option.map_eq_some_iff.mp h; exact fL (as := as) h
 | .fu i :: as, u, r, h => by
   rw [bG] at h
   split at h
   . rename_i b d q
     obtain ⟨r', h, _⟩ := Option.map_eq_some_iff.mp h
     exact ⟨fun _ t ht => by rw [q] at ht; cases ht; exact fun x => za, fL h⟩
   . rename_i b ds q
     split at h
     . cases h
     . obtain ⟨r', h, _⟩ := Option.map_eq_some_iff.mp h
       exact ⟨fun hm => absurd hm (fM q (by simp) h), fL h⟩
   . rename_i ds q
     split at h
     . cases h
     . obtain ⟨r', h, _⟩ := Option.map_eq_some_iff.mp h
       exact ⟨fun _ t ht => by rw [q] at ht; cases ht; exact fun x => wB, fL h⟩
   . cases h
theorem Pz {as : List Arg} {ss ρ r : List Sl} {u : List Nat} (h : bG ρ as u = some r) : cG as ss 0 ρ = bk as ss ρ := by
 apply List.ext_getElem?
 intro j
 rw [uK, xN (fL h), Nat.zero_add]
@[simp] theorem O1 {c : Call} {k : Nat} {as : List Arg} {ρ : List Sl} : jq c k as ρ = match bG ρ as [] with | none => .stuck | some args => (c k args).bind fun r args' => .ok r (bk as args' ρ) := by
  unfold jq
  cases e : bG ρ as [] with
  | none => rfl
  | some args => simp only [<- Pz (r := args) e]; cases c k args <;> rfl
theorem dY {c : Call} {is : List Nat} {one : Bool} {elt : P} (J : List Sl -> Prop) (g : D -> D) {Q : List D -> List Sl -> Prop} {ds : List D} {ρ : List Sl} (j : J ρ) (h : ∀ d, d ∈ ds -> ∀ ρ, J ρ -> ∃ ρ1, cM ρ is one d = some ρ1 /\ (ev c elt ρ1).sat fun r ρ3 => g d = r.d /\ J ρ3)
 (k : ∀ ρ, J ρ -> Q (ds.map g) ρ) : (jJ c is one none elt ds ρ).sat Q := vL J g j h k
theorem dX {c : Call} {is : List Nat} {one : Bool} {elt t : P} (J : List Sl -> Prop) (g : D -> Option D) {Q : List D -> List Sl -> Prop} {ds : List D} {ρ : List Sl} (j : J ρ)
 (h : ∀ d, d ∈ ds -> ∀ ρ, J ρ -> ∃ ρ1, cM ρ is one d = some ρ1 /\ (ev c t ρ1).sat fun r ρ2 => ∃ b, r.d = .bl b /\ if b = true then (ev c elt ρ2).sat fun r ρ3 => g d = some r.d /\ J ρ3 else g d = none /\ J ρ2) (k : ∀ ρ, J ρ -> Q (ds.filterMap g) ρ) : (jJ c is one (some t) elt ds ρ).sat Q :=
 iK J g j (fun d hd ρ j => by
  obtain ⟨ρ1, e, h1⟩ := h d hd ρ j
  refine ⟨ρ1, e, ?_⟩
  rw [pg, jB, bf]
  refine h1.imp fun r ρ2 ⟨b, e, q⟩ => ?_
  rw [e]
  exact q) fun ρ j => by simpa using k ρ j
theorem tW {c : Call} {n : Nat} {t : P} {body : List S} (J : Nat -> List Sl -> Prop) {Q : Fl -> List Sl -> Prop} (h : ∀ m ρ, J m ρ -> (ev c t ρ).sat fun r ρ1 => ∃ b, r.d = .bl b /\ if b = true then (jg c n body ρ1).sat (fQ (fun ρ2 => ∃ m', m' < m /\ J m' ρ2) Q) else Q .next ρ1) : ∀ {k m : Nat} {ρ : List Sl}, m < k -> J m ρ -> (BP c n t body k ρ).sat Q
 | 0, m, ρ, hk, _ => absurd hk (Nat.not_lt_zero _)
 | k + 1, m, ρ, hk, j => by
   unfold BP
   rw [Aq, bf, jB, bf]
   refine (h m ρ j).imp fun r ρ1 ⟨b, e, q⟩ => ?_
   rw [e]
   show (if b = true then _ else _ : Res Fl).sat Q
   cases b with
   | false =>
     rw [if_neg (by simp)] at q
     rw [if_neg (by simp)]; exact q
   | true =>
     rw [if_pos rfl] at q
     rw [if_pos rfl, bf]
     refine q.imp fun fl ρ2 q => ?_
     cases fl with
     | next => obtain ⟨m', hm, j'⟩ := q; exact tW J h (Nat.lt_of_lt_of_le hm (Nat.lt_succ_iff.mp hk)) j'
     | cont => obtain ⟨m', hm, j'⟩ := q; exact tW J h (Nat.lt_of_lt_of_le hm (Nat.lt_succ_iff.mp hk)) j'
     | brk => exact q
     | ret v => exact q
@[simp] theorem Z8 : type_of% @HH.ev.eq_1 := @HH.ev.eq_1
@[simp] theorem Z2 : type_of% @HH.ev.eq_2 := @HH.ev.eq_2
@[simp] theorem ZG : type_of% @HH.ev.eq_3 := @HH.ev.eq_3
@[simp] theorem aal : type_of% @HH.ev.eq_4 := @HH.ev.eq_4
@[simp] theorem Z9 : type_of% @HH.ev.eq_5 := @HH.ev.eq_5
@[simp] theorem Z5 : type_of% @HH.ev.eq_6 := @HH.ev.eq_6
@[simp] theorem ZX : type_of% @HH.ev.eq_7 := @HH.ev.eq_7
@[simp] theorem ZP : type_of% @HH.ev.eq_8 := @HH.ev.eq_8
@[simp] theorem aai : type_of% @HH.ev.eq_9 := @HH.ev.eq_9
@[simp] theorem YC : type_of% @HH.ev.eq_10 := @HH.ev.eq_10
@[simp] theorem Xi : type_of% @HH.ev.eq_11 := @HH.ev.eq_11
@[simp] theorem Yr : type_of% @HH.ev.eq_12 := @HH.ev.eq_12
@[simp] theorem Yi : type_of% @HH.ev.eq_13 := @HH.ev.eq_13
@[simp] theorem Xr : type_of% @HH.ev.eq_14 := @HH.ev.eq_14
@[simp] theorem V4 : type_of% @HH.ev.eq_15 := @HH.ev.eq_15
@[simp] theorem Aa : type_of% @HH.ev.eq_16 := @HH.ev.eq_16
@[simp] theorem Wf : type_of% @HH.ev.eq_17 := @HH.ev.eq_17
@[simp] theorem Xe : type_of% @HH.ev.eq_18 := @HH.ev.eq_18
@[simp] theorem Yp : type_of% @HH.ev.eq_19 := @HH.ev.eq_19
@[simp] theorem Yn : type_of% @HH.ev.eq_20 := @HH.ev.eq_20
@[simp] theorem W3 : type_of% @HH.ev.eq_22 := @HH.ev.eq_22
@[simp] theorem Wh : type_of% @HH.ev.eq_23 := @HH.ev.eq_23
@[simp] theorem Yv : type_of% @HH.ev.eq_24 := @HH.ev.eq_24
@[simp] theorem Xb : type_of% @HH.ev.eq_25 := @HH.ev.eq_25
@[simp] theorem aaj : type_of% @HH.ex.eq_1 := @HH.ex.eq_1
@[simp] theorem ZD : type_of% @HH.ex.eq_2 := @HH.ex.eq_2
@[simp] theorem ZK : type_of% @HH.ex.eq_3 := @HH.ex.eq_3
@[simp] theorem Zv : type_of% @HH.ex.eq_4 := @HH.ex.eq_4
@[simp] theorem aaf : type_of% @HH.ex.eq_5 := @HH.ex.eq_5
@[simp] theorem ZS : type_of% @HH.ex.eq_6 := @HH.ex.eq_6
@[simp] theorem aaa : type_of% @HH.ex.eq_7 := @HH.ex.eq_7
@[simp] theorem ZW : type_of% @HH.ex.eq_8 := @HH.ex.eq_8
@[simp] theorem aam : type_of% @HH.ex.eq_9 := @HH.ex.eq_9
@[simp] theorem Xd : type_of% @HH.ex.eq_10 := @HH.ex.eq_10
@[simp] theorem Yq : type_of% @HH.ex.eq_11 := @HH.ex.eq_11
@[simp] theorem Xn : type_of% @HH.ex.eq_12 := @HH.ex.eq_12
@[simp] theorem Wj : type_of% @HH.ex.eq_13 := @HH.ex.eq_13
@[simp] theorem Xk : type_of% @HH.ex.eq_14 := @HH.ex.eq_14
@[simp] theorem Wk : type_of% @HH.ex.eq_15 := @HH.ex.eq_15
@[simp] theorem Xx : type_of% @HH.jB.eq_1 := @HH.jB.eq_1
@[simp] theorem We : type_of% @HH.evs.eq_1 := @HH.evs.eq_1
@[simp] theorem WD : type_of% @HH.evs.eq_2 := @HH.evs.eq_2
@[simp] theorem WL : type_of% @HH.vW.eq_1 := @HH.vW.eq_1
@[simp] theorem Yc : type_of% @HH.vW.eq_2 := @HH.vW.eq_2
@[simp] theorem X6 : type_of% @HH.pg.eq_1 := @HH.pg.eq_1
@[simp] theorem Xu : type_of% @HH.pg.eq_2 := @HH.pg.eq_2
@[simp] theorem W6 : type_of% @HH.lX.eq_1 := @HH.lX.eq_1
@[simp] theorem RZ : type_of% @HH.bG.eq_1 := @HH.bG.eq_1
@[simp] theorem RT : type_of% @HH.bG.eq_2 := @HH.bG.eq_2
@[simp] theorem QL : type_of% @HH.bG.eq_3 := @HH.bG.eq_3
@[simp] theorem SM : type_of% @HH.bG.eq_4 := @HH.bG.eq_4
@[simp] theorem Sh : type_of% @HH.cG.eq_1 := @HH.cG.eq_1
@[simp] theorem Rn : type_of% @HH.cG.eq_2 := @HH.cG.eq_2
@[simp] theorem Rq : type_of% @HH.aW.eq_1 := @HH.aW.eq_1
@[simp] theorem Qt : type_of% @HH.aW.eq_2 := @HH.aW.eq_2
@[simp] theorem Pq : type_of% @HH.aW.eq_3 := @HH.aW.eq_3
@[simp] theorem Rc : type_of% @HH.aW.eq_4 := @HH.aW.eq_4
end HH
end
section
namespace HH
open PySem L2 PySem.Spec PyProof.Rows
section
variable {X : Cx} {c : Call} {a b : Expr} {pa pb : P} {pos : Pos}
theorem tE : ∀ {ds : List D} {ns : List Int}, ds.mapM oh = some ns -> ds = ns.map D.int
 | [], ns, h => by simp at h; subst h; rfl
 | d :: ds, ns, h => by
   simp [List.mapM_cons, Option.bind_eq_some_iff] at h
   obtain ⟨i, e1, ms, e2, rfl⟩ := h
   rw [eV e1, tE e2]; rfl
theorem eX {K : PySem.W.Frag} {F : Hp} : ∀ {ns : List Int} {ys : List V}, aJ K F ys (ns.map D.int) -> ys = ns.map V.int
 | [], ys, h => by rw [h.gf]; rfl
 | n :: ns, ys, h => by
   obtain ⟨v, r, rfl, h1, t⟩ := h.cB
   rw [Rep] at h1
   rw [h1, eX t]; rfl
theorem G6 {ns : List Int} {us : List Value} (h : Vals (ns.map V.int) us) {i : Nat} {v : Value} (e : us.toArray[i]? = some v) : ∃ t, v = .int (ns.getD i 0) t := by
 have e : us[i]? = some v := by simpa using e
 have hi : i < us.length := (List.getElem?_eq_some_iff.mp e).1
 have hl := h.length
 rw [List.length_map] at hl
 have g : (ns.map V.int)[i]? = some (.int (ns.getD i 0)) := by
  rw [List.getElem?_map, List.getElem?_eq_getElem (by omega)]
  simp [List.getD, show i < ns.length by omega]
 obtain ⟨w, g1, g2⟩ := h.get g
 rw [e] at g1
 cases g1
 exact g2
theorem walked {pins : List (Addr × Obj)} {σ : L2.St} {H : Hp} {s : Shared} {p : Addr} {ys : List V} (I : L2.Inv X pins σ H s) (hc : X.calm = true) (hq : gw X.K H p ys \/ iY X.K H p ys) {Q : Value -> Shared -> Prop} {E : Value -> Shared -> Prop}
 (k : ∀ (it : Addr) (us : List Value) (s₂ : Shared) (St : Nat -> Heap -> Prop), Vals ys us -> Walks X.prog X.w X.A.in1 it [it, p] [it] us.toArray.size (fun i v => us.toArray[i]? = some v) St -> St 0 s₂.heap -> (∀ b ∈ [it, p], b < s₂.heap.objs.size) ->
  (∀ h' tk, (∀ b o, b ∉ [it] -> s₂.heap.get? b = some o -> h'.get? b = some o) -> L2.Inv X pins σ H { s₂ with heap := h', toks := tk }) -> Q (.ref it) s₂) : wpAny (model X.prog X.w) X.A.in1 (pyIter (.ref p)) Q E s := by
 have hh : X.A.in1.handled = none := I.ok.hd hc
 rcases hq with hq | hq
 . obtain ⟨us, rv, pl, hz⟩ := I.list hq
   have pl := pl.isList
   have hlt : p < s.heap.objs.size := by obtain ⟨o, h1, _⟩ := pl; exact Heap.lt_size h1
   refine wpAny_pyIter_list pl (k s.heap.objs.size us _ _ rv (Walks.list hh s.heap.objs.size p (Nat.ne_of_lt hlt) us.toArray) ⟨⟨_, Heap.get?_push_size _ rfl, rfl, rfl⟩, ?_⟩ ?_ fun h' tk kp => ?_)
   . obtain ⟨o, h1, h2⟩ := pl
     exact ⟨o, Heap.get?_push_of_some _ h1, h2⟩
   . intro b hb
     obtain ⟨o, h1, _⟩ := pl
     simp at hb
     rcases hb with rfl | rfl
     . exact Heap.lt_size (Heap.get?_push_size _ rfl)
     . exact Heap.lt_size (Heap.get?_push_of_some _ h1)
   . exact I.kept (fun b o z => kp b o (by simp; exact Nat.ne_of_lt (Heap.lt_size z)) (Heap.get?_push_of_some _ z))
 . obtain ⟨us, rv, pl, hz⟩ := I.tuple hq
   have hlt : p < s.heap.objs.size := by obtain ⟨o, h1, _⟩ := pl; exact Heap.lt_size h1
   refine wpAny_pyIter_tuple pl (k s.heap.objs.size us _ _ rv (Walks.tuple hh s.heap.objs.size p (Nat.ne_of_lt hlt) us.toArray) ⟨⟨_, Heap.get?_push_size _ rfl, rfl, rfl⟩, ?_⟩ ?_ fun h' tk kp => ?_)
   . obtain ⟨o, h1, h2⟩ := pl
     exact ⟨o, Heap.get?_push_of_some _ h1, h2⟩
   . intro b hb
     obtain ⟨o, h1, _⟩ := pl
     simp at hb
     rcases hb with rfl | rfl
     . exact Heap.lt_size (Heap.get?_push_size _ rfl)
     . exact Heap.lt_size (Heap.get?_push_of_some _ h1)
   . exact I.kept (fun b o z => kp b o (by simp; exact Nat.ne_of_lt (Heap.lt_size z)) (Heap.get?_push_of_some _ z))
theorem lM (ns : List Int) : ∀ k, k <= ns.length -> preSum (fun i => ns.getD i 0) k = (ns.take k).sum
 | 0, _ => by simp [preSum]
 | k + 1, h => by
   rw [preSum, lM ns k (by omega), List.take_succ, List.sum_append]
   simp [List.getD, show k < ns.length by omega]
theorem Ru (hc : X.calm = true) : dq X (.builtin "sum") (Ed X.K fun x => blt .sum [x]) := by
 rintro pins s σ H xs us Q I r ⟨x, hx, F, d, r', sm, px, he, k⟩
 obtain ⟨ns, e1, he⟩ := map_some (show ((items d).bind fun ds => ds.mapM oh).map _ = some r' from he)
 subst he
 obtain ⟨ds, e2, e3⟩ := dC e1
 obtain ⟨p, ys, rfl, hq, rs⟩ := px.items sm e2
 rw [tE e3] at rs
 have ey := eX rs
 subst hx
 obtain ⟨u, rfl, rx⟩ := r.one
 cases rx
 refine call_sum_walkG (walked I hc hq fun it us s₂ St rv W h0 hl kp => ?_)
 subst ey
 have hlen : us.toArray.size = ns.length := by rw [List.size_toArray, <- rv.length, List.length_map]
 refine ⟨it, _, _, _, _, St, fun i => ns.getD i 0, rfl, W, h0, hl, fun i v e => G6 rv e, fun h' tk t' kk => ?_⟩
 rw [hlen, lM ns _ (Nat.le_refl _), List.take_length]
 exact ⟨.int _, H, kp h' tk kk, ⟨t', rfl⟩, cD.dO sm (bZ _) k⟩
theorem boot_sum : bootBuiltins "sum" = some (.builtin "sum") := by decide +kernel
theorem qR {x : Str} {p' : Pos} (hx : x = "sum") (hc : X.calm = true) (hg : Gl X x) (hm : X.mg x = none) (ha : SX X c a pa) (hs : starEach [a] X.env = (false, eval a X.env) :: starEach [] X.env := by rfl) : SX X c (.Call (.Name x p') [a] [] pos) (.blt .sum [pa]) := by
 subst hx; exact jE (fun h => eY (Ru hc) hg hm boot_sum h (he := hs)) ha (fun ρ => by rw [HH.ev]) rfl hs
end
end HH
end
section
namespace HH
open PySem
section
variable {i j : Int} {ds es : List D} {d : D} {b b' : Bool}
@[simp] theorem U7 : sy .shl = Dd := rfl
@[simp] theorem UL : sy .shr = Df := rfl
@[simp] theorem Sy : sy .band = vZ := rfl
@[simp] theorem Oz : Dd (.int i) (.int j) = if 0 <= j /\ j <= 1000 /\ i.natAbs < 18446744073709551616 then some (.val (.int (i * 2 ^ j.toNat))) else none := rfl
@[simp] theorem Oj : Df (.int i) (.int j) = if 0 <= j then some (.val (.int (i / 2 ^ j.toNat))) else none := rfl
@[simp] theorem Ka : vZ (.int i) (.int j) = some (.val (.int (Builtin.bitAnd i j))) := rfl
@[simp] theorem Nq : oW (.lst ds) (.int i) = if 0 <= i /\ 0 < ds.length /\ ds.length * i.toNat <= lim then some (.own (List.replicate i.toNat ds).flatten) else none := rfl
@[simp] theorem MT : oW (.tup ds) (.int i) = if 0 <= i /\ 0 < ds.length /\ ds.length * i.toNat <= lim then some (.val (.tup (List.replicate i.toNat ds).flatten)) else none := rfl
@[simp] theorem Wg : cm .isT (.bl b) (.bl true) = some b := rfl
@[simp] theorem Vg : cm .zH (.bl b) (.bl true) = some (!b) := rfl
@[simp] theorem Ub : blt .sum [.lst ds] = (ds.mapM oh).map fun ns => .val (.int ns.sum) := rfl
@[simp] theorem Qa : blt .S9 [.lst ds] = (ds.mapM oh).bind fun ns => ns.min?.map fun i => .val (.int i) := rfl
@[simp] theorem Q8 : blt .Tc [.lst ds] = (ds.mapM oh).bind fun ns => ns.max?.map fun i => .val (.int i) := rfl
end
@[simp] theorem Wc : type_of% @HH.ex.eq_17 := @HH.ex.eq_17
@[simp] theorem Wx : type_of% @HH.ex.eq_18 := @HH.ex.eq_18
@[simp] theorem XX : type_of% @HH.ex.eq_19 := @HH.ex.eq_19
@[simp] theorem YG : type_of% @HH.ex.eq_20 := @HH.ex.eq_20
@[simp] theorem X4 : type_of% @HH.ex.eq_21 := @HH.ex.eq_21
theorem Cj {ns : List Int} : (ns.map D.int).mapM oh = some ns := by
 induction ns with
 | nil => rfl
 | cons n ns ih => simp [ih]
@[simp] theorem O8 {ns : List Int} : ns.mapM (oh ∘ D.int) = some ns := by
  rw [<- Cj (ns := ns), List.mapM_map]
@[simp] theorem Rj {bs : List Bool} : bs.mapM (uJ ∘ D.bl) = some bs := by
  induction bs with
  | nil => rfl
  | cons b bs ih => simp [ih]
theorem mX {S : List Int} {i : Int} : ((S.map D.int).any fun y => bL y (.int i)) = S.contains i := by
 induction S with
 | nil => rfl
 | cons s S ih =>
   rw [List.map_cons, List.any_cons, List.contains_cons, ih, bL]
   rw [show (s == i) = (i == s) from Bool.eq_iff_iff.mpr ⟨fun h => by simp at h ⊢; exact h.symm, fun h => by simp at h ⊢; exact h.symm⟩]
theorem jP {S : List Int} : (S.map D.int).all flat = true := by
 rw [List.all_eq_true]; intro d hd; obtain ⟨i, _, rfl⟩ := List.mem_map.mp hd; rfl
theorem WW {S : List Int} {i : Int} : cm .inn (.int i) (.lst (S.map D.int)) = some (S.contains i) := by
 show pG false _ _ = _
 unfold pG
 simp only [lr, Option.bind_some, jL, jP, Bool.and_true, mX]
 rfl
theorem V0 {S : List Int} {i : Int} : cm .inn (.int i) (.tup (S.map D.int)) = some (S.contains i) := by
 show pG false _ _ = _
 unfold pG
 simp only [pX, Option.bind_some, jL, jP, Bool.and_true, mX]
 rfl
theorem Nr {S : List Int} {i : Int} : cm .DK (.int i) (.lst (S.map D.int)) = some (!S.contains i) := by
 show pG true _ _ = _
 unfold pG
 simp only [lr, Option.bind_some, jL, jP, Bool.and_true, mX]
 rfl
theorem Ob {S : List Int} {i : Int} : cm .DK (.int i) (.tup (S.map D.int)) = some (!S.contains i) := by
 show pG true _ _ = _
 unfold pG
 simp only [pX, Option.bind_some, jL, jP, Bool.and_true, mX]
 rfl
theorem mY {n : Nat} {S : List Int} : dR (n + 1) (.lst (S.map D.int)) = true := by
 rw [dR, List.all_eq_true]; intro d hd; obtain ⟨i, _, rfl⟩ := List.mem_map.mp hd; cases n <;> rfl
theorem oM : ∀ {S T : List Int}, gR (S.map D.int) (T.map D.int) = (S == T)
 | [], [] => by simp [gR]
 | [], _ :: _ => by simp [gR]
 | _ :: _, [] => by simp [gR]
 | s :: S, t :: T => by
   rw [List.map_cons, List.map_cons, gR, oM, bL]; rfl
theorem G4 {S T : List Int} : cm .eq (.lst (S.map D.int)) (.lst (T.map D.int)) = some (S == T) := by
 show Dj _ _ = _
 unfold Dj
 rw [mY, mY, bL, oM]; rfl
theorem Gq {S T : List Int} : cm .ne (.lst (S.map D.int)) (.lst (T.map D.int)) = some (!(S == T)) := by
 show CZ _ _ = _
 unfold CZ
 rw [mY, mY, bL, oM]; rfl
theorem Uy {S : List Int} : cm .eq (.lst (S.map D.int)) (.lst []) = some S.isEmpty := by
 rw [show (.lst [] : D) = .lst (([] : List Int).map D.int) from rfl, G4]
 cases S <;> rfl
theorem Vh {S : List Int} : cm .ne (.lst (S.map D.int)) (.lst []) = some (!S.isEmpty) := by
 rw [show (.lst [] : D) = .lst (([] : List Int).map D.int) from rfl, Gq]
 cases S <;> rfl
theorem Va {α : Type} {l : List α} {x : α} : at' (l ++ [x]) (-1) = some x := by
 unfold at' jx
 rw [if_neg (by decide), if_pos (by simp only [List.length_append, List.length_singleton]; omega)]
 have : (-1 + ((l ++ [x]).length : Int)).toNat = l.length := by simp only [List.length_append, List.length_singleton]; omega
 rw [this]; simp
theorem Ai {α : Type} {l : List α} {f : α -> D} {k : Nat} {x : α} (h : l[k]? = some x) : at' (l.map f) (k : Int) = some (f x) := by
 have hk := (List.getElem?_eq_some_iff.mp h).1
 rw [Cw (by simpa using hk), List.getElem?_map, h]; rfl
theorem Mh {n k : Nat} (h : k < n) : jx n (k : Int) = some k := by
 unfold jx; rw [if_pos (by omega), if_pos (by omega)]; simp
theorem Tz {α : Type} {l : List α} {i : Int} (h : 0 <= i) (h' : i < l.length) : ∃ x, at' l i = some x /\ x ∈ l := by
 rw [qM h h']
 have hk : i.toNat < l.length := by omega
 exact ⟨l[i.toNat], by simp [hk], List.getElem_mem hk⟩
theorem eZ {is : List Nat} {one : Bool} {body : List Sl -> Res Fl} {g : Nat -> D} {N : Nat} (J : Nat -> List Sl -> Prop) {Q : Fl -> List Sl -> Prop} (hb : ∀ i ρ, i < N -> J i ρ -> ∃ ρ1, cM ρ is one (g i) = some ρ1 /\ (body ρ1).sat (fQ (J (i + 1)) Q)) (hq : ∀ ρ, J N ρ -> Q .next ρ) {ρ : List Sl} (h0 : J 0 ρ) : (mz is one body ((List.range N).map g) ρ).sat Q := by
 refine cY (fun r ρ => ∃ i, i <= N /\ r = ((List.range N).map g).drop i /\ J i ρ) ?_ ?_ ⟨0, Nat.zero_le _, rfl, h0⟩
 . rintro d r ρ ⟨i, hi, e, j⟩
   have hlt : i < N := by
    rcases Nat.lt_or_ge i N with h | h
    . exact h
    . rw [List.drop_eq_nil_of_le (by simpa using h)] at e; cases e
   rw [List.drop_eq_getElem_cons (by simpa using hlt)] at e
   injection e with e1 e2
   simp at e1
   subst e1
   obtain ⟨ρ1, h1, h2⟩ := hb i ρ hlt j
   refine ⟨ρ1, h1, h2.imp fun fl ρ2 q => ?_⟩
   cases fl with
   | next => exact ⟨i + 1, hlt, e2, q⟩
   | cont => exact ⟨i + 1, hlt, e2, q⟩
   | brk => exact q
   | ret v => exact q
 . rintro ρ ⟨i, hi, e, j⟩
   have : i = N := by
    have hl := congrArg List.length e
    simp at hl
    omega
   subst this
   exact hq ρ j
theorem Oo {c : Call} {is : List Nat} {one : Bool} {elt : P} {t : Option P} (J : List Sl -> Prop) (P : D -> Prop) {Q : List D -> List Sl -> Prop} {ds : List D} {ρ : List Sl} (j : J ρ)
 (h : ∀ d, d ∈ ds -> ∀ ρ, J ρ -> ∃ ρ1, cM ρ is one d = some ρ1 /\ (pg c t ρ1).sat fun b ρ2 => if b = true then (ev c elt ρ2).sat fun r ρ3 => P r.d /\ J ρ3 else J ρ2) (k : ∀ xs ρ, J ρ -> xs.length <= ds.length -> (∀ x ∈ xs, P x) -> Q xs ρ) : (jJ c is one t elt ds ρ).sat Q := by
 suffices hh : ∀ (ds : List D) (acc : List D) (ρ : List Sl), J ρ -> (∀ x ∈ acc, P x) -> (∀ d, d ∈ ds -> ∀ ρ, J ρ -> ∃ ρ1, cM ρ is one d = some ρ1 /\ (pg c t ρ1).sat fun b ρ2 => if b = true then (ev c elt ρ2).sat fun r ρ3 => P r.d /\ J ρ3 else J ρ2) ->
  (turns is one (pg c t) (ev c elt) ds acc ρ).sat fun xs ρ => J ρ /\ (∀ x ∈ xs, P x) /\ xs.length <= acc.length + ds.length from
  (hh ds [] ρ j (by simp) h).imp fun xs ρ ⟨q1, q2, q3⟩ => k xs ρ q1 (by simpa using q3) q2
 intro ds
 induction ds with
 | nil => intro acc ρ j ha _; rw [turns]; exact ⟨j, ha, by simp⟩
 | cons d r ih =>
   intro acc ρ j ha h
   obtain ⟨ρ1, e, h1⟩ := h d (by simp) ρ j
   rw [turns, e]
   show ((pg c t ρ1).bind _).sat _
   rw [bf]
   refine h1.imp fun b ρ2 q => ?_
   cases b with
   | true =>
     rw [if_pos rfl] at q
     rw [if_pos rfl, bf]
     refine q.imp fun x ρ3 ⟨p, j3⟩ => ?_
     refine (ih (acc ++ [x.d]) ρ3 j3 (fun y hy => ?_) fun d' hd' => h d' (by simp [hd'])).imp fun xs ρ ⟨q1, q2, q3⟩ => ⟨q1, q2, by simp at q3 ⊢; omega⟩
     rcases List.mem_append.mp hy with hy | hy
     . exact ha y hy
     . rw [List.mem_singleton.mp hy]; exact p
   | false =>
     rw [if_neg (by simp)] at q
     rw [if_neg (by simp)]
     exact (ih acc ρ2 q ha fun d' hd' => h d' (by simp [hd'])).imp fun xs ρ ⟨q1, q2, q3⟩ => ⟨q1, q2, by simp at q3 ⊢; omega⟩
theorem yG {c : Call} {is : List Nat} {one : Bool} {elt : P} (J : List Sl -> Prop) (P : D -> Prop) {Q : List D -> List Sl -> Prop} {ds : List D} {ρ : List Sl} (j : J ρ)
 (h : ∀ d, d ∈ ds -> ∀ ρ, J ρ -> ∃ ρ1, cM ρ is one d = some ρ1 /\ (ev c elt ρ1).sat fun r ρ3 => P r.d /\ J ρ3) (k : ∀ xs ρ, J ρ -> xs.length = ds.length -> (∀ x ∈ xs, P x) -> Q xs ρ) : (jJ c is one none elt ds ρ).sat Q := by
 suffices hh : ∀ (ds : List D) (acc : List D) (ρ : List Sl), J ρ -> (∀ x ∈ acc, P x) -> (∀ d, d ∈ ds -> ∀ ρ, J ρ -> ∃ ρ1, cM ρ is one d = some ρ1 /\ (ev c elt ρ1).sat fun r ρ3 => P r.d /\ J ρ3) ->
  (turns is one (pg c none) (ev c elt) ds acc ρ).sat fun xs ρ => J ρ /\ (∀ x ∈ xs, P x) /\ xs.length = acc.length + ds.length from
  (hh ds [] ρ j (by simp) h).imp fun xs ρ ⟨q1, q2, q3⟩ => k xs ρ q1 (by simpa using q3) q2
 intro ds
 induction ds with
 | nil => intro acc ρ j ha _; rw [turns]; exact ⟨j, ha, by simp⟩
 | cons d r ih =>
   intro acc ρ j ha h
   obtain ⟨ρ1, e, h1⟩ := h d (by simp) ρ j
   rw [turns, e]
   show ((pg c none ρ1).bind _).sat _
   rw [pg]
   show ((ev c elt ρ1).bind _).sat _
   rw [bf]
   refine h1.imp fun x ρ3 ⟨p, j3⟩ => ?_
   refine (ih (acc ++ [x.d]) ρ3 j3 (fun y hy => ?_) fun d' hd' => h d' (by simp [hd'])).imp fun xs ρ ⟨q1, q2, q3⟩ => ⟨q1, q2, by simp at q3 ⊢; omega⟩
   rcases List.mem_append.mp hy with hy | hy
   . exact ha y hy
   . rw [List.mem_singleton.mp hy]; exact p
inductive A3 (a b c : Prop) : Prop where
 | mk (ha : a) (hb : b) (hc : c)
inductive A4 (a b c d : Prop) : Prop where
 | mk (ha : a) (hb : b) (hc : c) (hd : d)
inductive A5 (a b c d e : Prop) : Prop where
 | mk (ha : a) (hb : b) (hc : c) (hd : d) (he : e)
inductive A6 (a b c d e f : Prop) : Prop where
 | mk (ha : a) (hb : b) (hc : c) (hd : d) (he : e) (hf : f)
inductive A7 (a b c d e f g : Prop) : Prop where
 | mk (ha : a) (hb : b) (hc : c) (hd : d) (he : e) (hf : f) (hg : g)
inductive A8 (a b c d e f g h : Prop) : Prop where
 | mk (ha : a) (hb : b) (hc : c) (hd : d) (he : e) (hf : f) (hg : g) (hh : h)
inductive A9 (a b c d e f g h i : Prop) : Prop where
 | mk (ha : a) (hb : b) (hc : c) (hd : d) (he : e) (hf : f) (hg : g) (hh : h) (hi : i)
end HH
end
section
namespace HH
open PySem L2 PySem.Spec PyProof.Rows
section
variable {X : Cx} {c : Call} {n : Nat} {e a b d tg : Expr} {p pa pb pd : P} {pos : Pos}
theorem Ca {g : TG} {is : List Nat} (he : SX X c e p) (hg : PG X tg g) (hgo : FZ X.K (fun ρ d => cM ρ is false d) g) (hs : swapsWithSole [tg] e pos.line X.env = pure false := by rfl) (hw : swappedStores [tg] e X.env = pure none := by rfl)
 (h1 : (assignEach [tg] X.env).map (·.2) = [assign tg X.env] := by rfl) : SS X c n (.Assign [tg] e pos) (.Vw is p) := by
 refine fV (Ce he.ev hg hs hw h1) ?_
 rintro D σ H ⟨F, ρ, fl, ρ', g0, e, k⟩
 rw [ex] at e
 obtain ⟨r, ρ1, e1, e⟩ := ao e
 refine ⟨F, ρ, r, ρ1, g0, e1, fun v F1 H1 s1 rr => ?_⟩
 obtain ⟨F2, s2, _, rp⟩ := s1.gq rr
 split at e
 . rename_i ds hd
   obtain ⟨ρ2, ρ3, e2, e⟩ := ao e
   cases e
   have zz := aG e2; clear e2; obtain ⟨e2, e3⟩ := zz
   rw [hd] at rp
   exact hgo v (.tup ds) F2 ρ1 _ σ H1 _ s2.gs rp (by show cM ρ1 is false (.tup ds) = _; cases is <;> exact e2) fun σ' s3 => k F2 σ' H1 (s2.trans s3)
 . cases e
theorem ni : fB X (compareOp .IsNot) (rD X.K (lX .zH)) := by
 rintro pins s σ H x y v u Q I rx ry ⟨F, d, e, r, sm, px, py, he, k⟩
 obtain ⟨t, e1, e2⟩ := map_some (show (U4 true d e).map _ = some r from he)
 subst e2
 unfold U4 at e1
 split at e1
 . rename_i b
   cases e1
   rw [px.bl] at rx; rw [py.bl] at ry
   cases rx; cases ry
   have q := cD.dO sm (jf (!b)) k
   cases b <;> exact wpAny_pure ⟨.bl _, H, I, rfl, q⟩
 . cases e1
end
end HH
end
section
namespace HT
open PySem PySem.Spec PyProof.Rows
section
variable {prog : Program} {w : World} {A : Around} {E : Value -> Shared -> Prop} {s : Shared}
theorem uD {t sl : Addr} {its : Array Value} {vl vu : Value} {lo hi : Option Int} {Q : Value -> Shared -> Prop} (ht : IsTup s.heap t its) (hs : s.heap.IsSliceOf sl vl vu .none) (pl : IsPart vl lo) (pu : IsPart vu hi)
 (h1 : cN its.size 0 lo = 0) (h2 : cN its.size its.size hi = its.size) (h : Q (.ref t) s) : wpAny (model prog w) A (getItem (.ref t) (.ref sl)) Q E s := by
 obtain ⟨os, hos, hcs, hds⟩ := id hs
 have hT : s.TypeIs (.ref sl) "slice" := ⟨os, hos, hcs⟩
 unfold getItem
 try with_reducible refine wpAny_holding ?_
 first | refine wpAny_bind (wpAny_pure ?_) | skip
 refine wpAny_bind (wpAny_sequenceKey ht.typeIs (by decide) (wpAny_bind (wpAny_callSpecial?_slot (name := Str.ofString "__getitem__") ht.typeIs slot_tuple_getitem (wpAny_call_entry slot_tuple_getitem ht.typeIs entry_tuple_getitem ?_ (args_tuple_getitem _ _)))))
 show wpAny _ _ (Builtin.Tuple.tupleItemsOf (.ref t) >>= _) _ _ s
 refine wpAny_bind (tupleItemsOf_ ht (wpAny_bind (wpAny_typeOf hT ?_)))
 rw [if_pos (by decide)]
 refine wpAny_bind (gC hs pl pu ?_)
 have Zg : ((((cN its.size 0 lo : Nat) : Int) == 0 && (1 : Int) == 1 && (cN its.size its.size hi - cN its.size 0 lo) == its.size) = true) := by rw [h1, h2]; simp
 show wpAny _ _ (if (((cN its.size 0 lo : Nat) : Int) == 0 && (1 : Int) == 1 && (cN its.size its.size hi - cN its.size 0 lo) == its.size) = true then _ else _) _ _ s
 rw [if_pos Zg]
 unfold Builtin.Tuple.tupleIsExact
 refine wpAny_bind (wpAny_bind (wpAny_typeOf ht.typeIs (wpAny_pure ?_)))
 rw [if_pos (by decide)]
 exact wpAny_bind (wpAny_rule (wpAny_pure ⟨_, rfl, wpAny_pure h⟩))
end
end HT
namespace HH
open PySem L2 PySem.Spec PyProof.Rows
noncomputable def Wa : Expr -> Bool
 | .Starred _ _ => false
 | _ => true
theorem gV {e : Expr} {es : List Expr} {env : Env} (h : Wa e = true) : starEach (e :: es) env = (false, eval e env) :: starEach es env := by
 cases e with
 | Starred a b => cases h
 | _ => rw [starEach]; (intro e p z; cases z)
noncomputable def nq : List Int -> List Expr -> Option (List Expr)
 | [], es => some es
 | i :: is, .Constant (.int j) _ _ :: es => if i = j then nq is es else none
 | _, _ => none
theorem jW {X : L2.Cx} {c : Call} : ∀ (is : List Int) {es es' : List Expr} {ps' : List P}, nq is es = some es' -> SA X c es' ps' -> SA X c es (is.map (fun i => P.con (.int i)) ++ ps')
 | [], es, es', ps', h, r => by cases h; exact r
 | i :: is, [], es', ps', h, r => by cases h
 | i :: is, e :: es, es', ps', h, r => by
   cases e with
   | Constant v k p =>
     cases v with
     | int j =>
       rw [nq] at h
       split at h
       . rename_i hij
         subst hij
         exact m5 ak (jW is h r) (gV rfl)
       . cases h
     | _ => cases h
   | _ => cases h
theorem qL {n d : Nat} {o : Option Int} : HT.cN n d o = HH.cN n d o := by
 cases o with
 | none => rfl
 | some v =>
   show (if v < 0 then (v + (n : Int)).toNat else min v.toNat n) = (if 0 <= v then min v.toNat n else (v + n).toNat)
   by_cases h : 0 <= v
   . rw [if_pos h, if_neg (by omega)]
   . rw [if_neg h, if_pos (by omega)]
theorem BV {xs : List V} {lo hi : Option Int} : sG xs lo hi = HH.cut xs lo hi := by
 unfold sG HH.cut; rw [qL, qL]
theorem aJ.cut {K : PySem.W.Frag} {F : Hp} {ds : List D} {vs : List V} {lo hi : Option Int} (h : aJ K F vs ds) : aJ K F (HH.cut vs lo hi) (HH.cut ds lo hi) := by
 unfold HH.cut; rw [h.length]; exact (h.drop _).take _
section
variable {X : Cx} {c : Call} {n : Nat} {e a b : Expr} {p pa pb pl ph : P} {pos p2 : Pos} {lo hi : Option Expr}
noncomputable def Yz (K : PySem.W.Frag) : V -> Option Int -> Option Int -> Hp -> VK -> Prop := fun x lo hi H Q => ∃ F d r, aQ F H /\ eU K F H x d /\ JD d (some lo) (some hi) = some r /\ ∀ v F' H', Ext F H F' H' -> cD K F' H' H v r -> Q v H'
theorem RQ : Vf X (Yz X.K) := by
 rintro pins s σ H x v vl vu lo hi sl Q I rx hs pl pu ⟨F, d, r, sm, px, he, k⟩
 cases d with
 | lst ds =>
   cases he
   obtain ⟨a, xs, rfl, hq, rs⟩ := px.lst sm
   refine Gm pins s σ H _ v vl vu lo hi sl Q I rx hs pl pu ⟨a, xs, rfl, hq, fun p hp => ?_⟩
   rw [BV]
   exact tU sm rs.cut hp k
 | tup ds =>
   cases he
   obtain ⟨a, xs, rfl, hq, rs, rt⟩ := px.tup sm
   by_cases hw : HT.cN xs.length 0 lo = 0 /\ HT.cN xs.length xs.length hi = xs.length
   . cases rx
     obtain ⟨its, rv, ht, hz⟩ := I.tuple hq
     have hlen : its.toArray.size = xs.length := by rw [List.size_toArray]; exact rv.length.symm
     refine ⟨"tuple", _, slot_tuple_getitem.lookup, ht.typeIs, HT.uD ht hs pl pu (by rw [hlen]; exact hw.1) (by rw [hlen]; exact hw.2) ⟨.ref a, H, I, rfl, ?_⟩⟩
     have hc : HH.cut ds lo hi = ds := by
      unfold HH.cut
      rw [<- rs.length, <- qL, <- qL, hw.1, hw.2]; simp [rs.length]
     rw [hc] at k
     exact cD.dO sm rt k
   . refine KQ pins s σ H _ v vl vu lo hi sl Q I rx hs pl pu ⟨a, xs, rfl, hq, hw, fun p hp => ?_⟩
     rw [BV]
     exact yN sm rs.cut hp k
 | _ => cases he
noncomputable def SO (X : Cx) (c : Call) (o : Option Expr) (p : P) : Prop := ∃ t, PO X o t /\ ∀ {σ : L2.St} {H F : Hp} {ρ ρ' : List Sl} {d : D} {i : Option Int} {Q : Option Int -> Hp -> Prop}, GS X.K F ρ σ H -> fj (isVar p) (HH.ev c p) ρ = .ok d ρ' -> part p d = some i -> (∀ F' H', cg X.K F ρ σ H F' ρ' σ H' -> Q i H') -> t σ H Q
theorem m7 : SO X c none (.con .non) := by
 refine ⟨_, Ep, fun {σ H F ρ ρ' d i Q} g e h k => ?_⟩
 cases (show some none = some i from h)
 have e' : (HH.ev c (.con .non) ρ).bind (fun r ρ => .ok r.d ρ) = .ok d ρ' := e
 clear e
 rw [HH.ev] at e'
 cases e'
 exact k F H (.refl g)
theorem mK (h : SX X c e p) (hn : Br p = false := by rfl) : SO X c (some e) p := by
 obtain ⟨t, h1, h2⟩ := h.fj
 refine ⟨_, GJ h1, fun {σ H F ρ ρ' d i Q} g e hp k => ?_⟩
 unfold part at hp
 rw [hn, if_neg (by decide)] at hp
 obtain ⟨j, e1, e2⟩ := map_some hp
 cases eV e1
 subst e2
 exact h2 g e fun v F' H' s pv => ⟨j, pv.int, k F' H' s⟩
theorem ud {d : D} {x y : Option (Option Int)} {r : R} (h : JD d x y = some r) : ∃ lo hi, x = some lo /\ y = some hi := by
 cases x with
 | none => cases d <;> cases h
 | some lo => cases y with
   | none => cases d <;> cases h
   | some hi => exact ⟨lo, hi, rfl, rfl⟩
theorem jT (ha : SX X c a pa) (hl : SO X c lo pl) (hh : SO X c hi ph) : SX X c (.Subscript a (.Slice lo hi none p2) pos) (.slice pa pl ph) := by
 obtain ⟨tl, l1, l2⟩ := hl
 obtain ⟨th, h1, h2⟩ := hh
 cases hv : isVar pa with
 | none =>
   refine ⟨fX (ug RQ ha.ev l1 h1) ?_, fun i h => by cases h⟩
   rintro σ H Q ⟨F, ρ, r, ρ', g, e, k⟩
   rw [HH.ev, hv] at e
   obtain ⟨x, ρ1, e1', ea⟩ := ao e; clear e
   have Tn : (HH.ev c pa ρ).bind (fun r ρ => .ok r.d ρ) = .ok x ρ1 := e1'
   clear e1'
   obtain ⟨rx, ρ1', e1, e0⟩ := ao Tn; clear Tn
   cases e0
   obtain ⟨y, ρ2, e2, eb⟩ := ao ea; clear ea
   obtain ⟨z, ρ3, e3, ec⟩ := ao eb; clear eb
   obtain ⟨e, e4⟩ := aG ec; clear ec
   subst e4
   obtain ⟨lo', hi', q1, q2⟩ := ud e
   rw [q1, q2] at e
   refine ⟨F, ρ, rx, _, g, e1, fun v F1 H1 s1 rr => ?_⟩
   obtain ⟨F2, s2, _, rp⟩ := s1.gq rr
   refine l2 s2.gs e2 q1 fun F3 H3 s3 => h2 s3.gs e3 q2 fun F4 H4 s4 => ?_
   have s5 := s2.trans (s3.trans s4)
   refine ⟨F4, _, r, s4.gs.sub, .inl ((rp.mono s3.cZ).mono s4.cZ), e, fun v F5 H5 x rn => ?_⟩
   exact k v F5 H5 (s5.trans (x.stp s5.gs)) (.later s5 (rn.pB s5.gs))
 | some i =>
   refine ⟨fX (ug RQ (ha.var i hv) l1 h1) ?_, fun i h => by cases h⟩
   rintro σ H Q ⟨F, ρ, r, ρ', g, e, k⟩
   rw [HH.ev, hv] at e
   obtain ⟨x0, ρ0, e0', ea⟩ := ao e; clear e
   obtain ⟨e0, zK⟩ := aG e0'; clear e0'
   subst zK
   obtain ⟨y, ρ2, e2, eb⟩ := ao ea; clear ea
   obtain ⟨z, ρ3, e3, ec⟩ := ao eb; clear eb
   obtain ⟨x, ρ4, e5', ed⟩ := ao ec; clear ec
   obtain ⟨e5, e6⟩ := aG e5'; clear e5'
   subst e6
   obtain ⟨e, e4⟩ := aG ed; clear ed
   subst e4
   obtain ⟨lo', hi', q1, q2⟩ := ud e
   rw [q1, q2] at e
   obtain ⟨v, hv1, _⟩ := g.pk e0
   refine ⟨v, hv1, l2 g e2 q1 fun F3 H3 s3 => h2 s3.gs e3 q2 fun F4 H4 s4 => ?_⟩
   have s5 := s3.trans s4
   obtain ⟨v', hv2, pv⟩ := s5.gs.pk e5
   rw [hv1] at hv2; cases hv2
   refine ⟨F4, _, r, s4.gs.sub, pv, e, fun v F5 H5 x rn => ?_⟩
   exact k v F5 H5 (s5.trans (x.stp s5.gs)) (.later s5 (rn.pB s5.gs))
theorem QG : dq X (.type "int") (Ed X.K fun x => blt .int [x]) := by
 rintro pins s σ H xs us Q I r ⟨x, hx, F, d, r', sm, px, he, k⟩
 cases d with
 | int i =>
   cases (show some _ = some r' from he)
   exact qt pins s σ H xs us Q I r (.inl ⟨i, by rw [hx, px.int], cD.dO sm (bZ _) k⟩)
 | bl b =>
   cases (show some _ = some r' from he)
   exact qt pins s σ H xs us Q I r (.inr ⟨b, by rw [hx, px.bl], cD.dO sm (bZ _) k⟩)
 | _ => cases he
theorem G5 {x : Str} {p' : Pos} (hx : x = "int") (hg : Gl X x) (hm : X.mg x = none) (ha : SX X c a pa) (hs : starEach [a] X.env = (false, eval a X.env) :: starEach [] X.env := by rfl) : SX X c (.Call (.Name x p') [a] [] pos) (.blt .int [pa]) := by
 subst hx; exact jE (fun h => j8 QG hg hm (by decide +kernel) h (he := hs)) ha (fun ρ => by rw [HH.ev]) rfl hs
theorem Ko {i : Nat} {x : Str} {p' : Pos} {op : Operator} {sub : Bool} (ho : U9 X op (X3 fun i j => if sub then i - j else i + j)) (hN : X.N.Nodup) (hi : X.N[i]? = some x) (hx : Loc X.env.scope x) (he : SX X c e p) (hf : X.fn x = true \/ X.env.scope.names.lookup x = some .local := by first | exact .inl rfl | exact .inr rfl | assumption) :
 SS X c n (.AugAssign (.Name x p') op e pos) (.aug i sub p) := by
 obtain ⟨te, h1, h2⟩ := he.fj
 refine fV (J3 hN hi hx h1 ho hf) ?_
 rintro D σ H ⟨F, ρ, fl, ρ', g, e, k⟩
 rw [ex] at e
 obtain ⟨a0, ρ0, e0', ea⟩ := ao e; clear e
 obtain ⟨e0, zK⟩ := aG e0'; clear e0'
 subst zK
 obtain ⟨b0, ρ1, e1, eb⟩ := ao ea; clear ea
 obtain ⟨v, hv1, pv⟩ := g.pk e0
 refine ⟨v, hv1, h2 g e1 fun u F1 H1 s1 pu => ?_⟩
 split at eb
 . rename_i i1 j1
   obtain ⟨ρ2, ρ3, e2', ec⟩ := ao eb; clear eb
   cases ec
   obtain ⟨e2, e3⟩ := aG e2'; clear e2'
   have rr : Rep X.K F1 (.int (if sub then i1 - j1 else i1 + j1)) (.int (if sub then i1 - j1 else i1 + j1)) := bZ _
   exact ⟨i1, j1, pv.int, pu.int, k F1 _ H1 (cg.put (r := .val (.int _)) s1 rr e2)⟩
 . cases eb
theorem Hj : U9 X .Add (X3 fun i j => if false then i - j else i + j) := J4
end
end HH
end
section
namespace L2
open PySem PySem.Spec PyProof.Rows
end L2
namespace HH
open PySem L2 PySem.Spec PyProof.Rows
section
variable {X : Cx} {c : Call} {a b d : Expr} {pa pb pd : P} {pos : Pos}
theorem By {o o' : Cm} {op op' : CmpOp} (ho : fB X (compareOp op) (rD X.K (lX o))) (ho' : fB X (compareOp op') (rD X.K (lX o'))) (ha : SX X c a pa) (hb : SX X c b pb) (hd : SX X c d pd)
 (hm : lastMarks [op, op'] [b, d] = false := by with_unfolding_all rfl) : ST X c (.Compare a [op, op'] [b, d] pos) (.chain o o' pa pb pd) := by
 obtain ⟨ta, tb, h1, h2, h3⟩ := ha.jj hb
 obtain ⟨td, h4, h5⟩ := hd.fj
 refine yc (Dg ho ho' h1 h2 h4 hm) fun σ H Q q => qQ (t := vO (rD X.K (lX o)) (rD X.K (lX o')) ta tb td) (fun Q z => ?_) q
 obtain ⟨F, ρ, r, ρ', g, e, k⟩ := z
 rw [HH.ev] at e
 obtain ⟨xy, ρ1, e1, e⟩ := ao e
 obtain ⟨t, ρ2, e2, e⟩ := ao e
 have zz := aG e2; clear e2; obtain ⟨e2, e3⟩ := zz
 subst e3
 have hfl : flat xy.2 = true /\ cm o xy.1 xy.2 = some t := by
  split at e2
  . rename_i hf; exact ⟨hf, e2⟩
  . cases e2
 obtain ⟨hfl, e2⟩ := hfl
 refine h3 g e1 fun v u F' H' s pv pu => ⟨F', xy.1, xy.2, .val (.bl t), s.gs.sub, pv, pu, by unfold lX; rw [e2]; rfl, fun w F2 H2 x rn => ?_⟩
 have s2 := s.trans (x.stp s.gs)
 have rn : Rep X.K F2 w (.bl t) := rn
 rw [Rep] at rn
 subst rn
 refine ⟨t, rfl, ?_⟩
 cases t with
 | false =>
   rw [if_neg Bool.false_ne_true] at e ⊢
   cases e
   exact k _ F2 H2 s2 (show Rep X.K F2 _ _ from jf _)
 | true =>
   rw [if_pos rfl] at e ⊢
   obtain ⟨z, ρ3, e3, e⟩ := ao e
   obtain ⟨e4, e5⟩ := aG e
   subst e5
   refine h5 s2.gs e3 fun w F3 H3 s3 pw => ⟨F3, xy.2, z, r, s3.gs.sub, ?_, pw, e4, fun w' F4 H4 x4 rn => ?_⟩
   . have x1 := x.fs
     have x2 := s3.cZ
     rcases pu with pu | ⟨_, _, _, _, _, _, h⟩
     . exact .inl ((pu.mono x1).mono x2)
     . rw [h] at hfl; cases hfl
   . have s4 := s2.trans s3
     exact k w' F4 H4 (s4.trans (x4.stp s4.gs)) (.later s4 (rn.pB s4.gs))
end
end HH
end
section
namespace HH
open PySem L2 PySem.Spec PyProof.Rows
section
variable {X : Cx} {c : Call} {n : Nat}
theorem GD {k : Nat} {st : Stmt} : SS X c n st (.DQ k) := fV De fun D σ H ⟨F, ρ, fl, ρ', g, e, q⟩ => by rw [ex] at e; cases e
end
end HH
namespace HH
open PySem L2 PySem.Spec PyProof.Rows
end HH
namespace HH
open PySem L2 PySem.Spec PyProof.Rows
end HH
end
section
namespace HH
open PySem
theorem oZ : ∀ a b : List Int, bz a b = true -> bz b a = false
 | [], [], h => by simp [bz] at h
 | [], _ :: _, _ => by simp [bz]
 | _ :: _, [], h => by simp [bz] at h
 | x :: a, y :: b, h => by
   simp only [bz, Bool.or_eq_true, decide_eq_true_eq, Bool.and_eq_true] at h
   simp only [bz, Bool.or_eq_false_iff, decide_eq_false_iff_not, Bool.and_eq_false_iff]
   rcases h with h | ⟨h, h'⟩
   . exact ⟨by omega, .inl (by omega)⟩
   . exact ⟨by omega, .inr (oZ a b h')⟩
theorem vR : ∀ a b c : List Int, bz b a = false -> bz c b = false -> bz c a = false
 | [], _, c, _, _ => by cases c <;> simp [bz]
 | _ :: _, [], _, h, _ => by simp [bz] at h
 | _ :: _, _ :: _, [], _, h => by simp [bz] at h
 | x :: a, y :: b, z :: c, h1, h2 => by
   simp only [bz, Bool.or_eq_false_iff, decide_eq_false_iff_not, Bool.and_eq_false_iff] at h1 h2 ⊢
   refine ⟨by omega, ?_⟩
   by_cases e : z = x
   . right
     exact vR a b c (h1.2.resolve_left (by omega)) (h2.2.resolve_left (by omega))
   . exact .inl e
theorem uC : ∀ a b : List Int, bz a b = false -> bz b a = false -> a = b
 | [], [], _, _ => rfl
 | [], _ :: _, h, _ => by simp [bz] at h
 | _ :: _, [], _, h => by simp [bz] at h
 | x :: a, y :: b, h1, h2 => by
   simp only [bz, Bool.or_eq_false_iff, decide_eq_false_iff_not, Bool.and_eq_false_iff] at h1 h2
   have e : x = y := by omega
   subst e
   rw [uC a b (h1.2.resolve_left (by simp)) (h2.2.resolve_left (by simp))]
theorem tD : ∀ {xs ys : List D}, xs.all di = true -> ys.all di = true -> xs.map dj = ys.map dj -> xs = ys
 | [], [], _, _, _ => rfl
 | [], _ :: _, _, _, h => by simp at h
 | _ :: _, [], _, _, h => by simp at h
 | x :: xs, y :: ys, h1, h2, h => by
   simp only [List.all_cons, Bool.and_eq_true] at h1 h2
   simp only [List.map_cons, List.cons.injEq] at h
   obtain ⟨i, rfl⟩ : ∃ i, x = .int i := by cases x <;> first | exact ⟨_, rfl⟩ | (have q := h1.1; simp [di] at q; done)
   obtain ⟨j, rfl⟩ : ∃ j, y = .int j := by cases y <;> first | exact ⟨_, rfl⟩ | (have q := h2.1; simp [di] at q; done)
   rw [tD h1.2 h2.2 h.2, show i = j from h.1]
theorem xH {x y : D} (h : (di x = true /\ di y = true) \/ (lW x = true /\ lW y = true)) (e : cX x = cX y) : x = y := by
 rcases h with ⟨h1, h2⟩ | ⟨h1, h2⟩
 . cases x <;> first | (simp [di] at h1; done) | skip
   cases y <;> first | (simp [di] at h2; done) | skip
   simpa [cX] using e
 . cases x <;> first | (simp [lW] at h1; done) | skip
   cases y <;> first | (simp [lW] at h2; done) | skip
   rename_i xs ys
   cases xs <;> first | (simp [lW] at h1; done) | skip
   cases ys <;> first | (simp [lW] at h2; done) | skip
   rw [tD h1 h2 e]
noncomputable def iI (a b : D) : Bool := !bz (cX b) (cX a)
theorem iC (ds : List D) : (iQ ds).Perm ds := List.mergeSort_perm ..
theorem Hc (a b c : D) (h1 : iI a b = true) (h2 : iI b c = true) : iI a c = true := by
 simp only [iI, Bool.not_eq_true'] at *
 exact vR _ _ _ h1 h2
theorem Ar (a b : D) : (iI a b || iI b a) = true := by
 simp only [iI, Bool.or_eq_true, Bool.not_eq_true']
 cases h : bz (cX b) (cX a) with
 | false => exact .inl rfl
 | true => exact .inr (oZ _ _ h)
theorem gY (ds : List D) : (iQ ds).Pairwise fun a b => iI a b = true := List.pairwise_mergeSort Hc Ar ds
theorem rA {ds : List D} (h : sortable ds = true) : ∀ x ∈ ds, ∀ y ∈ ds, cX x = cX y -> x = y := by
 simp only [sortable, Bool.and_eq_true, Bool.or_eq_true, List.all_eq_true] at h
 intro x hx y hy e
 rcases h.2 with h | h
 . exact xH (.inl ⟨h x hx, h y hy⟩) e
 . exact xH (.inr ⟨h x hx, h y hy⟩) e
theorem oF {ds l : List D} (h : sortable ds = true) (p : l.Perm ds) (s : l.Pairwise fun a b => iI a b = true) : l = iQ ds := by
 refine List.Perm.eq_of_pairwise (le := fun a b => iI a b = true) (fun a b ha hb h1 h2 => ?_) s (gY ds) (p.trans (iC ds).symm)
 simp only [iI, Bool.not_eq_true'] at h1 h2
 exact rA h a (p.mem_iff.mp ha) b ((iC ds).mem_iff.mp hb) (uC _ _ h2 h1)
end HH
end
section
namespace HH
open PySem PySem.W PyProof.Rows
noncomputable def dJ (lt : Nat -> Nat -> Bool) {α : Type} : KasT α -> α
 | .ret a => a
 | .ask i j k => dJ lt (k (lt i j))
theorem fK (lt : Nat -> Nat -> Bool) {α β : Type} (f : α -> KasT β) : ∀ t : KasT α, dJ lt (t.bind f) = dJ lt (f (dJ lt t))
 | .ret _ => rfl
 | .ask i j k => fK lt f (k (lt i j))
structure G3 (lt : Nat -> Nat -> Bool) : Prop where
 DR : ∀ a b, lt a b = true -> lt b a = false
 tr : ∀ a b c, lt b a = false -> lt c b = false -> lt c a = false
section
variable {lt : Nat -> Nat -> Bool} (o : G3 lt)
noncomputable def vQ (lt : Nat -> Nat -> Bool) (a b : Nat) : Prop := lt b a = false
theorem G3.refl (o : G3 lt) (a : Nat) : vQ lt a a := by
 cases h : lt a a with
 | false => exact h
 | true => exact absurd (o.DR a a h) (by rw [h]; simp)
noncomputable abbrev G (p : Array Nat) (i : Nat) : Nat := p.getD i 0
theorem zp (p : Array Nat) (i : Nat) : G p i = (p[i]?).getD 0 := by simp [G]
theorem Dv {p : Array Nat} {i j : Nat} (hj : j <= p.size) (k : Nat) : G (kas_rev p i j) k = if i <= k /\ k < j then G p (i + j - 1 - k) else G p k := by
 rw [zp, kas_rev, getElem?_mirror_all hj]
 split <;> rw [zp]
theorem HW {p : Array Nat} {src d : Nat} (hs : src < p.size) (hd : d <= src) (k : Nat) : G (bubble p src d) k = if k = src - d then G p src else if src - d < k /\ k <= src then G p (k - 1) else G p k := by
 rw [zp, getElem?_bubble hs d hd]
 by_cases h1 : k = src - d
 . rw [if_pos h1, if_pos h1, zp]
 . rw [if_neg h1, if_neg h1]
   split <;> rw [zp]
noncomputable def Up (lt : Nat -> Nat -> Bool) (p : Array Nat) (n : Nat) : Prop := ∀ i j, i <= j -> j < n -> vQ lt (G p i) (G p j)
noncomputable def Dn (lt : Nat -> Nat -> Bool) (p : Array Nat) (n : Nat) : Prop := ∀ i j, i <= j -> j < n -> vQ lt (G p j) (G p i)
theorem ou (p : Array Nat) (i j : Nat) : (kas_rev p i j).size = p.size := mirror_size ..
theorem dF (p : Array Nat) (i j : Nat) : (kas_rev p i j).Perm p := mirror_perm ..
include o
theorem vA (p : Array Nat) : ∀ (f n : Nat), 1 <= n -> Up lt p n -> ∃ m, dJ lt (kas_asc p f n) = m /\ n <= m /\ m <= n + f /\ Up lt p m /\ (m = n + f \/ lt (G p m) (G p (m - 1)) = true)
 | 0, n, _, h => ⟨n, rfl, Nat.le_refl _, Nat.le_refl _, h, .inl rfl⟩
 | f + 1, n, h1, h => by
   show ∃ m, dJ lt (if lt (G p n) (G p (n - 1)) = true then KasT.ret n else kas_asc p f (n + 1)) = m /\ _
   cases hc : lt (G p n) (G p (n - 1)) with
   | true => exact ⟨n, by simp [dJ], Nat.le_refl _, by omega, h, .inr hc⟩
   | false =>
     have up : Up lt p (n + 1) := fun i j hij hj => by
      by_cases hjn : j < n
      . exact h i j hij hjn
      . have : j = n := by omega
        subst this
        by_cases e : i = j
        . subst e; exact o.refl _
        . exact o.tr _ _ _ (h i (j - 1) (by omega) (by omega)) hc
     obtain ⟨m, e, a1, a2, a3, a4⟩ := vA p f (n + 1) (by omega) up
     exact ⟨m, by simpa using e, by omega, by omega, a3, a4.imp (fun q => by omega) id⟩
theorem jz {p : Array Nat} {i j : Nat} (hj : j <= p.size) (he : ∀ k k', i <= k -> k < j -> i <= k' -> k' < j -> vQ lt (G p k) (G p k')) (k : Nat) : vQ lt (G (kas_rev p i j) k) (G p k) /\ vQ lt (G p k) (G (kas_rev p i j) k) := by
 rw [Dv hj]
 split
 . exact ⟨he _ _ (by omega) (by omega) (by omega) (by omega), he _ _ (by omega) (by omega) (by omega) (by omega)⟩
 . exact ⟨o.refl _, o.refl _⟩
theorem mW : ∀ (f : Nat) (p : Array Nat) (n q : Nat), 1 <= n -> n + f <= p.size -> Dn lt p n -> q + 1 <= n -> (∀ k k', n - (q + 1) <= k -> k < n -> n - (q + 1) <= k' -> k' < n -> vQ lt (G p k) (G p k')) ->
 ∃ p' m q', dJ lt (kas_desc f p n q) = (p', m, q') /\ p'.Perm p /\ n <= m /\ m <= n + f /\ Dn lt p' m /\ q' + 1 <= m /\ (∀ k k', m - (q' + 1) <= k -> k < m -> m - (q' + 1) <= k' -> k' < m -> vQ lt (G p' k) (G p' k'))
 | 0, p, n, q, _, _, h, hq, he => ⟨p, n, q, rfl, .refl _, Nat.le_refl _, Nat.le_refl _, h, hq, he⟩
 | f + 1, p, n, q, h1, hs, h, hq, he => by
   show ∃ p' m q', dJ lt (if lt (G p n) (G p (n - 1)) = true then (if q > 0 then kas_desc f (kas_rev p (n - (q + 1)) n) (n + 1) 0 else kas_desc f p (n + 1) 0)
    else .ask (p.getD (n - 1) 0) (p.getD n 0) fun d => if d = true then .ret (p, n, q) else kas_desc f p (n + 1) (q + 1)) = (p', m, q') /\ _
   have step1 : lt (G p n) (G p (n - 1)) = true -> ∀ p' : Array Nat, (∀ k, vQ lt (G p' k) (G p k) /\ vQ lt (G p k) (G p' k)) -> Dn lt p' (n + 1) := by
    intro hc p' hp i j hij hj
    refine o.tr _ _ _ (hp j).1 (o.tr _ _ _ ?_ (hp i).2)
    by_cases hjn : j < n
    . exact h i j hij hjn
    . have : j = n := by omega
      subst this
      by_cases e : i = j
      . subst e; exact o.refl _
      . exact o.tr _ _ _ (o.DR _ _ hc) (h i (j - 1) (by omega) (by omega))
   cases hc : lt (G p n) (G p (n - 1)) with
   | true =>
     simp only [if_true]
     by_cases hq0 : q > 0
     . rw [if_pos hq0]
       obtain ⟨p', m, q', e, a1, a2, a3, a4⟩ := mW f (kas_rev p (n - (q + 1)) n) (n + 1) 0 (by omega) (by rw [ou]; omega) (step1 hc _ (jz o (by omega) he)) (by omega) (fun k k' b1 b2 b3 b4 => by
        have : k = k' := by omega
        subst this; exact o.refl _)
       exact ⟨p', m, q', e, a1.trans (dF ..), by omega, by omega, a4⟩
     . rw [if_neg hq0]
       obtain ⟨p', m, q', e, a1, a2, a3, a4⟩ := mW f p (n + 1) 0 (by omega) (by omega) (step1 hc _ fun k => ⟨o.refl _, o.refl _⟩) (by omega) (fun k k' b1 b2 b3 b4 => by
        have : k = k' := by omega
        subst this; exact o.refl _)
       exact ⟨p', m, q', e, a1, by omega, by omega, a4⟩
   | false =>
     simp only [Bool.false_eq_true, if_false]
     show ∃ p' m q', dJ lt (if lt (G p (n - 1)) (G p n) = true then KasT.ret (p, n, q) else kas_desc f p (n + 1) (q + 1)) = (p', m, q') /\ _
     cases hd : lt (G p (n - 1)) (G p n) with
     | true => exact ⟨p, n, q, by simp [dJ], .refl _, Nat.le_refl _, by omega, h, hq, he⟩
     | false =>
       simp only [Bool.false_eq_true, if_false]
       obtain ⟨p', m, q', e, a1, a2, a3, a4⟩ := mW f p (n + 1) (q + 1) (by omega) (by omega) (fun i j hij hj => by
        by_cases hjn : j < n
        . exact h i j hij hjn
        . have : j = n := by omega
          subst this
          by_cases e : i = j
          . subst e; exact o.refl _
          . exact o.tr _ _ _ hd (h i (j - 1) (by omega) (by omega))) (by omega) (fun k k' b1 b2 b3 b4 => by
        have key : ∀ k, n + 1 - (q + 1 + 1) <= k -> k < n + 1 -> vQ lt (G p k) (G p (n - 1)) /\ vQ lt (G p (n - 1)) (G p k) := fun k c1 c2 => by
         by_cases ek : k = n
         . subst ek; exact ⟨hd, hc⟩
         . exact ⟨he _ _ (by omega) (by omega) (by omega) (by omega), he _ _ (by omega) (by omega) (by omega) (by omega)⟩
        exact o.tr _ _ _ (key k b1 b2).1 (key k' b3 b4).2)
       exact ⟨p', m, q', e, a1, by omega, by omega, a4⟩
theorem xr {n nrem : Nat} {p : Array Nat} (h1 : 1 <= n) (hn : n <= nrem) (hs : nrem <= p.size) (h : Dn lt p n) : ∃ m p', dJ lt (kas_tail3 n nrem p) = (m, p') /\ p'.Perm p /\ 1 <= m /\ m <= nrem /\ Up lt p' m := by
 have up : Up lt (kas_rev p 0 n) n := fun i j hij hj => by
  rw [Dv (by omega), Dv (by omega), if_pos (by omega), if_pos (by omega)]
  exact h _ _ (by omega) (by omega)
 obtain ⟨m, e, a1, a2, a3, a4⟩ := vA o (kas_rev p 0 n) (nrem - n) n h1 up
 refine ⟨m, _, ?_, dF p 0 n, by omega, by omega, a3⟩
 unfold kas_tail3
 rw [fK, e]; rfl
theorem xu {n nrem : Nat} {p : Array Nat} (hn : n + 1 <= nrem) (hs : nrem <= p.size) (h : Dn lt p (n + 1)) : ∃ m p', dJ lt (kas_descPart n nrem p) = (m, p') /\ p'.Perm p /\ 1 <= m /\ m <= nrem /\ Up lt p' m := by
 obtain ⟨p1, m1, q1, e, a1, a2, a3, a4, a5, a6⟩ := mW o (nrem - (n + 1)) p (n + 1) 0 (by omega) (by omega) h (by omega) (fun k k' b1 b2 b3 b4 => by
  have : k = k' := by omega
  subst this; exact o.refl _)
 have hz := a1.size_eq
 unfold kas_descPart
 rw [fK, e]
 dsimp only
 by_cases hq : q1 > 0
 . rw [if_pos hq]
   have dn : Dn lt (kas_rev p1 (m1 - (q1 + 1)) m1) m1 := fun i j hij hj => o.tr _ _ _ (jz o (by omega) a6 j).1 (o.tr _ _ _ (a4 i j hij hj) (jz o (by omega) a6 i).2)
   obtain ⟨m, p', e', b1, b2⟩ := xr o (p := kas_rev p1 (m1 - (q1 + 1)) m1) (n := m1) (nrem := nrem) (by omega) (by omega) (by rw [ou]; omega) dn
   exact ⟨m, p', e', b1.trans ((dF ..).trans a1), b2⟩
 . rw [if_neg hq]
   obtain ⟨m, p', e', b1, b2⟩ := xr o (p := p1) (n := m1) (nrem := nrem) (by omega) (by omega) (by omega) a4
   exact ⟨m, p', e', b1.trans a1, b2⟩
theorem zR {nrem : Nat} {p : Array Nat} (h1 : 1 <= nrem) (hs : nrem <= p.size) : ∃ m p', dJ lt (kas_count nrem p) = (m, p') /\ p'.Perm p /\ 1 <= m /\ m <= nrem /\ Up lt p' m := by
 obtain ⟨n, e, a1, a2, a3, a4⟩ := vA o p (nrem - 1) 1 (Nat.le_refl _) (fun i j hij hj => by
  have : i = j := by omega
  subst this; exact o.refl _)
 unfold kas_count
 rw [fK, e]
 by_cases hn : n = nrem
 . rw [if_pos (by simpa using hn)]
   exact ⟨n, p, rfl, .refl _, a1, by omega, a3⟩
 . rw [if_neg (by simpa using hn)]
   have hlt : lt (G p n) (G p (n - 1)) = true := a4.resolve_left (by omega)
   by_cases hg : n > 1
   . rw [if_pos hg]
     show ∃ m p', dJ lt (if lt (G p 0) (G p (n - 1)) = true then KasT.ret (n, p) else kas_descPart n nrem (kas_rev p 0 n)) = (m, p') /\ _
     cases hr : lt (G p 0) (G p (n - 1)) with
     | true => exact ⟨n, p, by simp [dJ], .refl _, a1, by omega, a3⟩
     | false =>
       simp only [Bool.false_eq_true, if_false]
       have he : ∀ k k', 0 <= k -> k < n -> 0 <= k' -> k' < n -> vQ lt (G p k) (G p k') := fun k k' _ b2 _ b4 =>
        o.tr _ _ _ (a3 k (n - 1) (by omega) (by omega)) (o.tr _ _ _ hr (a3 0 k' (by omega) b4))
       obtain ⟨m, p', e', b1, b2⟩ := xu o (p := kas_rev p 0 n) (n := n) (nrem := nrem) (by omega) (by rw [ou]; omega) (fun i j hij hj => by
        refine o.tr _ _ _ (jz o (by omega) he j).1 (o.tr _ _ _ ?_ (jz o (by omega) he i).2)
        by_cases hjn : j < n
        . exact he _ _ (by omega) (by omega) (by omega) (by omega)
        . have : j = n := by omega
          subst this
          by_cases e : i = j
          . subst e; exact o.refl _
          . exact o.tr _ _ _ (o.DR _ _ hlt) (he _ _ (by omega) (by omega) (by omega) (by omega)))
       exact ⟨m, p', e', b1.trans (dF ..), b2⟩
   . rw [if_neg hg]
     have : n = 1 := by omega
     subst this
     exact xu o (by omega) hs (fun i j hij hj => by
      by_cases e : i = j
      . subst e; exact o.refl _
      . have e0 : i = 0 := by omega
        have e1 : j = 1 := by omega
        subst e0 e1
        exact o.DR _ _ hlt)
theorem oH {p : Array Nat} {k : Nat} (hu : Up lt p k) : ∀ (f l r : Nat), l <= r -> r <= k -> r - l <= f -> (∀ i, i < l -> vQ lt (G p i) (G p k)) -> (∀ i, r <= i -> i < k -> lt (G p k) (G p i) = true) ->
 ∃ m, dJ lt (kas_place p k f l r) = m /\ m <= k /\ (∀ i, i < m -> vQ lt (G p i) (G p k)) /\ (∀ i, m <= i -> i < k -> lt (G p k) (G p i) = true)
 | 0, l, r, h1, h2, h3, h4, h5 => ⟨l, rfl, by omega, h4, fun i a b => h5 i (by omega) b⟩
 | f + 1, l, r, h1, h2, h3, h4, h5 => by
   unfold kas_place
   by_cases hge : l ≥ r
   . rw [if_pos hge]; exact ⟨l, rfl, by omega, h4, fun i a b => h5 i (by omega) b⟩
   . rw [if_neg hge]
     show ∃ m, dJ lt (if lt (G p k) (G p ((l + r) / 2)) = true then kas_place p k f l ((l + r) / 2) else kas_place p k f ((l + r) / 2 + 1) r) = m /\ _
     cases hc : lt (G p k) (G p ((l + r) / 2)) with
     | true =>
       simp only [if_true]
       refine oH hu f l _ (by omega) (by omega) (by omega) h4 fun i a b => ?_
       cases h : lt (G p k) (G p i) with
       | true => rfl
       | false => exact absurd (o.tr _ _ _ (hu _ i a b) h) (by rw [hc]; simp)
     | false =>
       simp only [Bool.false_eq_true, if_false]
       exact oH hu f _ r (by omega) (by omega) (by omega) (fun i a => o.tr _ _ _ (hu i ((l + r) / 2) (by omega) (by omega)) hc) h5
theorem Bk : ∀ (f : Nat) (p : Array Nat) (k : Nat), k + f <= p.size -> Up lt p k -> ∃ p', dJ lt (kas_bin f p k) = p' /\ p'.Perm p /\ Up lt p' (k + f)
 | 0, p, k, _, h => ⟨p, rfl, .refl _, h⟩
 | f + 1, p, k, hs, h => by
   obtain ⟨l, e, a1, a2, a3⟩ := oH o h k 0 k (by omega) (by omega) (by omega) (fun i hi => by omega) (fun i a b => by omega)
   unfold kas_bin
   rw [fK, e]
   have up : Up lt (bubble p k (k - l)) (k + 1) := fun i j hij hj => by
    rw [HW (by omega) (by omega), HW (by omega) (by omega), show k - (k - l) = l by omega]
    repeat' split
    all_goals first
     | (exfalso; omega)
     | exact o.refl _
     | exact a2 _ (by omega)
     | exact o.DR _ _ (a3 _ (by omega) (by omega))
     | exact h _ _ (by omega) (by omega)
   obtain ⟨p', e', b1, b2⟩ := Bk f (bubble p k (k - l)) (k + 1) (by rw [bubble_size]; omega) up
   exact ⟨p', e', b1.trans (bubble_perm ..), by rwa [show k + (f + 1) = k + 1 + f by omega]⟩
theorem Gh {n : Nat} (h1 : 1 <= n) : ((dJ lt (kas_sort n)).toList.Perm (List.range n)) /\ Up lt (dJ lt (kas_sort n)) n := by
 have hz : (List.toArray (List.range n)).size = n := by simp
 obtain ⟨m, p, e, a1, a2, a3, a4⟩ := zR o (p := (List.range n).toArray) (nrem := n) h1 (by simp)
 have hp : p.size = n := by rw [a1.size_eq, hz]
 unfold kas_sort
 rw [fK, e]
 dsimp only
 split
 . obtain ⟨p', e', b1, b2⟩ := Bk o (n - max m 1) p (max m 1) (by omega) (by rwa [show max m 1 = m by omega])
   rw [e']
   refine ⟨by simpa using Array.perm_iff_toList_perm.mp (b1.trans a1), ?_⟩
   rwa [show max m 1 + (n - max m 1) = n by omega] at b2
 . have : m = n := by omega
   subst this
   exact ⟨by simpa [dJ] using Array.perm_iff_toList_perm.mp a1, a4⟩
end
end HH
end
section
namespace HH
open PySem PySem.W PyProof.Rows PySem.Calls
noncomputable def gh (n : Nat) {α : Type} (R : α -> Prop) : KasT α -> Prop
 | .ret a => R a
 | .ask i j k => i < n /\ j < n /\ ∀ b, gh n R (k b)
theorem dZ {n : Nat} {α β : Type} {R : α -> Prop} {S : β -> Prop} {f : α -> KasT β} (hf : ∀ a, R a -> gh n S (f a)) : ∀ {t : KasT α}, gh n R t -> gh n S (t.bind f)
 | .ret _, h => hf _ h
 | .ask _ _ _, h => ⟨h.1, h.2.1, fun b => dZ hf (h.2.2 b)⟩
noncomputable def uY (n : Nat) (p : Array Nat) : Prop := p.size = n /\ ∀ x ∈ p.toList, x < n
theorem lH {n : Nat} {α : Type} {R : α -> Prop} (lt : Nat -> Nat -> Bool) : ∀ {t : KasT α}, gh n R t -> R (dJ lt t)
 | .ret _, h => h
 | .ask i j k, h => lH lt (t := k (lt i j)) (h.2.2 (lt i j))
section
variable {n : Nat} (h0 : 0 < n)
theorem gB {p q : Array Nat} (h : q.Perm p) (l : uY n p) : uY n q := ⟨h.size_eq.trans l.1, fun x hx => l.2 x ((Array.perm_iff_toList_perm.mp h).mem_iff.mp hx)⟩
include h0
theorem eG {p : Array Nat} (l : uY n p) (i : Nat) : p.getD i 0 < n := by
 by_cases hi : i < p.size
 . have e : p.getD i 0 = p[i] := by simp [Array.getD, hi]
   rw [e]; exact l.2 _ (by simp)
 . have e : p.getD i 0 = 0 := by simp [Array.getD, hi]
   rw [e]; exact h0
theorem vB {p : Array Nat} (l : uY n p) : ∀ f m, gh n (fun _ => True) (kas_asc p f m)
 | 0, _ => trivial
 | f + 1, m => ⟨eG h0 l _, eG h0 l _, fun b => by cases b <;> simp only [if_true, Bool.false_eq_true, if_false]; exact vB l f _; trivial⟩
theorem m8 : ∀ f {p : Array Nat} m q, uY n p -> gh n (fun r => uY n r.1) (kas_desc f p m q)
 | 0, _, _, _, l => l
 | f + 1, p, m, q, l => by
   refine ⟨eG h0 l _, eG h0 l _, fun b => ?_⟩
   cases b with
   | true =>
     simp only [if_true]
     split
     . exact m8 f _ _ (gB (dF ..) l)
     . exact m8 f _ _ l
   | false =>
     simp only [Bool.false_eq_true, if_false]
     refine ⟨eG h0 l _, eG h0 l _, fun b => ?_⟩
     cases b with
     | true => exact l
     | false => exact m8 f _ _ l
theorem xx {p : Array Nat} (l : uY n p) (m r : Nat) : gh n (fun r => uY n r.2) (kas_tail3 m r p) := by
 unfold kas_tail3
 refine dZ (R := fun _ => True) (fun a _ => ?_) (vB h0 (gB (dF ..) l) _ _)
 exact gB (dF p 0 m) l
theorem xX {p : Array Nat} (l : uY n p) (m r : Nat) : gh n (fun r => uY n r.2) (kas_descPart m r p) :=
 dZ (fun x hx => by
  split
  . exact xx h0 (gB (dF ..) hx) _ _
  . exact xx h0 hx _ _) (m8 h0 _ _ _ l)
theorem Bf {p : Array Nat} (l : uY n p) (r : Nat) : gh n (fun r => uY n r.2) (kas_count r p) :=
 dZ (fun x _ => by
  split
  . exact l
  . split
    . refine ⟨eG h0 l _, eG h0 l _, fun b => ?_⟩
      cases b with
      | true => exact l
      | false => exact xX h0 (gB (dF ..) l) _ _
    . exact xX h0 l _ _) (vB h0 l _ _)
theorem uI {p : Array Nat} (l : uY n p) (k : Nat) : ∀ f a b, gh n (fun _ => True) (kas_place p k f a b)
 | 0, _, _ => trivial
 | f + 1, a, b => by
   unfold kas_place
   split
   . trivial
   . refine ⟨eG h0 l _, eG h0 l _, fun c => ?_⟩
     cases c <;> simp only [if_true, Bool.false_eq_true, if_false] <;> exact uI l k f _ _
theorem Av : ∀ f {p : Array Nat} k, uY n p -> gh n (uY n) (kas_bin f p k)
 | 0, _, _, l => l
 | f + 1, p, k, l => dZ (fun _ _ => Av f _ (gB (bubble_perm ..) l)) (uI h0 l k _ _ _)
theorem qF : gh n (uY n) (kas_sort n) :=
 dZ (fun r hr => by
  split
  . exact Av h0 _ _ hr
  . exact hr) (Bf h0 (p := (List.range n).toArray) ⟨by simp, fun x hx => by simpa using hx⟩ n)
end
theorem sZ {n : Nat} {lt : Nat -> Nat -> Bool} {cmp : Nat -> Nat -> (Bool -> Shared -> Prop) -> Shared -> Prop} {s : Shared} (hc : ∀ i j, i < n -> j < n -> ∀ C, C (lt i j) s -> cmp i j C s) {α : Type} {R : α -> Prop} {Q : α -> Shared -> Prop} :
 ∀ {t : KasT α}, gh n R t -> Q (dJ lt t) s -> t.kasWp cmp Q s
 | .ret _, _, h => h
 | .ask i j k, a, h => hc i j a.1 a.2.1 _ (sZ hc (a.2.2 (lt i j)) h)
noncomputable def bT (lt : Nat -> Nat -> Bool) {α : Type} (d : α) (vs : List α) : List α := if vs.length < 2 then vs else (dJ lt (kas_sort vs.length)).toList.map fun i => vs.getD i d
section
variable {prog : Program} {w : World} {A : Around} {E : Value -> Shared -> Prop} {s : Shared} {vs : List Value} {κ : SortKind} {lt : Nat -> Nat -> Bool}
theorem Ac {p : Array Nat} {st : SortSt} (h : arrOf st = p.map (kas_item (vs.toArray.zip vs.toArray))) : (arrOf st).map (·.2) = List.toArray (p.toList.map fun i => vs.getD i Value.none) := kat_snds rfl h
theorem j9 {a : Addr} {n : Nat} {P : PySem.Fin -> Shared -> Prop} (ho : s.heap.get? a = some (seqObj "list" vs.toArray n)) (h64 : vs.length < 64)
 (hk : ∀ h', (∀ b o, b ≠ a -> s.heap.get? b = some o -> h'.get? b = some o) -> ∀ C : SortKind -> Shared -> Prop, C κ { s with heap := h' } -> 2 <= vs.length -> wpAny (model prog w) A (keyKind' vs.toArray) C (fun _ _ => False) { s with heap := h' })
 (hl : ∀ h', (∀ b o, b ≠ a -> s.heap.get? b = some o -> h'.get? b = some o) -> ∀ i j, i < vs.length -> j < vs.length -> ∀ C : Bool -> Shared -> Prop, C (lt i j) { s with heap := h' } -> wpAny (model prog w) A (keyLt' κ (vs.getD i .none) (vs.getD j .none)) C (fun _ _ => False) { s with heap := h' })
 (h : ∀ h' c, (∀ b o, b ≠ a -> s.heap.get? b = some o -> h'.get? b = some o) -> h'.get? a = some (seqObj "list" (bT lt .none vs).toArray c) -> P (.done (.ret .none)) { s with heap := h' }) :
 wpAny (model prog w) A (Builtin.«list.sort» ⟨[.ref a], []⟩) P E s := by
 have ha : a < s.heap.objs.size := Heap.lt_size ho
 obtain ⟨e1, ho1⟩ : ∃ e1, (s.heap.update a (Obj.mapSeq fun _ => (#[] : Array Value))).get? a = some (seqObj "list" #[] e1) := ⟨_, get?_update_seq ho fun _ => #[]⟩
 rw [list_sort_plain]
 refine wpAny_bind (listItems_at ho rfl ?_)
 refine wpAny_bind (listUpdate_at ho rfl ?_ (by rw [List.size_toArray, sizeLine_eq]; omega) (Nat.zero_le _))
 refine wpAny_bind (seqEpoch_at ho1 rfl ?_)
 refine wpAny_bind (wpAny_newTuple ?_ (by show vs.length <= _; rw [sizeLine_eq]; omega))
 refine wpAny_bind (wpAny_newList ?_ (Nat.zero_le _))
 refine wpAny_holding ?_
 generalize hH : (((s.heap.update a (Obj.mapSeq fun _ => (#[] : Array Value))).push { cls := .type "tuple", data := .seq vs.toArray }).push { cls := .type "list", data := .seq #[] } : Heap) = H1
 have Tp : H1.get? a = some (seqObj "list" #[] e1) := by rw [<- hH]; exact Heap.get?_push_of_some _ (Heap.get?_push_of_some _ ho1)
 have keep : ∀ b o, b ≠ a -> s.heap.get? b = some o -> H1.get? b = some o := fun b o hb e => by
  rw [<- hH]
  exact Heap.get?_push_of_some _ (Heap.get?_push_of_some _ ((Heap.get?_update_other _ _ (Ne.symm hb)).trans e))
 have hlen : (bT lt Value.none vs).length <= vs.length := by
  unfold bT
  split
  . exact Nat.le_refl _
  . rename_i h2
    rw [List.length_map, Array.length_toList, (lH lt (qF (n := vs.length) (by omega))).1]
    exact Nat.le_refl _
 have fin : ∀ out : List Value, out = bT lt Value.none vs -> P (.done (.ret .none)) { s with heap := H1.update a (Obj.mapSeq fun _ => List.toArray out) } := by
  rintro out rfl
  obtain ⟨c2, hc2⟩ : ∃ c2, (H1.update a (Obj.mapSeq fun _ => List.toArray (bT lt Value.none vs))).get? a = some (seqObj "list" (bT lt Value.none vs).toArray c2) := ⟨_, get?_update_seq Tp fun _ => List.toArray (bT lt Value.none vs)⟩
  exact h _ c2 (fun b o hb e => (Heap.get?_update_other _ _ (Ne.symm hb)).trans (keep b o hb e)) hc2
 show wpAny (model prog w) A _ P E { s with heap := H1 }
 dsimp only
 by_cases h2 : vs.toArray.size < 2
 . rw [if_pos h2, if_pos h2]
   refine wpAny_bind (wpAny_pure ?_)
   rw [StateT.run_pure]
   refine wpAny_bind (wpAny_pure ?_)
   dsimp only
   have eo : (arrOf (SortSt.mk' general' (vs.toArray.zip vs.toArray) #[] 7 none)).map (·.2) = List.toArray (bT lt Value.none vs) := by
    unfold bT
    rw [if_pos (by simpa using h2)]
    apply Array.toList_inj.mp
    show ((vs.toArray.zip vs.toArray).map (·.2)).toList = vs
    simp [List.map_snd_zip]
   rw [eo]
   refine wpAny_bind (seqEpoch_at Tp rfl ?_)
   refine wpAny_bind (listUpdate_at Tp rfl ?_ (Nat.zero_le _) (Nat.le_trans (by simpa using hlen) (by rw [sizeLine_eq]; omega)))
   simp only [bne_self_eq_false, Bool.false_eq_true, if_false]
   exact wpAny_pure (fin _ rfl)
 . rw [if_neg h2, if_neg h2]
   have h2' : 2 <= vs.length := by simpa using h2
   refine wpAny_bind (hk H1 keep _ ?_ h2' |> fun q => wpAny_mono q (fun _ _ x => x) fun _ _ x => x.elim)
   refine wpAny_bind (wpAny_mono (kat_run (ks := vs) (Q := fun st' s' => s' = { s with heap := H1 } /\ (arrOf st').map (·.2) = List.toArray (bT lt Value.none vs) /\ failedOf st' = none) (G := fun p s' => s' = { s with heap := H1 } /\ p = dJ lt (kas_sort vs.length))
    rfl h2' h64 (fun p st' s' a1 a2 a3 a4 => ⟨a4.1, by rw [Ac a2, a4.2]; unfold bT; rw [if_neg (by omega)], a3⟩) (sZ (n := vs.length) (fun i j hi hj C hC => hl H1 keep i j hi hj C hC) (qF (by omega)) ⟨rfl, rfl⟩)) ?_ fun _ _ e => e)
   rintro ⟨⟨⟩, st'⟩ s' ⟨rfl, hout, hf⟩
   dsimp only
   rw [hout]
   refine wpAny_bind (seqEpoch_at Tp rfl ?_)
   refine wpAny_bind (listUpdate_at Tp rfl ?_ (Nat.zero_le _) (Nat.le_trans (by simpa using hlen) (by rw [sizeLine_eq]; omega)))
   rw [hf]
   simp only [bne_self_eq_false, Bool.false_eq_true, if_false]
   exact wpAny_pure (fin _ rfl)
end
end HH
end
section
namespace HH
open PySem L2 PySem.Spec PyProof.Rows
noncomputable def nY (ds : List D) (i j : Nat) : Bool := bz (cX (ds.getD i .non)) (cX (ds.getD j .non))
theorem Gg (ds : List D) : G3 (nY ds) := ⟨fun _ _ => oZ _ _, fun _ _ _ => vR _ _ _⟩
theorem rF {ds : List D} (h : sortable ds = true) : bT (nY ds) .non ds = iQ ds := by
 unfold bT
 split
 . rename_i h2
   refine oF h (.refl _) ?_
   match ds, h2 with
   | [], _ => exact .nil
   | [_], _ => exact List.pairwise_singleton ..
   | _ :: _ :: _, h2 => simp at h2; omega
 . rename_i h2
   obtain ⟨p1, p2⟩ := Gh (Gg ds) (n := ds.length) (by omega)
   refine oF h ?_ ?_
   . refine (p1.map fun i => ds.getD i .non).trans (.of_eq ?_)
     apply List.ext_getElem
     . simp
     . intro i h1 h2; simp [h2]
   . rw [List.pairwise_iff_getElem]
     intro i j hi hj hij
     have hl := p1.length_eq
     simp only [List.length_map, List.length_range] at hi hj hl
     have u := p2 i j (by omega) (by omega)
     simp only [List.getElem_map, iI, Bool.not_eq_true']
     have g : ∀ k (hk : k < (dJ (nY ds) (PySem.W.kas_sort ds.length)).toList.length), G (dJ (nY ds) (PySem.W.kas_sort ds.length)) k = (dJ (nY ds) (PySem.W.kas_sort ds.length)).toList[k] := fun k hk => by
      rw [zp]; simp at hk; simp [hk]
     rw [g i hi, g j hj] at u
     exact u
end HH
end
section
namespace HH
open PySem L2 PySem.Spec PyProof.Rows PySem.Calls PySem.W
section
variable {prog : Program} {w : World} {A : Around} {E : Value -> Shared -> Prop} {s : Shared} {vs : List Value} {κ : SortKind} {lt : Nat -> Nat -> Bool}
theorem lQ {l : Addr} {Q : Value -> Shared -> Prop} (hl : s.heap.IsList l vs.toArray) (h64 : vs.length < 64)
 (hk : ∀ h', (∀ b o, s.heap.get? b = some o -> h'.get? b = some o) -> ∀ C : SortKind -> Shared -> Prop, C κ { s with heap := h' } -> 2 <= vs.length -> wpAny (model prog w) A.in1.in1 (keyKind' vs.toArray) C (fun _ _ => False) { s with heap := h' })
 (hlt : ∀ h', (∀ b o, s.heap.get? b = some o -> h'.get? b = some o) -> ∀ i j, i < vs.length -> j < vs.length -> ∀ C : Bool -> Shared -> Prop, C (lt i j) { s with heap := h' } -> wpAny (model prog w) A.in1.in1 (keyLt' κ (vs.getD i .none) (vs.getD j .none)) C (fun _ _ => False) { s with heap := h' })
 (h : ∀ h' c, (∀ b o, s.heap.get? b = some o -> h'.get? b = some o) -> h'.get? (s.heap.objs.size + 1) = some (seqObj "list" (bT lt .none vs).toArray c) -> Q (.ref (s.heap.objs.size + 1)) { s with heap := h' }) :
 wpAny (model prog w) A (call (.builtin "sorted") [.ref l]) Q E s := by
 refine Calls.call_function_entry kind_sorted plain_sorted entry_sorted (args_sorted1 _) ?_
 unfold Builtin.«sorted»
 refine wpAny_bind (m := checkCount "sorted" 1 1 _) (wpAny_pure ?_)
 refine wpAny_bind (collect_list hl ?_ (by rw [sizeLine_eq]; omega))
 refine wpAny_bind (wpAny_newList ?_ (by rw [sizeLine_eq]; omega))
 generalize hH : ((s.heap.push (seqObj "list" #[] 0)).update s.heap.objs.size (Obj.mapSeq (· ++ vs.toArray)) : Heap) = H1
 have hsz : H1.objs.size = s.heap.objs.size + 1 := by rw [<- hH, Heap.size_update, size_push']
 have keep : ∀ b o, s.heap.get? b = some o -> H1.get? b = some o := fun b o q => by
  rw [<- hH, Heap.get?_update_ne _ _ _ _ (Nat.ne_of_lt (Heap.lt_size q))]
  exact Heap.get?_push_of_some _ q
 generalize hG : (H1.push { cls := .type "list", data := .seq vs.toArray } : Heap) = H2
 have ho : H2.get? (s.heap.objs.size + 1) = some (seqObj "list" vs.toArray 0) := by rw [<- hG, <- hsz]; exact Heap.get?_push_size _ rfl
 have j4 : ∀ b o, s.heap.get? b = some o -> H2.get? b = some o := fun b o q => by rw [<- hG]; exact Heap.get?_push_of_some _ (keep b o q)
 have hne : ∀ b o, s.heap.get? b = some o -> b ≠ s.heap.objs.size + 1 := fun b o q => Nat.ne_of_lt (Nat.lt_succ_of_lt (Heap.lt_size q))
 show wpAny _ _ _ _ _ { s with heap := H2 }
 rw [hsz]
 refine wpAny_bind (wpAny_holding (wpAny_call_entry slot_list_sort ⟨_, ho, rfl⟩ entry_list_sort ?body (args_list_sort _)))
 case body =>
  refine j9 (s := { s with heap := H2 }) (κ := κ) (lt := lt) ho h64 (fun h' k' C hC h2 => hk h' (fun b o q => k' b o (hne b o q) (j4 b o q)) C hC h2)
   (fun h' k' i j hi hj C hC => hlt h' (fun b o q => k' b o (hne b o q) (j4 b o q)) i j hi hj C hC) fun h' c k' e => ?_
  exact ⟨_, rfl, wpAny_pure ⟨_, rfl, h h' c (fun b o q => k' b o (hne b o q) (j4 b o q)) e⟩⟩
theorem lK {b fin : Bool} {Q : Bool -> Shared -> Prop} : ∀ {xs ys : List Value} {is js : List Int} {i : Nat}, IntsAre xs is -> IntsAre ys js -> fin = decide (is.length < js.length) -> Q (bz is js) s -> KatLex prog w A b fin Q (xs.zip ys) i s
 | _, _, _, _, _, .nil, .nil, e, h => by subst e; exact kat_nil (by simpa [bz] using h)
 | _, _, _, _, _, .nil, .cons _ _ _, e, h => by subst e; exact kat_nil (by simpa [bz] using h)
 | _, _, _, _, _, .cons _ _ _, .nil, e, h => by subst e; exact kat_nil (by simpa [bz] using h)
 | _, _, _, _, i, .cons (ns := is) x t r, .cons (ns := js) y u r', e, h => by
   refine kat_cons (wpAny_eqBool_int ?_)
   by_cases q : x = y
   . subst q
     rw [beq_self_eq_true]
     refine kat_yes (lK r r' (by rw [e]; simp) ?_)
     simpa [bz] using h
   . rw [beq_eq_false_iff_ne.mpr q]
     refine kat_no ?_
     have hx : Q (decide (x < y)) s := by simpa [bz, q] using h
     cases (b && i == 0) with
     | true => exact oneLt_int hx
     | false => exact kat_one _ _ (wpAny_lt_int hx)
noncomputable def my (h : Heap) (u : Value) (d : D) : Prop := ∃ a its is, u = .ref a /\ IsTup h a (List.toArray its) /\ IntsAre its is /\ is ≠ [] /\ cX d = is
theorem gD {h h' : Heap} (k : ∀ b o, h.get? b = some o -> h'.get? b = some o) {u : Value} {d : D} (t : my h u d) : my h' u d := by
 obtain ⟨a, its, is, e, ⟨o, h1, h2⟩, h3⟩ := t
 exact ⟨a, its, is, e, ⟨o, k _ _ h1, h2⟩, h3⟩
theorem kE {h h' : Heap} (k : ∀ b o, h.get? b = some o -> h'.get? b = some o) : ∀ {us : List Value} {ds : List D}, Paired (my h) us ds -> Paired (my h') us ds
 | _, _, .nil => .nil
 | _, _, .cons r t => .cons (gD k r) (kE k t)
theorem lL {h : Heap} : ∀ {us : List Value} {ds : List D}, Paired (my h) us ds -> ∃ fs, KatTups h us fs /\ fs.length = us.length /\ ∀ f ∈ fs, ∃ n t, f = Value.int n t
 | _, _, .nil => ⟨[], trivial, rfl, by simp⟩
 | _, _, .cons r t => by
   obtain ⟨fs, h1, h2, h3⟩ := lL t
   obtain ⟨a, its, is, rfl, ⟨o, o1, o2, n, o3⟩, hi, hne, _⟩ := r
   cases hi with
   | nil => exact absurd rfl hne
   | cons x tk r' =>
     refine ⟨.int x tk :: fs, KatTups.cons o1 o2 o3 (by simp) h1, by simp [h2], fun f hf => ?_⟩
     rcases List.mem_cons.mp hf with rfl | hf
     . exact ⟨_, _, rfl⟩
     . exact h3 f hf
theorem jR {h : Heap} : ∀ {us : List Value} {ds : List D}, Paired (my h) us ds -> ∀ i, i < us.length -> my h (us.getD i .none) (ds.getD i .non)
 | _, _, .cons r _, 0, _ => by simpa using r
 | _, _, .cons _ t, i + 1, hi => by simpa using jR t i (by simpa using hi)
theorem qw {ds : List D} (t : Paired (my s.heap) vs ds) (h2 : 2 <= vs.length) {C : SortKind -> Shared -> Prop} (hC : C (tuples' (Value.type "int" != Value.type "tuple")) s) : wpAny (model prog w) A (keyKind' vs.toArray) C E s := by
 obtain ⟨fs, h1, h3, h4⟩ := lL t
 refine kat_kind (T := .type "int") h1 (by omega) (fun v hv => ?_) rfl hC
 obtain ⟨n, t, rfl⟩ := h4 v hv
 exact Looks.now
theorem yg {x y : Value} {d e : D} (hx : my s.heap x d) (hy : my s.heap y e) {b : Bool} {C : Bool -> Shared -> Prop} (hC : C (bz (cX d) (cX e)) s) : wpAny (model prog w) A (keyLt' (tuples' b) x y) C E s := by
 obtain ⟨a, its, is, rfl, ⟨o, o1, o2, n, o3⟩, hi, hne, e1⟩ := hx
 obtain ⟨a', its', js, rfl, ⟨o', p1, p2, n', p3⟩, hj, hne', e2⟩ := hy
 refine kat_lt o1 o3 p1 p3 ?_
 rw [e1, e2] at hC
 refine lK (is := is) (js := js) (by simpa using hi) (by simpa using hj) ?_ hC
 rw [List.size_toArray, List.size_toArray, IntsAre.length hi, IntsAre.length hj]
end
theorem kj {xs : List V} {us : List Value} (h : Vals xs us) (i : Nat) : RelV (xs.getD i .non) (us.getD i .none) := by
 have hl := h.length
 by_cases hi : i < xs.length
 . obtain ⟨u, e, r⟩ := h.get (i := i) (x := xs[i]) (List.getElem?_eq_getElem hi)
   have e1 : xs.getD i .non = xs[i] := by simp [hi]
   have e2 : us.getD i .none = u := by simp [e]
   rw [e1, e2]; exact r
 . have e1 : xs.getD i .non = .non := by simp [Nat.le_of_not_lt hi]
   have e2 : us.getD i .none = .none := by simp [show us.length <= i by omega]
   rw [e1, e2]; rfl
theorem uz {f : Nat -> V} {g : Nat -> Value} (h : ∀ i, RelV (f i) (g i)) : ∀ l : List Nat, Vals (l.map f) (l.map g)
 | [] => .nil
 | i :: l => .cons (h i) (uz h l)
theorem nZ {lt : Nat -> Nat -> Bool} {xs : List V} {us : List Value} (h : Vals xs us) : Vals (bT lt .non xs) (bT lt .none us) := by
 unfold bT
 rw [<- h.length]
 split
 . exact h
 . exact uz (kj h) _
theorem sH {K : PySem.W.Frag} {F : Hp} {f : Nat -> V} {g : Nat -> D} (h : ∀ i, Rep K F (f i) (g i)) : ∀ l : List Nat, aJ K F (l.map f) (l.map g)
 | [] => .nil
 | i :: l => .cons (h i) (sH h l)
theorem nJ {K : PySem.W.Frag} {F : Hp} {lt : Nat -> Nat -> Bool} {xs : List V} {ds : List D} (h : aJ K F xs ds) : aJ K F (bT lt .non xs) (bT lt .non ds) := by
 have hl := h.length
 unfold bT
 rw [hl]
 split
 . exact h
 . refine sH (fun i => ?_) _
   by_cases hi : i < ds.length
   . obtain ⟨u, e, r⟩ := h.get (i := i) (d := ds[i]) (List.getElem?_eq_getElem hi)
     have e1 : ds.getD i .non = ds[i] := by simp [hi]
     have e2 : xs.getD i .non = u := by simp [e]
     rw [e1, e2]; exact r
   . have e1 : ds.getD i .non = .non := by simp [Nat.le_of_not_lt hi]
     have e2 : xs.getD i .non = .non := by simp [show xs.length <= i by omega]
     rw [e1, e2, Rep]
theorem rB {α : Type} (lt : Nat -> Nat -> Bool) (d : α) (vs : List α) : (bT lt d vs).length = vs.length := by
 unfold bT
 split
 . rfl
 . rw [List.length_map, Array.length_toList, (lH lt (qF (n := vs.length) (by omega))).1]
theorem all_ints : ∀ {ds : List D}, ds.all di = true -> ds = (ds.map dj).map D.int
 | [], _ => rfl
 | d :: ds, h => by
   simp only [List.all_cons, Bool.and_eq_true] at h
   cases d <;> first | (have q := h.1; simp [di] at q; done) | skip
   rw [List.map_cons, List.map_cons, <- all_ints h.2]; rfl
theorem intsAre_of : ∀ {ns : List Int} {us : List Value}, Vals (ns.map V.int) us -> IntsAre us ns
 | [], _, .nil => .nil
 | n :: ns, _, .cons r t => by
   obtain ⟨tk, rfl⟩ := r
   exact .cons n tk (intsAre_of t)
section
variable {X : Cx} {c : Call} {a : Expr} {pa : P} {pos : Pos}
theorem qO {pins : List (Addr × Obj)} {σ : L2.St} {F H : Hp} {s : Shared} (I : L2.Inv X pins σ H s) (sm : aQ F H) : ∀ {ds : List D} {ys : List V} {us : List Value}, aJ X.K F ys ds -> Vals ys us -> ds.all lW = true -> Paired (my s.heap) us ds
 | [], ys, us, h, v, _ => by rw [h.gf] at v; cases v; exact .nil
 | d :: ds, ys, us, h, v, o => by
   obtain ⟨y, r, rfl, h1, h2⟩ := h.cB
   simp only [List.all_cons, Bool.and_eq_true] at o
   cases v with
   | cons v1 v2 =>
     refine .cons ?_ (qO I sm h2 v2 o.2)
     cases d <;> first | (have q := o.1; simp [lW] at q; done) | skip
     rename_i ds'
     cases ds' with
     | nil => exact absurd o.1 (by simp [lW])
     | cons x xs =>
       obtain ⟨ad, zs, rfl, hq, rs, _⟩ := eU.tup sm (.inl h1)
       cases v1
       obtain ⟨its, rv, it, _⟩ := I.tuple hq
       rw [all_ints o.1] at rs
       rw [eX rs] at rv
       exact ⟨ad, its, _, rfl, it, intsAre_of rv, by simp, rfl⟩
theorem Dq : dq X (.builtin "sorted") (Ed X.K fun x => blt .sorted [x]) := by
 rintro pins s σ H xs us Q I r ⟨x, hx, F, d, r', sm, px, he, k⟩
 have zz := dC (show (lF d).bind (fun ds => if sortable ds then some (.own (iQ ds)) else none) = some r' from he); clear he; obtain ⟨ds, e2, he⟩ := zz
 cases d with
 | lst ds' =>
   cases e2
   obtain ⟨p, ys, rfl, hq, rs⟩ := px.lst sm
   subst hx
   obtain ⟨u, rfl, rx⟩ := r.one
   cases rx
   obtain ⟨its, rv, pl, hz⟩ := I.list hq
   by_cases so : sortable ds = true
   . rw [if_pos so] at he
     cases he
     have hl : its.length = ds.length := by rw [<- rv.length, rs.length]
     have so' := so
     simp only [sortable, Bool.and_eq_true, Bool.or_eq_true, decide_eq_true_eq] at so'
     have fin : ∀ h' c, (∀ b o, s.heap.get? b = some o -> h'.get? b = some o) -> h'.get? (s.heap.objs.size + 1) = some (seqObj "list" (bT (nY ds) .none its).toArray c) -> EP X pins σ Q (.ref (s.heap.objs.size + 1)) { s with heap := h' } := by
      intro h' c kp e
      refine ⟨.ref (s.heap.objs.size + 1), _, I.laid (t' := s.toks) (o := .lst (bT (nY ds) .non ys)) (h' := h') kp (Nat.le_succ _) ⟨by rw [rB]; exact hz, bT (nY ds) .none its, c, nZ rv, e⟩, rfl, ?_⟩
      have Tq : aJ X.K F (bT (nY ds) .non ys) (iQ ds) := by rw [<- rF so]; exact nJ rs
      exact tU sm Tq (I.hok.fresh (Nat.le_succ _)) k
     rcases so'.2 with oi | ot
     . have rs' := rs
       rw [all_ints oi] at rs'
       have ia : IntsAre its (ds.map dj) := intsAre_of (by rw [<- eX rs']; exact rv)
       refine lQ (vs := its) (κ := oneType') (lt := nY ds) pl.isList (by omega) (fun h' kp C hC h2 => ?_) (fun h' kp i j hi hj C hC => ?_) fin
       . match its, ia, h2 with
         | v1 :: v2 :: rest, ia, _ =>
           rw [keyKind_ints ia]
           exact wpAny_pure hC
       . have at' : ∀ i, i < its.length -> ∃ n t, its.getD i .none = .int n t /\ cX (ds.getD i .non) = [n] := fun i hi => by
          have r1 := kj rv i
          rw [eX rs'] at r1
          have hi' : i < ds.length := by omega
          obtain ⟨n, hn⟩ : ∃ n, ds[i] = .int n := by
           have := List.all_eq_true.mp oi ds[i] (List.getElem_mem hi')
           cases h : ds[i] <;> first | exact ⟨_, rfl⟩ | (rw [h] at this; simp [di] at this; done)
          have e1 : ((ds.map dj).map V.int).getD i .non = .int n := by simp [hi', hn, dj]
          rw [e1] at r1
          obtain ⟨t, e⟩ := r1
          exact ⟨n, t, e, by simp [hi', hn, cX]⟩
         obtain ⟨n, t, e1, k1⟩ := at' i hi
         obtain ⟨m, t', e3, k2⟩ := at' j hj
         rw [e1, e3]
         refine kat_lt_int ?_
         have e5 : nY ds i j = decide (n < m) := by unfold nY; rw [k1, k2]; simp [bz]
         rw [e5] at hC
         exact hC
     . have tt := qO I sm rs rv ot
       refine lQ (vs := its) (κ := tuples' (Value.type "int" != Value.type "tuple")) (lt := nY ds) pl.isList (by omega) (fun h' kp C hC h2 => qw (s := { s with heap := h' }) (kE kp tt) h2 hC) (fun h' kp i j hi hj C hC => ?_) fin
       exact yg (s := { s with heap := h' }) (gD kp (jR tt i hi)) (gD kp (jR tt j hj)) hC
   . rw [if_neg so] at he; cases he
 | _ => cases e2
theorem boot_sorted : bootBuiltins "sorted" = some (.builtin "sorted") := by decide +kernel
theorem qx {x : Str} {p' : Pos} (hx : x = "sorted") (hg : Gl X x) (hm : X.mg x = none) (ha : SX X c a pa) (hs : starEach [a] X.env = (false, eval a X.env) :: starEach [] X.env := by rfl) : SX X c (.Call (.Name x p') [a] [] pos) (.blt .sorted [pa]) := by
 subst hx; exact jE (fun h => eY Dq hg hm boot_sorted h (he := hs)) ha (fun ρ => by rw [HH.ev]) rfl hs
end
end HH
end
section
namespace HH
open PySem L2 PySem.Spec PyProof.Rows PySem.Calls
theorem wD (l b : Addr) (items items2 : List Value) (n n2 : Nat) (dd dd2 : Option Addr) (sl sl2 : Array (Option Value)) (is js : List Int) (hi : IntsAre items is) (hj : IntsAre items2 js) :
 Meets (Builtin.«tuple.__lt__» ⟨[.ref l, .ref b], []⟩)
  (fun A R s => s.heap.get? l = some { cls := .type "tuple", dict := dd, data := .seq items.toArray n, slots := sl } /\ s.heap.get? b = some { cls := .type "tuple", dict := dd2, data := .seq items2.toArray n2, slots := sl2 } /\
   R (.ok (.ret (.bool (bz is js)))) s) :=
 .of_wp fun prog w A R s h => by
  obtain ⟨hp, g, d, tk, os⟩ := s; obtain ⟨hl, hb, h⟩ := h
  have f2 := AutoSeq1.sub_tuple_tuple
  wp_walk using wpAny_loadPart' hl, wpAny_loadPart' hb, wpAny_forIn_list _ (fun rest b s' => b.1 = none /\ s' = ⟨hp, g, d, tk, os⟩ /\ ∃ xs ys is' Pk, rest = xs.zip ys /\ IntsAre xs is' /\ IntsAre ys Pk /\ decide (items.length < items2.length) = decide (is'.length < Pk.length) /\
   R (.ok (.ret (.bool (bz is' Pk)))) ⟨hp, g, d, tk, os⟩) _
  case turn =>
   rintro ⟨y, x⟩ rest b s' ⟨hb', rfl, xs, ys, is', Pk, hz, h1, h2, h3, hR⟩
   cases h1 with
   | nil => cases hz
   | cons p t h1 =>
     cases h2 with
     | nil => cases hz
     | cons q u h2 =>
       injection hz with hyx hrest
       cases hyx
       refine wpAny_bind (wpAny_eqBool_int ?_)
       by_cases e : p = q
       . subst e
         rw [beq_self_eq_true]
         wp_walk
         exact ⟨rfl, rfl, _, _, _, _, hrest, h1, h2, by rw [h3]; simp, by simpa [bz] using hR⟩
       . rw [beq_eq_false_iff_ne.mpr e]
         have hR' : R (.ok (.ret (.bool (decide (p < q))))) ⟨hp, g, d, tk, os⟩ := by simpa [bz, e] using hR
         simp only [Bool.not_false, if_true]
         refine wpAny_bind (wpAny_rule ?_)
         refine wpAny_bind (show wpAny (model prog w) A.in1 (compareOp .Lt (Value.int p t) (Value.int q u)) _ _ _ from wpAny_lt_int ?_)
         refine wpAny_bind (wpAny_pure ?_)
         exact wpAny_pure (wpAny_pure ⟨_, rfl, hR'⟩)
  case fin =>
   rintro ⟨b1, b2⟩ s' ⟨hb', rfl, xs, ys, is', Pk, hz, h1, h2, h3, hR⟩
   simp only at hb'
   subst hb'
   have e : bz is' Pk = decide (items.length < items2.length) := by
    rw [h3]
    cases h1 with
    | nil => cases h2 <;> simp [bz]
    | cons _ _ _ => cases h2 with
      | nil => simp [bz]
      | cons _ _ _ => cases hz
   rw [e] at hR
   wp_walk
   exact ⟨_, rfl, by simpa [Builtin.Tuple.tupleCompareSizes] using hR⟩
  case h =>
   exact ⟨rfl, rfl, items, items2, is, js, by simp, hi, hj, by rw [IntsAre.length hi, IntsAre.length hj], h⟩
section
variable {X : Cx}
theorem nM (hu : X.A.units + 8 < cLine) : fB X (compareOp .Lt) (rD X.K (lX .lt)) := by
 rintro pins s σ H x y v u Q I rx ry ⟨F, d, e, r, sm, px, py, he, k⟩
 obtain ⟨t, e1, e2⟩ := map_some (show (Qu d e).map _ = some r from he)
 subst e2
 cases d with
 | int i => cases e with
   | int j => exact Mf pins s σ H x y v u Q I rx ry ⟨F, .int i, .int j, _, sm, px, py, by have e2 : Eb (fun i j => decide (i < j)) (.int i) (.int j) = some t := e1; simp only [e2]; rfl, k⟩
   | _ => cases e1
 | tup xs => cases e with
   | tup ys =>
     obtain ⟨hc, e1⟩ := bC (show (if (xs.all di && ys.all di) = true then some (bz (xs.map dj) (ys.map dj)) else none) = some t from e1)
     rw [Bool.and_eq_true] at hc
     obtain ⟨a, vs, rfl, h1, h2, _⟩ := px.tup sm
     obtain ⟨b, ws, rfl, h3, h4, _⟩ := py.tup sm
     cases rx; cases ry
     obtain ⟨its, rv, it, _⟩ := I.tuple h1
     obtain ⟨its2, MF, it2, _⟩ := I.tuple h3
     rw [all_ints hc.1] at h2
     rw [all_ints hc.2] at h4
     rw [eX h2] at rv
     rw [eX h4] at MF
     have i1 := intsAre_of rv
     have i2 := intsAre_of MF
     obtain ⟨⟨cls, dd, data, sl⟩, ho, hc1, n, hd⟩ := it
     obtain ⟨⟨cls2, dd2, data2, sl2⟩, ho2, hc2, n2, hd2⟩ := it2
     simp only at hc1 hd hc2 hd2
     subst hc1 hd hc2 hd2
     refine (show wpAny (model X.prog X.w) X.A (richCompare .Lt (.ref a) (.ref b)) _ _ s from richCompare_meets_room (op := .Lt) ⟨_, ho, rfl⟩ ⟨_, ho2, rfl⟩ PySem.F.slot_tuple_lt PySem.F.entry_tuple_lt (PySem.F.args_tuple_lt_2 _ _) (wD a b its its2 n n2 dd dd2 sl sl2 _ _ i1 i2)
      ⟨ho, ho2, show Value.bool _ ≠ Value.notImplemented /\ _ from ⟨(fun x => nomatch x), ⟨.bl t, H, I, by rw [<- e1]; rfl, cD.dO sm (jf _) k⟩⟩⟩ (by omega))
   | _ => cases e1
 | _ => cases e1
end
end HH
end
section
namespace L2
open PySem PySem.Spec PyProof.Rows
end L2
namespace L2
open PySem PySem.Spec PyProof.Rows
end L2
namespace L2
open PySem PySem.Spec PyProof.Rows
end L2
namespace L2
open PySem PySem.Spec PyProof.Rows
end L2
namespace L2
open PySem PySem.Spec PyProof.Rows
end L2
namespace L2
open PySem PySem.Spec PyProof.Rows
end L2
namespace L2
open PySem PySem.Spec PyProof.Rows
end L2
namespace L2
open PySem PySem.Spec PyProof.Rows
end L2
namespace L2
open PySem PySem.Spec PyProof.Rows
end L2
namespace L2
open PySem PySem.Spec PyProof.Rows
end L2
namespace L2
open PySem PySem.Spec PyProof.Rows
section
variable {κ : Type} [DecidableEq κ]
noncomputable def jQ (kvs : List (κ × V)) (k : κ) : Option V := (kvs.find? fun kv => decide (kv.1 = k)).map (·.2)
noncomputable def putK (kvs : List (κ × V)) (k : κ) (v : V) : List (κ × V) :=
 if (kvs.any fun kv => decide (kv.1 = k)) = true then kvs.map (fun kv => if kv.1 = k then (kv.1, v) else kv) else kvs ++ [(k, v)]
theorem oO {p : κ × V} {r : List (κ × V)} {k : κ} (e : p.1 = k) : jQ (p :: r) k = some p.2 := by simp [jQ, List.find?_cons, e]
theorem nC {p : κ × V} {r : List (κ × V)} {k : κ} (e : ¬ p.1 = k) : jQ (p :: r) k = jQ r k := by simp [jQ, List.find?_cons, e]
theorem uv (k : κ) : ∀ kvs : List (κ × V), (kvs.any fun kv => decide (kv.1 = k)) = (jQ kvs k).isSome
 | [] => rfl
 | p :: r => by
   rw [List.any_cons]
   by_cases e : p.1 = k
   . simp only [oO e, decide_eq_true e, Bool.true_or, Option.isSome_some]
   . rw [nC e, decide_eq_false e, Bool.false_or]; exact uv k r
theorem lN (kvs : List (κ × V)) (k : κ) (v : V) : (putK kvs k v).length <= kvs.length + 1 := by
 unfold putK
 split
 . rw [List.length_map]; omega
 . rw [List.length_append, List.length_cons, List.length_nil]; omega
theorem lZ.yR {o : Option V} {u : Option Value} (r : lZ o u) : o.isSome = u.isSome := by
 cases o with
 | none => cases u with
   | none => rfl
   | some _ => exact (show False from r).elim
 | some _ => cases u with
   | none => exact (show False from r).elim
   | some _ => rfl
theorem lZ.getD {o : Option V} {u : Option Value} {d : V} {d' : Value} (r : lZ o u) (rd : RelV d d') : RelV (o.getD d) (u.getD d') := by
 cases o with
 | none => cases u with
   | none => exact rd
   | some _ => exact (show False from r).elim
 | some _ => cases u with
   | none => exact (show False from r).elim
   | some _ => exact r
theorem KV.val {kvs : List (κ × V)} {vs : List (κ × Value)} (r : KV kvs vs) (k : κ) : lZ (jQ kvs k) (valueAt vs k) := by
 unfold KV at r
 induction r with
 | nil => exact True.intro
 | @cons p q ps qs h t ih =>
   obtain ⟨h1, h2⟩ := h
   by_cases e : p.1 = k
   . have e' : q.1 = k := h1.symm.trans e
     have b : valueAt (q :: qs) k = some q.2 := by simp [valueAt, List.find?_cons, e']
     rw [oO e, b]; exact h2
   . have e' : ¬ q.1 = k := fun z => e (h1.trans z)
     have b : valueAt (q :: qs) k = valueAt qs k := by simp [valueAt, List.find?_cons, e']
     rw [nC e, b]; exact ih
theorem KV.any {kvs : List (κ × V)} {vs : List (κ × Value)} (r : KV kvs vs) (k : κ) : (kvs.any fun kv => decide (kv.1 = k)) = vs.any fun kv => decide (kv.1 = k) := by
 unfold KV at r
 induction r with
 | nil => rfl
 | cons h t ih => rw [List.any_cons, List.any_cons, ih, h.1]
theorem KV.repl {kvs : List (κ × V)} {vs : List (κ × Value)} (r : KV kvs vs) (k : κ) {y : V} {u : Value} (ry : RelV y u) :
 KV (kvs.map fun kv => if kv.1 = k then (kv.1, y) else kv) (vs.map fun kv => if kv.1 = k then (kv.1, u) else kv) := by
 unfold KV at r ⊢
 induction r with
 | nil => exact .nil
 | @cons p q ps qs h t ih =>
   rw [List.map_cons, List.map_cons]
   refine .cons ?_ ih
   obtain ⟨h1, h2⟩ := h
   by_cases e : p.1 = k
   . rw [if_pos e, if_pos (h1.symm.trans e)]; exact ⟨h1, ry⟩
   . rw [if_neg e, if_neg (fun z => e (h1.trans z))]; exact ⟨h1, h2⟩
theorem KV.put {kvs : List (κ × V)} {vs : List (κ × Value)} (r : KV kvs vs) (k : κ) {y : V} {u : Value} (ry : RelV y u) : KV (putK kvs k y) (stored vs k u) := by
 unfold putK stored
 rw [r.any k]
 by_cases e : (vs.any fun kv => decide (kv.1 = k)) = true
 . rw [if_pos e, if_pos e]; exact r.repl k ry
 . rw [if_neg e, if_neg e]; exact Paired.snoc r ⟨rfl, ry⟩
theorem KV.length {kvs : List (κ × V)} {vs : List (κ × Value)} (r : KV kvs vs) : kvs.length = vs.length := Paired.length r
end
theorem xF {P : Program} {w : World} {k : Key} {u : Value} (r : RelV (kV k) u) : (bM P w).is k u = true := by
 cases k with
 | inl i => obtain ⟨t, e⟩ := (show ∃ t, u = Value.int i t from r); subst e; exact tH P w i t
 | inr x => obtain ⟨t, e⟩ := (show ∃ t, u = Value.str x t from r); subst e; exact tO P w x t
theorem qi {P : Program} {w : World} : ∀ {ks : List Key} {us : List Value}, Vals (ks.map kV) us -> ItemsAre (bM P w) ks us
 | [], _, r => by rw [List.map_nil] at r; cases r; exact .nil
 | k :: ks, _, r => by
   rw [List.map_cons] at r
   cases r with
   | cons h t => exact .cons (xF h) (qi t)
noncomputable abbrev KT (H : Hp) : List (List Key × V) -> List (List Key × Addr × Value) -> Prop := Paired fun p q => p.1 = q.1 /\ H q.2.1 = some (.tup (p.1.map kV)) /\ RelV p.2 q.2.2
theorem KT.val {H : Hp} {kvs : List (List Key × V)} {xs : List (List Key × Addr × Value)} (r : KT H kvs xs) (k : List Key) : lZ (jQ kvs k) ((atKey xs k).map (·.2)) := by
 induction r with
 | nil => exact True.intro
 | @cons p q ps qs h t ih =>
   obtain ⟨h1, _, h2⟩ := h
   by_cases e : p.1 = k
   . have e' : q.1 = k := h1.symm.trans e
     have b : atKey (q :: qs) k = some q.2 := by simp [atKey, List.find?_cons, e']
     rw [oO e, b]; exact h2
   . have e' : ¬ q.1 = k := fun z => e (h1.trans z)
     have b : atKey (q :: qs) k = atKey qs k := by simp [atKey, List.find?_cons, e']
     rw [nC e, b]; exact ih
theorem KT.repl {H : Hp} {kvs : List (List Key × V)} {xs : List (List Key × Addr × Value)} (r : KT H kvs xs) (k : List Key) {y : V} {u : Value} (ry : RelV y u) :
 KT H (kvs.map fun kv => if kv.1 = k then (kv.1, y) else kv) (xs.map (putAt k u)) := by
 induction r with
 | nil => exact .nil
 | @cons p q ps qs h t ih =>
   rw [List.map_cons, List.map_cons]
   refine .cons ?_ ih
   obtain ⟨h1, h2, h3⟩ := h
   unfold putAt
   by_cases e : p.1 = k
   . rw [if_pos e, if_pos (h1.symm.trans e)]; exact ⟨h1, h2, ry⟩
   . rw [if_neg e, if_neg (fun z => e (h1.trans z))]; exact ⟨h1, h2, h3⟩
theorem KT.put {H : Hp} {kvs : List (List Key × V)} {xs : List (List Key × Addr × Value)} (r : KT H kvs xs) (k : List Key) {b : Addr} {y : V} {u : Value} (hb : H b = some (.tup (k.map kV))) (ry : RelV y u) :
 KT H (putK kvs k y) (storedH xs k b u) := by
 have e : (kvs.any fun kv => decide (kv.1 = k)) = (atKey xs k).isSome := by
  rw [uv, (r.val k).yR, Option.isSome_map]
 unfold putK storedH
 rw [e]
 by_cases q : (atKey xs k).isSome = true
 . rw [if_pos q, if_pos q]; exact r.repl k ry
 . rw [if_neg q, if_neg q]; exact Paired.snoc r ⟨rfl, hb, ry⟩
theorem KT.keeps {H H' : Hp} {kvs : List (List Key × V)} {xs : List (List Key × Addr × Value)} (r : KT H kvs xs) (ht : ∀ b ys, H b = some (.tup ys) -> H' b = some (.tup ys)) : KT H' kvs xs :=
 Paired.Jr r fun _ _ z => ⟨z.1, ht _ _ z.2.1, z.2.2⟩
section
variable {P : Program} {w : World} {H : Hp} {h : Heap} {a : Addr}
theorem HJ {u : HO} (ok : j7 P w H h) (e : Rd H a u) : bQ P w H h a u := e.ok ok
theorem tG {kvs : List (Key × V)} (ok : j7 P w H h) (e : Rd H a (.dK kvs)) : kvs.length <= sizeLine /\ (a == sysModules) = false /\ ∃ vs, KV kvs vs /\ h.DictOf (bM P w) a vs :=
 show bQ P w H h a (.dK kvs) from HJ ok e
theorem PL {kvs : List (Key × V)} (ok : j7 P w H h) (e : H a = some (.dK kvs)) : kvs.length <= sizeLine /\ (a == sysModules) = false /\ ∃ vs, KV kvs vs /\ h.DictOf (bM P w) a vs := tG ok (.inl e)
theorem qG {ks : List Key} (ok : j7 P w H h) (e : H a = some (.tup (ks.map kV))) : (tupleKind (bM P w)).is h ks a := by
 obtain ⟨_, its, r, o, h1, h2, n, h3⟩ := (show bQ P w H h a (.tup (ks.map kV)) from ok a _ e)
 exact ⟨o, its.toArray, n, h1, h2, h3, by simpa using qi r⟩
theorem tK {kvs : List (List Key × V)} (ok : j7 P w H h) (e : Rd H a (.dT kvs)) : kvs.length <= sizeLine /\ (a == sysModules) = false /\
 ∃ xs, KT H kvs xs /\ h.DictOfH (tupleKind (bM P w)) a xs := by
 obtain ⟨z, y, xs, r, o, es, ep, h1, h2, h3, h4, h5⟩ := (show bQ P w H h a (.dT kvs) from HJ ok e)
 refine ⟨z, y, xs, r, o, es, ep, h1, h2, h3, h4, fun x hx => ?_, h5⟩
 have all : ∀ {l : List (List Key × V)} {m : List (List Key × Addr × Value)}, KT H l m -> ∀ x ∈ m, (tupleKind (bM P w)).is h x.1 x.2.1 := by
  intro l m q
  induction q with
  | nil => intro x hx; exact nomatch hx
  | @cons p q ps qs hq t ih =>
    intro x hx
    rcases List.mem_cons.mp hx with e | hx
    . subst e
      exact qG ok (by rw [<- hq.1]; exact hq.2.1)
    . exact ih x hx
 exact all r x hx
theorem P0 {kvs : List (List Key × V)} (ok : j7 P w H h) (e : H a = some (.dT kvs)) : kvs.length <= sizeLine /\ (a == sysModules) = false /\
 ∃ xs, KT H kvs xs /\ h.DictOfH (tupleKind (bM P w)) a xs := tK ok (.inl e)
end
noncomputable def vf (H : Hp) (a : Addr) (y : V) (r : Option V) : Prop :=
 (∃ kvs k, Rd H a (.dK kvs) /\ y = kV k /\ r = jQ kvs k) \/ ∃ kvs k b, Rd H a (.dT kvs) /\ y = .ref b /\ H b = some (.tup (k.map kV)) /\ r = jQ kvs k
noncomputable def Q0 (H : Hp) (a : Addr) (y v : V) (H' : Hp) : Prop :=
 (∃ kvs k, H a = some (.dK kvs) /\ y = kV k /\ kvs.length < sizeLine /\ H' = upd H a (.dK (putK kvs k v))) \/
 ∃ kvs k b, H a = some (.dT kvs) /\ y = .ref b /\ H b = some (.tup (k.map kV)) /\ kvs.length < sizeLine /\ H' = upd H a (.dT (putK kvs k v))
section
variable {X : Cx} {pins : List (Addr × Obj)} {σ : St} {H : Hp} {s : Shared} {a : Addr} {y v : V} {u r : Value} {o : Option V} {A : Around} {E : Value -> Shared -> Prop}
theorem Inv.big (I : Inv X pins σ H s) : sysModules < s.heap.objs.size := by
 have h : mainGlobals < s.heap.objs.size := (I.mod.glob.keeps I.bk).lt
 exact Nat.lt_trans (by decide) h
theorem pL {Q : Value -> Shared -> Prop} (hu : A.units + 1 < cLine) (I : Inv X pins σ H s) (g : vf H a y (some v)) (ry : RelV y u) (h : ∀ w' s', Inv X pins σ H s' -> RelV v w' -> Q w' s') :
 wpAny (model X.prog X.w) A (getItem (.ref a) u) Q E s := by
 rcases g with ⟨kvs, k, e, ey, l⟩ | ⟨kvs, k, b, e, ey, eb, l⟩
 . subst ey
   obtain ⟨z, hd, vs, rel, dd⟩ := tG I.hok e
   obtain ⟨w', hw, wF⟩ := lZ.some_of (v := v) (o := valueAt vs k) (by rw [l]; exact rel.val k)
   exact wpAny_getItem_of (xF ry) dd.mapOf hw (h w' _ (I.tok _) wF)
 . subst ey
   cases (show u = Value.ref b from ry)
   obtain ⟨z, hd, xs, rel, dd⟩ := tK I.hok e
   obtain ⟨w', hw, wF⟩ := lZ.some_of (v := v) (o := (atKey xs k).map (·.2)) (by rw [l]; exact rel.val k)
   obtain ⟨p, hp, hp2⟩ := Option.map_eq_some_iff.mp hw
   refine wpAny_getItem_heap (tupleKind_room_in1 hu) (qG I.hok eb) dd hp ?_
   rw [hp2]
   exact h w' _ (I.tok _) wF
theorem xq {h' : Heap} {t' : Nat} {ob : HO} (I : Inv X pins σ H s) (mu : Qd (H a)) (hs : Heap.SameBut a s.heap h') (he : ∃ q, h'.get? a = some q) (new : bQ X.prog X.w (upd H a ob) h' a ob) :
 Inv X pins σ (upd H a ob) { s with heap := h', toks := t' } :=
 I.write (x := a) (e := a) mu (.inl rfl) (fun b q hb z => (hs.2 b hb).trans z) he new
theorem Jw {P : Program} {w : World} {H' : Hp} {h' : Heap} {kvs : List (Key × V)} {vs : List (Key × Value)} (z : kvs.length <= sizeLine) (hd : (a == sysModules) = false) (rel : KV kvs vs) (dd : h'.DictOf (bM P w) a vs) :
 bQ P w H' h' a (.dK kvs) := ⟨z, hd, vs, rel, dd⟩
theorem yu {H' : Hp} {Q : Unit -> Shared -> Prop} (hu : A.units + 1 < cLine) (I : Inv X pins σ H s) (g : Q0 H a y v H') (ry : RelV y u) (rv : RelV v r) (h : ∀ s', Inv X pins σ H' s' -> Q () s') :
 wpAny (model X.prog X.w) A (setItem (.ref a) u r) Q E s := by
 rcases g with ⟨kvs, k, e, ey, l, eH⟩ | ⟨kvs, k, b, e, ey, eb, l, eH⟩
 . subst ey eH
   obtain ⟨z, hd, vs, rel, dd⟩ := PL I.hok e
   have hz : vs.length <= sizeLine := by rw [<- rel.length]; exact z
   have hl : (putK kvs k v).length <= sizeLine := by have := lN kvs k v; omega
   refine wpAny_setItem_pairs (hsz := hz) (xF ry) dd fun h' VD hs => h _ ?_
   have he : ∃ q, h'.get? a = some q := let ⟨q, _, _, hq, _⟩ := VD; ⟨q, hq⟩
   exact xq I (by rw [e]; exact True.intro) hs he (Jw hl hd (rel.put k rv) VD)
 . subst ey eH
   cases (show u = Value.ref b from ry)
   obtain ⟨z, hd, xs, rel, dd⟩ := P0 I.hok e
   have hz : xs.length <= sizeLine := by rw [<- Paired.length rel]; exact z
   have hl : (putK kvs k v).length <= sizeLine := by have := lN kvs k v; omega
   refine wpAny_setItem_heap (hsz := hz) (tupleKind_room_in1 hu) (qG I.hok eb) dd fun h' VD hs => h _ ?_
   obtain ⟨q, es, ep, hq, h2, h3, h4, _, h5⟩ := VD
   refine xq I (by rw [e]; exact True.intro) hs ⟨q, hq⟩ ⟨hl, hd, _, (rel.put k eb rv).keeps fun c ys ec => ?_, q, es, ep, hq, h2, h3, h4, h5⟩
   rw [aL (RK ec e (fun z => nomatch z))]
   exact ec
end
noncomputable def FT (i : Expr) : Prop := ∀ ov iv, subscripted i false ov iv = operate [ov, iv] (getItem ov iv)
theorem yf {prog : Program} {w : World} {A : Around} {E : Value -> Shared -> Prop} {s : Shared} {env : Env} {value slice : Expr} {pos : Pos} {T id : String} {Q : Value -> Shared -> Prop}
 (hl : typeLookup (.type T) "__getitem__" = pure (some (.builtin id))) (hs : FT slice)
 (h : wpAny (model prog w) A (eval value env) (fun o s₁ => wpAny (model prog w) A (eval slice env) (fun i s₂ => s₂.TypeIs o T /\ wpAny (model prog w) A (getItem o i) Q E s₂) E s₁) E s) :
 wpAny (model prog w) A (eval (.Subscript value slice pos) env) Q E s := by
 refine Subscript_ (wpAny_mono h (fun o s₁ h₁ => wpAny_mono h₁ (fun i s₂ h₂ => ?_) fun _ _ x => x) fun _ _ x => x)
 obtain ⟨hT, h₂⟩ := h₂
 unfold subscriptTail
 refine wpAny_bind ?_
 rw [getitemInPython_of_ne hT.not_modules]
 refine wpAny_bind (wpAny_specialOf hT hl ?_)
 have fin : wpAny (model prog w) A (subscripted slice false o i) (fun r s₃ => wpAny (model prog w) A (letTemporaryGo value o r >>= fun _ => pure r) Q E s₃) E s₂ := by
  rw [hs o i]
  exact wpAny_operating (wpAny_mono h₂ (fun r s₃ h₃ => wpAny_bind (wpAny_letTemporaryGo (wpAny_pure h₃))) fun _ _ x => x)
 first
  | exact wpAny_pure (wpAny_bind fin)
  | exact wpAny_bind (wpAny_pure (wpAny_bind fin))
  | exact wpAny_bind fin
theorem lJ {X : Cx} {pins : List (Addr × Obj)} {σ : St} {H : Hp} {s : Shared} {a : Addr} {y : V} {o : Option V} (I : Inv X pins σ H s) (g : vf H a y o) : s.TypeIs (.ref a) "dict" := by
 rcases g with ⟨kvs, k, e, _, _⟩ | ⟨kvs, k, b, e, _, _, _⟩
 . obtain ⟨_, _, vs, _, dd⟩ := tG I.hok e
   exact dd.typeIs
 . obtain ⟨_, _, xs, _, dd⟩ := tK I.hok e
   exact dd.typeIs
noncomputable def QS (td ty : TE) : TE := fun σ H Q => td σ H fun x H1 => ty σ H1 fun y H2 => ∃ a v, x = .ref a /\ vf H2 a y (some v) /\ Q v H2
noncomputable def Qs (td ty tv : TE) : TS := fun D σ H => tv σ H fun v H1 => td σ H1 fun x H2 => ty σ H2 fun y H3 => ∃ a H4, x = .ref a /\ Q0 H3 a y v H4 /\ D.nx σ H4
section
variable {X : Cx} {o i e value : Expr} {pos pos' tpos : Pos} {td ty tv : TE}
theorem Gx (hu : X.A.units + 1 < cLine) (ho : PE X o td) (hi : PE X i ty) (hs : FT i) : PE X (.Subscript o i pos) (QS td ty) := by
 intro pins s σ H Q I h
 refine yf PySem.F.slot_dict_getitem.lookup hs (cI (ho pins s σ H _ I h) fun u s1 ⟨x, H1, I1, rx, q1⟩ => cI (hi pins s1 σ H1 _ I1 q1) fun iv s2 ⟨y, H2, I2, ry, a, v, ex, g, q2⟩ => ?_)
 subst ex
 obtain rfl : u = Value.ref a := rx
 exact ⟨lJ I2 g, pL hu I2 g ry fun w' s3 I3 wF => ⟨v, H2, I3, wF, q2⟩⟩
theorem wW (hu : X.A.units + 1 < cLine) (ho : PE X o td) (hi : PE X i ty) (hv : PE X value tv) (hs : swapsWith value (some (.Subscript o i pos')) pos.line X.env = pure false) :
 PS X (.Assign [.Subscript o i pos'] value pos) (Qs td ty tv) := by
 intro pins s σ H D I h
 refine wpAny_Assign_Subscript (cI (hv pins s σ H _ I h) fun r s1 ⟨v, H1, I1, rv, q1⟩ => cI (ho pins s1 σ H1 _ I1 q1) fun u s2 ⟨x, H2, I2, rx, q2⟩ => cI (hi pins s2 σ H2 _ I2 q2) fun iv s3 ⟨y, H3, I3, ry, a, H4, ex, g, q3⟩ => ?_) hs
 subst ex
 obtain rfl : u = Value.ref a := rx
 exact yu hu I3 g ry rv fun s4 I4 => ⟨σ, H4, I4, q3⟩
end
theorem Bb {P : Program} {w : World} {H : Hp} (h : Heap) (hb : sysModules < h.objs.size) : bQ P w H (h.push { cls := .type "dict", data := .dict #[] }) h.objs.size (.dK []) :=
 ⟨Nat.zero_le _, beq_eq_false_iff_ne.mpr (Ne.symm (Nat.ne_of_lt hb)), [], .nil, Heap.DictOf.new h⟩
theorem Ao {P : Program} {w : World} {H : Hp} (h : Heap) (hb : sysModules < h.objs.size) : bQ P w H (h.push { cls := .type "dict", data := .dict #[] }) h.objs.size (.dT []) :=
 ⟨Nat.zero_le _, beq_eq_false_iff_ne.mpr (Ne.symm (Nat.ne_of_lt hb)), [], .nil, _, #[], 0, Heap.get?_push_size _ rfl, ⟨rfl, rfl, rfl⟩, rfl, rfl, List.nodup_nil⟩
noncomputable def Kw : TE := fun _ H Q => ∀ p, H p = none -> Q (.ref p) (upd H p (.dK []))
noncomputable def JN : TE := fun _ H Q => ∀ p, H p = none -> Q (.ref p) (upd H p (.dT []))
section
variable {X : Cx} {pos : Pos}
theorem Dy : PE X (.Dict [] [] pos) Kw := fun pins s σ H Q I h =>
 wpAny_Dict_empty ⟨.ref s.heap.objs.size, _, I.laid (a := s.heap.objs.size) (o := .dK []) (t' := s.toks) (fun _ _ q => Heap.get?_push_of_some _ q) (Nat.le_refl _) (Bb s.heap I.big), rfl, h _ (I.hok.fresh (Nat.le_refl _))⟩
theorem BX : PE X (.Dict [] [] pos) JN := fun pins s σ H Q I h =>
 wpAny_Dict_empty ⟨.ref s.heap.objs.size, _, I.laid (a := s.heap.objs.size) (o := .dT []) (t' := s.toks) (fun _ _ q => Heap.get?_push_of_some _ q) (Nat.le_refl _) (Ao s.heap I.big), rfl, h _ (I.hok.fresh (Nat.le_refl _))⟩
end
structure M2 (X : Cx) (o : Expr) (m : Str) (apos : Pos) (e f : Expr) (cpos : Pos) : Prop where
 base : attributeBase o m X.env (eval o X.env) = eval o X.env
 few : ((backTo cpos (starEach [e, f] X.env)).all (fun x => !x.1) && (backToKw cpos (keywordEach [] X.env)).all (fun x => x.1.isSome)
  && decide (([e, f] : List Expr).length + ([] : List Keyword).length + (if ([] : List Keyword).isEmpty then 0 else 1) < 30)) = true
 line : (apos.endLine == cpos.line) = true
 trees : backTo cpos (starEach [e, f] X.env) = [(false, eval e X.env), (false, eval f X.env)]
noncomputable def Z4 (H : Hp) (a : Addr) : Prop := (∃ kvs, Rd H a (.dK kvs)) \/ ∃ kvs, Rd H a (.dT kvs)
theorem Lx {X : Cx} {pins : List (Addr × Obj)} {σ : St} {H : Hp} {s : Shared} {a : Addr} (I : Inv X pins σ H s) (d : Z4 H a) :
 s.TypeIs (.ref a) "dict" /\ (∀ b, Value.ref a = .ref b -> ∃ ob, s.heap.get? b = some ob /\ ob.dict = none) /\ (a == sysModules) = false := by
 rcases d with ⟨kvs, e⟩ | ⟨kvs, e⟩
 . obtain ⟨_, hd, vs, _, dd⟩ := tG I.hok e
   refine ⟨dd.typeIs, fun b q => ?_, hd⟩
   cases q
   obtain ⟨ob, _, _, h1, h2, _⟩ := dd
   exact ⟨ob, h1, h2.2.1⟩
 . obtain ⟨_, hd, xs, _, dd⟩ := tK I.hok e
   refine ⟨dd.typeIs, fun b q => ?_, hd⟩
   cases q
   obtain ⟨ob, _, _, h1, h2, _⟩ := dd
   exact ⟨ob, h1, h2.2.1⟩
section
variable {X : Cx} {pins : List (Addr × Obj)} {σ : St} {H : Hp} {s : Shared} {a : Addr} {y d : V} {u r : Value} {o : Option V} {A : Around} {E : Value -> Shared -> Prop}
theorem J0 {Q : Value -> Shared -> Prop} (hu : A.units + 1 < cLine) (I : Inv X pins σ H s) (g : vf H a y o) (ry : RelV y u) (rd : RelV d r) (h : ∀ w' s', Inv X pins σ H s' -> RelV (o.getD d) w' -> Q w' s') :
 wpAny (model X.prog X.w) A (call (.builtin "dict.get") [.ref a, u, r]) Q E s := by
 rcases g with ⟨kvs, k, e, ey, l⟩ | ⟨kvs, k, b, e, ey, eb, l⟩
 . subst ey
   obtain ⟨z, hd, vs, rel, dd⟩ := tG I.hok e
   refine call_meetsIn PySem.F.slot_dict_get dd.typeIs PySem.F.entry_dict_get (PySem.F.args_dict_get_3 _ _ _) (meets_dict_get_default (bM X.prog X.w) a (xF ry) hd r) ⟨_, dd.mapOf, h _ _ (I.tok _) ?_⟩
   rw [l]
   exact (rel.val k).getD rd
 . subst ey
   cases (show u = Value.ref b from ry)
   obtain ⟨z, hd, xs, rel, dd⟩ := tK I.hok e
   refine call_meetsIn PySem.F.slot_dict_get dd.typeIs PySem.F.entry_dict_get (PySem.F.args_dict_get_3 _ _ _) (meetsH_dict_get_default (tupleKind (bM X.prog X.w)) a b hd r) ⟨tupleKind_room_in1 hu, k, xs, qG I.hok eb, dd, h _ _ (I.tok _) ?_⟩
   rw [l]
   exact (rel.val k).getD rd
end
noncomputable def Kr (td ty tx : TE) : TE := fun σ H Q => td σ H fun x H1 => ∃ a, x = .ref a /\ Z4 H1 a /\ ty σ H1 fun y H2 => tx σ H2 fun z H3 => ∃ o, vf H3 a y o /\ Q (o.getD z) H3
section
variable {X : Cx} {o e f : Expr} {apos cpos : Pos} {td ty tx : TE}
theorem sO (hu : X.A.units + 1 < cLine) (ho : PE X o td) (he : PE X e ty) (hf : PE X f tx) (m : M2 X o "get" apos e f cpos) : PE X (.Call (.Attribute o "get" apos) [e, f] [] cpos) (Kr td ty tx) := by
 intro pins s σ H Q I h
 refine wpAny_Call_method m.base m.few m.line PySem.F.plainAttrs_dict PySem.F.slot_dict_get PySem.F.type_dict_get (cI (ho pins s σ H _ I h) fun u s1 ⟨x, H1, I1, rx, a, ex, d, q1⟩ => ?_)
 subst ex
 obtain rfl : u = Value.ref a := rx
 obtain ⟨t1, t2, _⟩ := Lx I1 d
 refine ⟨t1, t2, ?_⟩
 rw [m.trees]
 refine Calls.callWith_builtin rfl (Calls.evalArgs_plain (Calls.spliced_cons (cI (he pins s1 σ H1 _ I1 q1) fun iv s2 ⟨y, H2, I2, ry, q2⟩ =>
  Calls.spliced_cons (cI (hf pins s2 σ H2 _ I2 q2) fun fv s3 ⟨z, H3, I3, rz, ov, g, q3⟩ => Calls.spliced_nil ?_))))
 exact J0 hu I3 g ry rz fun w' s4 I4 wF => ⟨_, H3, I4, wF, q3⟩
end
end L2
namespace Vu
open PySem PySem.W PySem.Calls PyProof.Rows
end Vu
namespace L2
open PySem PySem.Spec PyProof.Rows
end L2
namespace L2
open PySem PySem.Spec PyProof.Rows
end L2
namespace L2
open PySem PySem.Spec PyProof.Rows
end L2
end
section
namespace HH
open PySem L2 PySem.Spec PyProof.Rows
section
variable {K : PySem.W.Frag} {F F1 H H1 : Hp} {ρ ρ1 ρ2 : List Sl} {σ σ1 : L2.St}
theorem GS.Qi {x : Nat} {m m' : Dc} {a : Addr} (g : GS K F ρ σ H) (e : ρ[x]? = some (.fc m)) (hx : σ[x]? = some (some (.ref a))) :
 cg K F ρ σ H F (ρ.set x (.fc m')) σ (upd H a m'.ho) := by
 have hi : x < ρ.length := (List.getElem?_eq_some_iff.mp e).1
 have oa : bI ρ σ x a := ⟨⟨_, _, e, rfl⟩, hx⟩
 obtain ⟨a', o0, h1, h2, h3, h4⟩ := g.own x _ _ e rfl
 rw [hx] at h1; cases h1
 have old : ∀ {j : Nat} {c : Addr}, bI (ρ.set x (.fc m')) σ j c -> bI ρ σ j c := fun {j c} ⟨⟨t, dt, q1, q2⟩, q3⟩ => by
  by_cases hj : j = x
  . subst hj; exact ⟨⟨_, _, e, rfl⟩, q3⟩
  . rw [List.getElem?_set_ne (Ne.symm hj)] at q1; exact ⟨⟨t, dt, q1, q2⟩, q3⟩
 refine ⟨⟨fun c o q => ?_, by simp [g.len], fun j b' d q => ?_, fun j t dt q q' => ?_, fun j k c q1 q2 => g.dis j k c (old q1) (old q2)⟩, .refl _, fun c n n' => absurd n n', fun c o q n => ?_, fun c ⟨j, q⟩ => .inl ⟨j, old q⟩, by simp, fun j t q l => ⟨rfl, ?_⟩⟩
 . have : c ≠ a := by rintro rfl; rw [h3] at q; cases q
   rw [aL this]; exact g.sub c o q
 . by_cases hj : j = x
   . subst hj; rw [List.getElem?_set_self hi] at q; cases q
   . rw [List.getElem?_set_ne (Ne.symm hj)] at q; exact g.val j b' d q
 . by_cases hj : j = x
   . subst hj
     rw [List.getElem?_set_self hi] at q; cases q; cases q'
     exact ⟨a, _, hx, bh, h3, rfl⟩
   . rw [List.getElem?_set_ne (Ne.symm hj)] at q
     obtain ⟨c, zs, w1, w2, w3, w4⟩ := g.own j t dt q q'
     have : c ≠ a := by rintro rfl; exact hj (g.dis j x c ⟨⟨t, dt, q, q'⟩, w1⟩ oa)
     exact ⟨c, zs, w1, by rw [aL this]; exact w2, w3, w4⟩
 . have : c ≠ a := by rintro rfl; exact n ⟨x, oa⟩
   rw [aL this]; exact q
 . by_cases hj : j = x
   . subst hj
     rw [e] at q; cases q; cases l
   . exact ⟨t, by rw [List.getElem?_set_ne (Ne.symm hj)]; exact q, .refl t⟩
theorem GS.newD {i : Nat} {m : Dc} {a : Addr} (g : GS K F ρ σ H) (e : ρ[i]? = some .aV) (ha : H a = none) : cg K F ρ σ H F (ρ.set i (.fc m)) (σ.set i (some (.ref a))) (upd H a m.ho) := by
 have hi : i < ρ.length := (List.getElem?_eq_some_iff.mp e).1
 have hi' : i < σ.length := by rw [<- g.len]; exact hi
 have fa : F a = none := by
  cases q : F a with
  | none => rfl
  | some o => rw [g.sub a o q] at ha; cases ha
 have old : ∀ {j : Nat} {c : Addr}, j ≠ i -> bI (ρ.set i (.fc m)) (σ.set i (some (.ref a))) j c -> bI ρ σ j c := fun {j c} hj ⟨⟨t, ds, e1, e2⟩, e3⟩ => by
  rw [List.getElem?_set_ne (Ne.symm hj)] at e1 e3
  exact ⟨⟨t, ds, e1, e2⟩, e3⟩
 have new : ∀ {c : Addr}, bI (ρ.set i (.fc m)) (σ.set i (some (.ref a))) i c -> c = a := fun {c} ⟨_, e3⟩ => by
  rw [List.getElem?_set_self hi'] at e3; cases e3; rfl
 have no : ∀ {j : Nat}, ¬ bI ρ σ j a := fun {j} ⟨⟨t, ds, e1, e2⟩, e3⟩ => by
  obtain ⟨c, o, q1, q2, _⟩ := g.own j t ds e1 e2
  rw [e3] at q1; cases q1
  rw [ha] at q2; cases q2
 refine ⟨⟨fun c o q => ?_, by simp [g.len], fun j b' d q => ?_, fun j t dt q q' => ?_, fun j k c q1 q2 => ?_⟩, .refl _, fun c n n' => absurd n n', fun c o q n => ?_, fun c ⟨j, q⟩ => ?_, by simp, fun j t q l => ?_⟩
 . have : c ≠ a := by rintro rfl; rw [fa] at q; cases q
   rw [aL this]; exact g.sub c o q
 . by_cases hj : j = i
   . subst hj; rw [List.getElem?_set_self hi] at q; cases q
   . rw [List.getElem?_set_ne (Ne.symm hj)] at q ⊢; exact g.val j b' d q
 . by_cases hj : j = i
   . subst hj
     rw [List.getElem?_set_self hi] at q; cases q; cases q'
     exact ⟨a, _, List.getElem?_set_self hi', bh, fa, rfl⟩
   . rw [List.getElem?_set_ne (Ne.symm hj)] at q ⊢
     obtain ⟨c, o, w1, w2, w3, w4⟩ := g.own j t dt q q'
     have : c ≠ a := by rintro rfl; rw [ha] at w2; cases w2
     exact ⟨c, o, w1, by rw [aL this]; exact w2, w3, w4⟩
 . by_cases hj : j = i
   . by_cases hk : k = i
     . rw [hj, hk]
     . subst hj; rw [new q1] at q2; exact absurd (old hk q2) no
   . by_cases hk : k = i
     . subst hk; rw [new q2] at q1; exact absurd (old hj q1) no
     . exact g.dis j k c (old hj q1) (old hk q2)
 . have : c ≠ a := by rintro rfl; rw [ha] at q; cases q
   rw [aL this]; exact q
 . by_cases hj : j = i
   . subst hj; rw [new q]; exact .inr ha
   . exact .inl ⟨j, old hj q⟩
 . have hj : j ≠ i := by rintro rfl; rw [e] at q; cases q; cases l
   exact ⟨by rw [List.getElem?_set_ne (Ne.symm hj)], t, by rw [List.getElem?_set_ne (Ne.symm hj)]; exact q, .refl t⟩
end
noncomputable def uH (p : Int × Int) : Key × V := (Sum.inl p.1, V.int p.2)
theorem Bp (i : Int) : ∀ kvs : List (Int × Int), jQ (kvs.map uH) (Sum.inl i : Key) = ((kvs.find? fun kv => decide (kv.1 = i)).map (·.2)).map V.int
 | [] => rfl
 | p :: kvs => by
   have ih := Bp i kvs
   unfold jQ at ih ⊢
   rw [List.map_cons, List.find?_cons, List.find?_cons]
   by_cases h : p.1 = i
   . have e : decide ((uH p).1 = (Sum.inl i : Key)) = true := by simp [uH, h]
     rw [e]; simp [h, uH]
   . have e : decide ((uH p).1 = (Sum.inl i : Key)) = false := by simp [uH, h]
     rw [e]; simp only [h, decide_false]; exact ih
theorem J9 (i v : Int) (kvs : List (Int × Int)) : putK (kvs.map uH) (Sum.inl i : Key) (V.int v) = (putD kvs i v).map uH := by
 have e : ((kvs.map uH).any fun kv => decide (kv.1 = (Sum.inl i : Key))) = kvs.any fun kv => decide (kv.1 = i) := by
  rw [List.any_map]; congr 1; funext p; simp [uH]
 unfold putK putD
 rw [e]
 split
 . rw [List.map_map, List.map_map]
   refine List.map_congr_left fun p _ => ?_
   by_cases h : p.1 = i
   . simp [uH, h]
   . simp [uH, h]
 . rw [List.map_append]; rfl
section
variable {X : Cx} {c : Call} {n : Nat} {a b e : Expr} {pa pb p : P} {pos : Pos}
theorem zY {H : Hp} {q : Addr} {m : Dc} {i : Int} {o : Option Int} (h : Rd H q m.ho) (e : m.get (.int i) = some o) : vf H q (.int i) (o.map V.int) := by
 cases m with
 | k kvs =>
   cases e
   exact .inl ⟨kvs.map uH, Sum.inl i, h, rfl, (Bp i kvs).symm⟩
 | t kvs => cases e
theorem qC (hu : X.A.units + 8 < cLine) (ha : SX X c a pa) (hb : SX X c b pb) (hs : FT b) : SX X c (.Subscript a b pos) (.bin .zG pa pb) := by
 refine qI (f := qy) (fun h1 h2 => ?_) ha hb (fun ρ => by rw [HH.ev]; rfl) rfl
 intro pins s σ H Q I h
 refine yf PySem.F.slot_dict_getitem.lookup hs (cI (h1 pins s σ H _ I h) fun u s1 ⟨x, H1, I1, rx, q1⟩ => cI (h2 pins s1 σ H1 _ I1 q1) fun iv s2 ⟨y, H2, I2, ry, q2⟩ => ?_)
 obtain ⟨F, d, e, r, sm, px, py, he, k⟩ := q2
 cases d with
 | cQ m =>
   have zz := dC (show (m.get e).bind (fun o => o.map fun v => R.val (.int v)) = some r from he); clear he
   obtain ⟨o, e1, he⟩ := zz
   cases o with
   | none => cases he
   | some v =>
     cases he
     obtain ⟨i, rfl⟩ : ∃ i, e = .int i := by
      cases m with
      | t kvs => cases e <;> cases e1
      | k kvs => cases e <;> first | exact ⟨_, rfl⟩ | cases e1
     obtain ⟨q, ob, rfl, hq⟩ := px.cQ sm
     rw [py.int] at ry
     obtain rfl : u = Value.ref q := rx
     have g := zY (.inr ⟨ob, hq⟩) e1
     exact ⟨lJ I2 g, pL (by omega) I2 g ry fun w' s3 I3 wF => ⟨.int v, H2, I3, wF, cD.dO sm (bZ _) k⟩⟩
 | _ => cases he
theorem Em {i : Nat} {x : Str} {pos' p2 : Pos} (hN : X.N.Nodup) (hi : X.N[i]? = some x) (hx : Loc X.env.scope x) (hs : swapsWith (.Dict [] [] p2) (some (.Name x pos')) pos.line X.env = pure false := by rfl)
 (hf : X.fn x = true \/ X.env.scope.names.lookup x = some .local := by first | exact .inl rfl | exact .inr rfl | assumption) : SS X c n (.Assign [.Name x pos'] (.Dict [] [] p2) pos) (.wG i false) := by
 refine fV (vP hN hi hx Dy hs hf) ?_
 rintro D σ H ⟨F, ρ, fl, ρ', g, e, k⟩
 rw [ex] at e
 split at e
 . rename_i q
   cases e
   exact fun a ha => k F _ _ (g.newD (m := .k []) q ha)
 . cases e
theorem Bq {i : Nat} {x : Str} {px apos cpos : Pos} {pk pd : P} (hu : X.A.units + 8 < cLine) (hN : X.N[i]? = some x) (hv : xU X.env.scope x) (ha : SX X c a pk) (hb : SX X c b pd) (m : M2 X (.Name x px) "get" apos a b cpos)
 (hd : (x == ("__debug__" : Str)) = false := by decide) (hcd : (x == ("__classdict__" : Str)) = false := by decide) : SX X c (.Call (.Attribute (.Name x px) "get" apos) [a, b] [] cpos) (.Pb i pk pd) := by
 obtain ⟨ta, h1, h2⟩ := ha.fj
 obtain ⟨tb, h3, h4⟩ := hb.fj
 refine ⟨fX (sO (by omega) (gO hN hv hd hcd) h1 h3 m) ?_, fun i h => by cases h⟩
 rintro σ H Q ⟨F, ρ, r, ρ', g, e, k⟩
 rw [HH.ev] at e
 split at e
 . rename_i m0 q
   obtain ⟨kd, ρ1, e1, eA⟩ := ao e; clear e
   obtain ⟨dd, ρ2, e2, eB⟩ := ao eA; clear eA
   obtain ⟨a0, o0, w1, w2, w3, w4⟩ := g.own i _ _ q rfl
   refine ⟨.ref a0, w1, a0, rfl, ?_, ?_⟩
   . cases (show o0 = m0.ho from w4)
     cases m0 with
     | k kvs => exact .inl ⟨_, .inl w2⟩
     | t kvs => exact .inr ⟨_, .inl w2⟩
   . refine h2 g e1 fun v F1 H1 s1 pv => h4 s1.gs e2 fun z F2 H2 s2 pz => ?_
     split at eB
     . rename_i m1 q1
       obtain ⟨eC, e3⟩ := aG eB; clear eB
       subst e3
       obtain ⟨o, e4, eD⟩ := dC eC; clear eC
       obtain ⟨w, e5, e6⟩ := map_some eD
       subst e6
       obtain ⟨a1, o1, y1, y2, y3, y4⟩ := s2.gs.own i _ _ q1 rfl
       rw [w1] at y1; cases y1
       cases (show o1 = m1.ho from y4)
       obtain ⟨j, rfl⟩ : ∃ j, kd = .int j := by
        cases m1 with
        | t kvs => cases kd <;> cases e4
        | k kvs => cases kd <;> first | exact ⟨_, rfl⟩ | cases e4
       rw [eV e5] at pz
       rw [pv.int, pz.int]
       refine ⟨o.map V.int, zY (.inl y2) e4, ?_⟩
       have : (o.map V.int).getD (V.int w) = V.int (o.getD w) := by cases o <;> rfl
       rw [this]
       exact k _ F2 H2 (s1.trans s2) (show Rep X.K F2 _ _ from bZ _)
     . cases eB
 . cases e
theorem xW {i : Nat} {x : Str} {px pos' : Pos} {pk : P} (hu : X.A.units + 8 < cLine) (hN : X.N[i]? = some x) (hv : xU X.env.scope x) (ha : SX X c a pk) (he : SX X c e p) (hs : swapsWith e (some (.Subscript (.Name x px) a pos')) pos.line X.env = pure false := by rfl)
 (hd : (x == ("__debug__" : Str)) = false := by decide) (hcd : (x == ("__classdict__" : Str)) = false := by decide) : SS X c n (.Assign [.Subscript (.Name x px) a pos'] e pos) (.dput i pk p) := by
 obtain ⟨ta, h1, h2⟩ := ha.fj
 refine fV (wW (by omega) (gO hN hv hd hcd) h1 he.ev hs) ?_
 rintro D σ H ⟨F, ρ, fl, ρ', g, e, k⟩
 rw [ex] at e
 obtain ⟨r, ρ1, e1, eA⟩ := ao e; clear e
 refine ⟨F, ρ, r, ρ1, g, e1, fun v F1 H1 s1 rr => ?_⟩
 split at eA
 . rename_i m0 q0
   obtain ⟨kd, ρ2, e2, eB⟩ := ao eA; clear eA
   obtain ⟨a0, o0, w1, w2, w3, w4⟩ := s1.gs.own i _ _ q0 rfl
   refine ⟨.ref a0, w1, h2 s1.gs e2 fun y F2 H2 s2 py => ?_⟩
   split at eB
   . rename_i m w q
     split at eB
     . rename_i m' e4
       cases eB
       obtain ⟨a1, o1, y1, y2, y3, y4⟩ := s2.gs.own i _ _ q rfl
       rw [w1] at y1; cases y1
       cases (show o1 = m.ho from y4)
       cases (show v = .int w by have : Rep X.K F1 v (.int w) := rr; rwa [Rep] at this)
       refine ⟨a0, upd H2 a0 m'.ho, rfl, ?_, k F2 σ _ ((s1.trans s2).trans (s2.gs.Qi q w1))⟩
       cases m with
       | t kvs => cases kd <;> cases e4
       | k kvs =>
         cases kd with
         | int j =>
           obtain ⟨hl, e4⟩ := bC (show (if kvs.length < lim then some (Dc.k (putD kvs j w)) else none) = some m' from e4)
           subst e4
           rw [py.int]
           refine .inl ⟨kvs.map uH, Sum.inl j, y2, rfl, by rw [List.length_map, sizeLine_eq]; exact hl, ?_⟩
           rw [J9]; rfl
         | _ => cases e4
     . cases eB
   . cases eB
 . cases eA
end
end HH
end
section
namespace L2
open PySem PySem.Spec PyProof.Rows
noncomputable def Itk (a : Addr) (ob : Obj) (kvs : List (Key × V)) : It :=
 ⟨fun i H => H a = some (.gq ob (.dK kvs)) /\ i < kvs.length, fun i H x H' => H' = H /\ ∃ p, kvs[i]? = some p /\ x = kV p.1, fun i H => H a = some (.gq ob (.dK kvs)) /\ kvs.length <= i⟩
theorem KV.get : ∀ {κ : Type} {kvs : List (κ × V)} {vs : List (κ × Value)} {i : Nat} {p : κ × V}, KV kvs vs -> kvs[i]? = some p -> ∃ v, vs[i]? = some (p.1, v)
 | _, _, _, _, _, .nil, e => by simp at e
 | _, _, _, 0, _, .cons r _, e => by simp at e; subst e; exact ⟨_, by rw [List.getElem?_cons_zero, r.1]⟩
 | _, _, _, i + 1, p, .cons _ t, e => by
   obtain ⟨v, h⟩ := KV.get (i := i) (p := p) t (by simpa using e)
   exact ⟨v, by simpa using h⟩
theorem pP {X : Cx} {pins : List (Addr × Obj)} {σ : St} {H : Hp} {s : Shared} {a : Addr} {ob : Obj} {kvs : List (Key × V)} {es : Array DictEntry} {ep : Nat} (I : Inv X pins σ H s) (h : H a = some (.gq ob (.dK kvs))) (hd : ob.data = .dict es ep) :
 (a == sysModules) = false /\ ∃ vs, KV kvs vs /\ s.heap.DictAt (bM X.prog X.w) a vs ep := by
 obtain ⟨ho, hz, hS, vs, r, dd⟩ := (show bQ X.prog X.w H s.heap a (.gq ob (.dK kvs)) from I.hok a _ h)
 obtain ⟨o, es', ep', h1, h2, h3, h4⟩ := dd
 rw [ho] at h1; cases h1
 rw [hd] at h3; cases h3
 exact ⟨hS, vs, r, ⟨ob, es, ho, h2, hd, h4⟩⟩
theorem Kp {P : Program} {w : World} {k : Key} {u : Value} (h : (bM P w).is k u = true) : RelV (kV k) u := by
 rcases bF h with ⟨i, t, rfl, rfl⟩ | ⟨x, t, rfl, rfl⟩
 . exact ⟨t, rfl⟩
 . exact ⟨t, rfl⟩
theorem zr {P : Program} {w : World} {K : PySem.W.Frag} {tg : Expr} (a it : Addr) (ob : Obj) (kvs : List (Key × V)) (es : Array DictEntry) (ep : Nat) (hd : ob.data = .dict es ep) :
 Turn P w K tg (Itk a ob kvs) [it] it (fun i h => h.IsKeyIter it a i kvs.length ep) where
 mem := by simp
 obj := fun i h st b hb => by
  have e : b = it := by simpa using hb
  subst e
  obtain ⟨o, e, c, d⟩ := st
  exact ⟨o, e, fun v z => by rw [d] at z; cases z⟩
 keep := fun i h h' st k => st.at fun o e => k it (by simp) o e
 item := by
  intro X hP hw hK hc i pins s σ H E I hf st hg
  subst hP hw hK
  obtain ⟨hq, hi⟩ := hg
  obtain ⟨hS, vs, r, dd⟩ := pP I hq hd
  have hl : vs.length = kvs.length := (Paired.length r).symm
  obtain ⟨v, hx⟩ := KV.get r (show kvs[i]? = some kvs[i] by simp [hi])
  obtain ⟨f0, f1, f2, f3, f4, f5⟩ := hf it (by simp)
  refine wpAny_pyNext_dict_item (by rw [hl]; exact st) dd hx fun u h' hu st' sb => ?_
  have I1 : Inv X pins σ H { s with heap := h' } := I.turned (t' := s.toks) (fun b o hb e => (sb.2 b hb).trans e) f0 f1 f3 f4 f5
  rw [hl] at st'
  obtain ⟨o, e, c, d⟩ := id st'
  exact ⟨u, rfl, xZ (s := { s with heap := h' }) e c d (by decide) ⟨_, H, I1, Kp hu, ⟨rfl, _, by simp [hi], rfl⟩, st', fun b hb => (hf b hb).1⟩⟩
 done := by
  intro X hP hw hK hc i pins s σ H E I hf st hg
  subst hP hw hK
  obtain ⟨hq, hi⟩ := hg
  obtain ⟨hS, vs, r, dd⟩ := pP I hq hd
  have hl : vs.length = kvs.length := (Paired.length r).symm
  obtain ⟨f0, f1, f2, f3, f4, f5⟩ := hf it (by simp)
  refine wpAny_pyNext_dict_end (I.ok.hd hc) (by rw [hl]; exact st) dd (by simp [hl, hi]) fun h' he => ⟨rfl, ?_⟩
  exact I.turned (t' := s.toks) (fun b o hb e => he b o hb e) f0 f1 f3 f4 f5
 self := fun A i s Q E st hQ => wpAny_pyIter_keyiter st hQ
section
variable {X : Cx} {tg : Expr}
theorem GX {l : Expr} {tl : TE} (hl : PE X l tl) : PI X tg l (fun σ H R => tl σ H fun x H1 => ∃ a ob kvs, x = .ref a /\ H1 a = some (.gq ob (.dK kvs)) /\ R (Itk a ob kvs) H1) := by
 intro pins s σ H R I h
 refine cI (hl pins s σ H _ I h) ?_
 rintro v s1 ⟨x, H1, I1, r1, a, ob, kvs, e, hq, q⟩
 subst e
 cases r1
 obtain ⟨ho, hz, hS, vs, r, dd⟩ := (show bQ X.prog X.w H1 s1.heap a (.gq ob (.dK kvs)) from I1.hok a _ hq)
 obtain ⟨o, es, ep, h1, h2, h3, h4⟩ := id dd
 rw [ho] at h1; cases h1
 have hlen : vs.length = kvs.length := (Paired.length r).symm
 refine wpAny_pyIter_dict (knd := bM X.prog X.w) (kvs := vs) (ep := ep) hS ⟨ob, es, ho, h2, h3, h4⟩ ?_
 refine ⟨s1.heap.objs.size, [s1.heap.objs.size], _, _, H1, rfl, I1.kept (t' := s1.toks) fun b o e => Heap.get?_push_of_some _ e, zr a _ ob kvs es ep h3, ⟨_, Heap.get?_push_size _ rfl, rfl, by rw [hlen]; rfl⟩, fun b hb => ?_, q⟩
 have e : b = s1.heap.objs.size := by simpa using hb
 subst e
 exact I1.yE (Nat.le_refl _) (I1.hok.fresh (Nat.le_refl _))
end
end L2
namespace HH
open PySem L2 PySem.Spec PyProof.Rows
section
variable {X : Cx} {c : Call} {tg e : Expr} {p : P}
theorem xP (h : SX X c e p) : SI X c tg e (.blt .keys [p]) := by
 unfold SI
 obtain ⟨ta, h1, h2⟩ := h.fj
 refine qg (GX h1) ?_
 rintro σ H R ⟨F, ρ, ds, ρ1, g, eA, k⟩
 obtain ⟨r, ρ2, eB, eC⟩ := ao (show ((HH.ev c (.blt .keys [p]) ρ).bind fun r ρ => lift (items r.d) ρ) = .ok ds ρ1 from eA)
 obtain ⟨eD, e3⟩ := aG eC
 subst e3
 rw [HH.ev] at eB
 obtain ⟨d, ρ3, e1, eE⟩ := ao eB
 obtain ⟨eF, e4⟩ := aG eE
 subst e4
 have hd : ∃ kvs, d = .cQ (.k kvs) := by
  cases d with
  | cQ m => cases m with
    | k kvs => exact ⟨kvs, rfl⟩
    | t kvs => cases eF
  | _ => cases eF
 obtain ⟨kvs, rfl⟩ := hd
 cases eF
 cases eD
 refine h2 g e1 fun v F' H' s pv => ?_
 obtain ⟨a, ob, rfl, hq⟩ := pv.cQ s.gs.sub
 refine ⟨a, ob, kvs.map uH, rfl, hq, k _ F' H' ⟨s.gs, fun n j F2 ρ2 σ2 H2 s2 => ?_, fun F2 ρ2 σ2 H2 s2 => ⟨s.trans s2, fun v r rr => rr.later s⟩⟩⟩
 have gm := s.gs.more (n := n) (τ := List.replicate n none) (by simp)
 have hq2 := s2.keep a _ hq fun ⟨j, ⟨t, dt, q1, q2⟩, q3⟩ => by
  obtain ⟨a', o', z1, z2, z3, z4⟩ := gm.own j t dt q1 q2
  rw [q3] at z1; cases z1
  rw [hq] at z2; cases z2
  cases dt with
  | l ds => obtain ⟨xs, z, _⟩ := z4; cases z
  | d m => cases m <;> cases z4
 refine ⟨fun d hd => ?_, fun hj => ⟨hq2, by simpa using hj⟩⟩
 have hj : j < kvs.length := by have := (List.getElem?_eq_some_iff.mp hd).1; simpa using this
 refine ⟨⟨hq2, by simpa using hj⟩, fun x pq ⟨e5, q, e6, e7⟩ => ?_⟩
 subst e5
 refine ⟨F2, .refl s2.gs.sub, ?_⟩
 rw [List.getElem?_map, List.getElem?_eq_getElem hj] at e6 hd
 cases e6; cases hd
 rw [e7]
 exact bZ _
end
end HH
end
section
namespace HH
open PySem L2 PySem.Spec PyProof.Rows PySem.Calls PySem.W
section
variable {prog : Program} {w : World} {A : Around} {E : Value -> Shared -> Prop} {s : Shared}
theorem rJ {κ : Type} [DecidableEq κ] {knd : PySem.KeyKind prog w κ} {d : Addr} {kvs : List (κ × Value)} {ep : Nat} {Q : List Value -> Shared -> Prop} (hh : A.handled = none) (lo : (d == sysModules) = false) (dd : s.heap.DictAt knd d kvs ep) (hn : kvs.length <= sizeLine)
 (hQ : ∀ h' tk acc, (∀ b o, s.heap.get? b = some o -> h'.get? b = some o) -> s.heap.objs.size < h'.objs.size -> ItemsOf (fun i v => ∃ k x, kvs[i]? = some (k, x) /\ knd.is k v = true) acc kvs.length -> Q acc.toList { s with heap := h', toks := tk }) :
 wpAny (model prog w) A (collect (.ref d)) Q E s := by
 have hlt := dd.lt_size
 unfold collect
 refine wpAny_bind (wpAny_runValue (codeAny_builtin F.entry_proto_collect ?_))
 rw [Around.under_plainId F.plain_proto_collect _]
 show wpAny _ A.in1 (newList [] >>= fun l => again (.builtin "list.__iadd__" ⟨[l, .ref d], []⟩)) _ _ s
 refine wpAny_bind (wpAny_newObj_type ?_)
 refine wpAny_pure ⟨plainId_quiet F.plain_list_iadd _, codeAny_builtin F.entry_list_iadd ?_⟩
 rw [Around.under_plainId F.plain_list_iadd _]
 show wpAny _ A.in1 (Builtin.List.listExtendWith (.ref s.heap.objs.size) (.ref d) (.ref s.heap.objs.size)) _ _ _
 refine kdl_extend (A := A) (R := fun r s' => match r with
  | .ok (.ret v) => wpAny (model prog w) A (match v with
   | .ref a => do
     let o <- load a
     match o.data with
      | .seq xs _ => pure xs.toList
      | _ => unsupported "internal:collect"
   | _ => unsupported "internal:collect") Q E s'
  | .ok _ => False
  | .error e => E e s') (s := { s with heap := s.heap.push { cls := .type "list", data := .seq #[] } }) (kdl_dict (knd := knd) (kvs := kvs) (ep := ep) lo) hh (dd.push _) s.heap.objs.size (Nat.ne_of_gt hlt) (Nat.ne_of_gt hlt) _ 0 (Heap.get?_push_size _ rfl) (fun h' tk acc c' hk hS hacc => ?_) hn
 refine wpAny_bind (wpAny_load hS ?_)
 exact wpAny_pure (hQ h' tk acc (fun b o e => hk b o (Nat.ne_of_lt (Heap.lt_size e)) (Heap.get?_push_of_some _ e)) (Heap.lt_size hS) hacc)
end
theorem nU {P : Program} {w : World} : ∀ {kvs : List (Int × Int)} {vs : List (Key × Value)} {acc : List Value}, KV (kvs.map uH) vs -> acc.length = vs.length ->
 (∀ (j : Nat) (v : Value), acc[j]? = some v -> ∃ (k : Key) (x : Value), vs[j]? = some (k, x) /\ (bM P w).is k v = true) -> IntsAre acc (kvs.map (·.1))
 | [], _, acc, .nil, h, _ => by
   cases acc with
   | nil => exact .nil
   | cons _ _ => simp at h
 | p :: kvs, _, acc, .cons (b := q) r t, h, k => by
   cases acc with
   | nil => simp at h
   | cons v acc =>
     obtain ⟨k', x, e1, e2⟩ := k 0 v rfl
     simp at e1
     have e3 : k' = Sum.inl p.1 := by have z := r.1; rw [e1] at z; exact z.symm
     subst e3
     obtain ⟨i, tk, e4, rfl⟩ | ⟨_, _, e4, _⟩ := bF (show oR (Sum.inl p.1) v = true from e2)
     . cases e4
       exact .cons _ tk (nU t (by simpa using h) fun j v e => k (j + 1) v (by simpa using e))
     . cases e4
section
variable {X : Cx} {c : Call} {a : Expr} {pa : P} {pos : Pos}
theorem gP : ∀ {ns : List Int} {us : List Value}, IntsAre us ns -> Vals (ns.map V.int) us
 | _, _, .nil => .nil
 | _, _, .cons n t r => .cons ⟨t, rfl⟩ (gP r)
theorem lz {K : PySem.W.Frag} {F : Hp} : ∀ ns : List Int, aJ K F (ns.map V.int) (ns.map D.int)
 | [] => .nil
 | n :: ns => .cons (bZ n) (lz ns)
theorem Hl (hc : X.calm = true) : dq X (.builtin "sorted") (Ed X.K fun x => blt .uM [x]) := by
 rintro pins s σ H xs us Q I r ⟨x, hx, F, d, r', sm, px, he, k⟩
 obtain ⟨kvs, rfl⟩ : ∃ kvs, d = .cQ (.k kvs) := by
  cases d with
  | cQ m => cases m with
    | k kvs => exact ⟨kvs, rfl⟩
    | t kvs => cases he
  | _ => cases he
 obtain ⟨so, he⟩ := bC (show (if sortable (kvs.map fun p => D.int p.1) = true then some (R.own (iQ (kvs.map fun p => D.int p.1))) else none) = some r' from he)
 subst he
 obtain ⟨q, ob, rfl, hq⟩ := px.cQ sm
 subst hx
 obtain ⟨u, rfl, rx⟩ := r.one
 cases rx
 obtain ⟨ho, hz, hS, vs, rv, dd⟩ := (show bQ X.prog X.w H s.heap q (.gq ob (.dK (kvs.map uH))) from I.hok q _ hq)
 obtain ⟨ep, dd⟩ := dd.dictAt
 have hl : vs.length = kvs.length := by rw [<- Paired.length rv, List.length_map]
 have so' := so
 simp only [sortable, Bool.and_eq_true, decide_eq_true_eq, List.length_map] at so'
 have h64 := so'.1
 refine Calls.call_function_entry kind_sorted plain_sorted entry_sorted (args_sorted1 _) ?_
 unfold Builtin.«sorted»
 refine wpAny_bind (m := checkCount "sorted" 1 1 _) (wpAny_pure ?_)
 refine wpAny_bind (rJ (A := X.A.in1) (knd := bM X.prog X.w) (I.ok.hd hc) hS dd (by rw [hl, sizeLine_eq]; omega) fun h1 tk acc kp hsz hacc => ?_)
 have ia : IntsAre acc.toList (kvs.map (·.1)) := nU (P := X.prog) (w := X.w) rv (by rw [Array.length_toList]; exact hacc.1) fun j v e => hacc.2 j v (by rw [<- Array.getElem?_toList]; exact e)
 have hla : acc.toList.length = kvs.length := by rw [IntsAre.length ia, List.length_map]
 generalize acc.toList = its at ia hla
 refine wpAny_bind (wpAny_newList ?_ (by rw [sizeLine_eq]; omega))
 have hsz := Nat.le_of_lt hsz
 generalize hG : (h1.push { cls := .type "list", data := .seq its.toArray } : Heap) = H2
 have ho2 : H2.get? h1.objs.size = some (seqObj "list" its.toArray 0) := by rw [<- hG]; exact Heap.get?_push_size _ rfl
 have j4 : ∀ b o, s.heap.get? b = some o -> H2.get? b = some o := fun b o e => by rw [<- hG]; exact Heap.get?_push_of_some _ (kp b o e)
 have hne : ∀ b o, s.heap.get? b = some o -> b ≠ h1.objs.size := fun b o e => Nat.ne_of_lt (Heap.lt_size (kp b o e))
 show wpAny _ _ _ _ _ { s with heap := H2, toks := tk }
 refine wpAny_bind (wpAny_holding (wpAny_call_entry slot_list_sort ⟨_, ho2, rfl⟩ entry_list_sort ?body (args_list_sort _)))
 case body =>
  refine j9 (s := { s with heap := H2, toks := tk }) (κ := oneType') (lt := nY (kvs.map fun p => D.int p.1)) ho2 (by omega) (fun h' k' C hC h2 => ?_) (fun h' k' i j hi hj C hC => ?_) fun h' cc k' e => ?_
  . match its, ia, h2 with
    | v1 :: v2 :: rest, ia, _ =>
      rw [keyKind_ints ia]
      exact wpAny_pure hC
  . have at' : ∀ i, i < its.length -> ∃ n t, its.getD i .none = .int n t /\ cX ((kvs.map fun p => D.int p.1).getD i .non) = [n] := fun i hi => by
     have r1 := kj (gP ia) i
     have hi' : i < kvs.length := by omega
     have e1 : ((kvs.map (·.1)).map V.int).getD i .non = .int kvs[i].1 := by simp [hi']
     rw [e1] at r1
     obtain ⟨t, e⟩ := r1
     exact ⟨_, t, e, by simp [hi', cX]⟩
    obtain ⟨n, t, e1, k1⟩ := at' i hi
    obtain ⟨m, t', e3, k2⟩ := at' j hj
    rw [e1, e3]
    refine kat_lt_int ?_
    have e5 : nY (kvs.map fun p => D.int p.1) i j = decide (n < m) := by unfold nY; rw [k1, k2]; simp [bz]
    rw [e5] at hC
    exact hC
  . refine ⟨_, rfl, wpAny_pure ⟨_, rfl, ?_⟩⟩
    have kk : ∀ b o, s.heap.get? b = some o -> h'.get? b = some o := fun b o z => k' b o (hne b o z) (j4 b o z)
    refine ⟨.ref h1.objs.size, _, I.laid (t' := tk) (o := .lst (bT (nY (kvs.map fun p => D.int p.1)) .non ((kvs.map (·.1)).map V.int))) (h' := h') kk hsz ⟨by rw [rB, List.length_map, List.length_map, sizeLine_eq]; omega, bT (nY (kvs.map fun p => D.int p.1)) .none its, cc, nZ (gP ia), e⟩, rfl, ?_⟩
    have Tq : aJ X.K F (bT (nY (kvs.map fun p => D.int p.1)) .non ((kvs.map (·.1)).map V.int)) (iQ (kvs.map fun p => D.int p.1)) := by
     rw [<- rF so]
     refine nJ ?_
     have := lz (K := X.K) (F := F) (kvs.map (·.1))
     rwa [List.map_map (g := D.int)] at this
    exact tU sm Tq (I.hok.fresh hsz) k
theorem CP {x : Str} {p' : Pos} (hx : x = "sorted") (hc : X.calm = true) (hg : Gl X x) (hm : X.mg x = none) (ha : SX X c a pa) (hs : starEach [a] X.env = (false, eval a X.env) :: starEach [] X.env := by rfl) : SX X c (.Call (.Name x p') [a] [] pos) (.blt .uM [pa]) := by
 subst hx; exact jE (fun h => eY (Hl hc) hg hm boot_sorted h (he := hs)) ha (fun ρ => by rw [HH.ev]) rfl hs
end
end HH
end
section
namespace HH
open PySem L2 PySem.Spec PyProof.Rows
theorem KZ {F H : Hp} {xs : List V} {p : Addr} (s : aQ F H) (hp : H p = none) : Ext F H (upd F p (.tup xs)) (upd H p (.tup xs)) := by
 have fp : F p = none := by
  cases q : F p with
  | none => rfl
  | some o => have := s p o q; rw [hp] at this; cases this
 refine ⟨aQ.dG hp, aQ.dG fp, fun b o e => ?_, fun b n n' => ?_⟩
 . by_cases hb : b = p
   . rw [hb, bh] at e ⊢; exact e
   . rw [aL hb] at e ⊢; exact s b o e
 . by_cases hb : b = p
   . rw [hb]; exact jO hp
   . rw [aL hb] at n'; exact absurd n n'
noncomputable def An (p : List Int × Int) : List Key × V := (p.1.map Sum.inl, V.int p.2)
theorem sS : ∀ {a b : List Int}, (a.map Sum.inl : List Key) = b.map Sum.inl -> a = b
 | [], [], _ => rfl
 | [], _ :: _, h => by cases h
 | _ :: _, [], h => by cases h
 | x :: a, y :: b, h => by
   rw [List.map_cons, List.map_cons] at h
   injection h with h1 h2
   injection h1 with h1
   rw [h1, sS h2]
theorem ue (a b : List Int) : decide ((a.map Sum.inl : List Key) = b.map Sum.inl) = decide (a = b) := by
 by_cases h : a = b
 . subst h; simp
 . rw [decide_eq_false h, decide_eq_false fun e => h (sS e)]
theorem Dt (k : List Int) : ∀ kvs : List (List Int × Int), jQ (kvs.map An) (k.map Sum.inl : List Key) = ((kvs.find? fun kv => decide (kv.1 = k)).map (·.2)).map V.int
 | [] => rfl
 | p :: kvs => by
   have ih := Dt k kvs
   unfold jQ at ih ⊢
   have e : decide ((An p).1 = (k.map Sum.inl : List Key)) = decide (p.1 = k) := ue p.1 k
   rw [List.map_cons, List.find?_cons, List.find?_cons, e]
   cases decide (p.1 = k) with
   | true => rfl
   | false => exact ih
theorem JP (k : List Int) (v : Int) (kvs : List (List Int × Int)) : putK (kvs.map An) (k.map Sum.inl : List Key) (V.int v) = (putD kvs k v).map An := by
 have d : ∀ p : List Int × Int, decide ((An p).1 = (k.map Sum.inl : List Key)) = decide (p.1 = k) := fun p => ue p.1 k
 have e : ((kvs.map An).any fun kv => decide (kv.1 = (k.map Sum.inl : List Key))) = kvs.any fun kv => decide (kv.1 = k) := by
  rw [List.any_map]; congr 1; funext p; exact d p
 unfold putK putD
 rw [e]
 split
 . rw [List.map_map, List.map_map]
   refine List.map_congr_left fun p _ => ?_
   have h := d p
   by_cases q : p.1 = k
   . rw [decide_eq_true q] at h
     have h' := of_decide_eq_true h
     simp only [Function.comp_apply, if_pos q, if_pos h']; rfl
   . rw [decide_eq_false q] at h
     have h' := of_decide_eq_false h
     simp only [Function.comp_apply, if_neg q, if_neg h']
 . rw [List.map_append]; rfl
theorem mH (k : List Int) : (k.map Sum.inl : List Key).map kV = k.map V.int := by rw [List.map_map]; rfl
theorem Bu {K : PySem.W.Frag} {F : Hp} {xs : List V} {ds : List D} (r : aJ K F xs ds) (o : ds.all di = true) : xs = (ds.map dj).map V.int := by
 rw [all_ints o] at r; rw [eX r]
theorem Ds {K : PySem.W.Frag} {F H : Hp} {q p : Addr} {m : Dc} {ds : List D} {xs : List V} {o : Option Int} (h : Rd H q m.ho) (r : aJ K F xs ds) (hp : H p = some (.tup xs)) (e : m.u6 ds = some o) : vf H q (.ref p) (o.map V.int) := by
 cases m with
 | k kvs => cases e
 | t kvs =>
   obtain ⟨ho, e⟩ := bC (show (if ds.all di = true then some ((kvs.find? fun kv => decide (kv.1 = ds.map dj)).map (·.2)) else none) = some o from e)
   subst e
   refine .inr ⟨kvs.map An, (ds.map dj).map Sum.inl, p, h, rfl, ?_, (Dt _ kvs).symm⟩
   rw [mH, <- Bu r ho]; exact hp
theorem Inv.Wo {X : Cx} {pins : List (Addr × Obj)} {σ : L2.St} {H : Hp} {s : Shared} {a : Addr} {kvs : List (List Key × V)} (I : L2.Inv X pins σ H s) (h : H a = some (.dT kvs)) : ∃ o, L2.Inv X pins σ (upd H a (.gq o (.dT kvs))) s := by
 obtain ⟨z, y, xs, r, o, es, ep, h1, h2, h3, h4, h5⟩ := (show bQ X.prog X.w H s.heap a (.dT kvs) from I.hok a _ h)
 refine ⟨o, I.write (h' := s.heap) (t' := s.toks) (by rw [h]; exact trivial) (.inl rfl) (fun b u _ e => e) ⟨o, h1⟩ ⟨h1, z, y, xs, KT.keeps r fun b ys q => ?_, o, es, ep, h1, h2, h3, h4, h5⟩⟩
 rw [aL (by rintro rfl; rw [h] at q; cases q)]; exact q
section
variable {X : Cx} {c : Call} {n : Nat} {a b e : Expr} {p pa pb : P} {pos : Pos} {es : List Expr} {ps : List P} {x1 : Nat} {tpos : Pos}
theorem Jj {i : Nat} {x : Str} {px : Pos} (hu : X.A.units + 8 < cLine) (hN : X.N[i]? = some x) (hv : xU X.env.scope x) (hk : SA X c es ps) (hs : FT (.Tuple es x1 tpos)) (hz : ps.length <= sizeLine := by decide)
 (hd : (x == ("__debug__" : Str)) = false := by decide) (hcd : (x == ("__classdict__" : Str)) = false := by decide) : SX X c (.Subscript (.Name x px) (.Tuple es x1 tpos) pos) (.Te i ps) := by
 refine ⟨fX (Gx (by omega) (gO hN hv hd hcd) (rE hk.1) hs) ?_, fun i h => by cases h⟩
 rintro σ H Q ⟨F, ρ, r, ρ', g, e, k⟩
 rw [HH.ev] at e
 obtain ⟨d0, ρ0, e0, eA⟩ := ao e; clear e
 obtain ⟨Tf, zK⟩ := aG e0
 subst zK
 obtain ⟨pI, ρ1, e1, eB⟩ := ao eA; clear eA
 obtain ⟨dd, ρ2, e2, eC⟩ := ao eB; clear eB
 obtain ⟨e20, e21⟩ := aG e2
 subst e21
 obtain ⟨e3, e31⟩ := aG eC; clear eC
 subst e31
 obtain ⟨v0, w1, _⟩ := g.pk Tf
 refine ⟨v0, w1, F, ρ, pI, ρ1, g, e1, fun vs F1 H1 s1 rs => ⟨by rw [rs.length, iU e1]; exact hz, fun q hq => ?_⟩⟩
 have x1 := KZ (xs := vs) s1.gs.sub hq
 have s2 := s1.trans (x1.stp s1.gs)
 obtain ⟨v1, w2, w3⟩ := s2.gs.pk e20
 rw [w1] at w2; cases w2
 cases dd with
 | cQ m =>
   obtain ⟨o, e4, e5⟩ := dC (show (m.u6 pI).bind (fun o => o.map fun v => R.val (.int v)) = some r from e3)
   cases o with
   | none => cases e5
   | some v =>
     cases e5
     obtain ⟨ad, ob, rfl, ha⟩ := w3.cQ s2.gs.sub
     have dg := Ds (o := some v) (m := m) (.inr ⟨ob, ha⟩) rs bh e4
     exact ⟨ad, V.int v, rfl, dg, k _ _ _ s2 (show Rep X.K _ _ _ from bZ _)⟩
 | _ => cases e3
theorem GQ {i : Nat} {x : Str} {px apos cpos : Pos} {pd : P} (hu : X.A.units + 8 < cLine) (hN : X.N[i]? = some x) (hv : xU X.env.scope x) (hk : SA X c es ps) (hb : SX X c b pd) (m : M2 X (.Name x px) "get" apos (.Tuple es x1 tpos) b cpos) (hz : ps.length <= sizeLine := by decide)
 (hd : (x == ("__debug__" : Str)) = false := by decide) (hcd : (x == ("__classdict__" : Str)) = false := by decide) : SX X c (.Call (.Attribute (.Name x px) "get" apos) [.Tuple es x1 tpos, b] [] cpos) (.DN i ps pd) := by
 obtain ⟨tb, h3, h4⟩ := hb.fj
 refine ⟨fX (sO (by omega) (gO hN hv hd hcd) (rE hk.1) h3 m) ?_, fun i h => by cases h⟩
 rintro σ H Q ⟨F, ρ, r, ρ', g, e, k⟩
 rw [HH.ev] at e
 split at e
 . rename_i m0 q
   obtain ⟨pI, ρ1, e1, eA⟩ := ao e; clear e
   obtain ⟨dd, ρ2, e2, eB⟩ := ao eA; clear eA
   obtain ⟨a0, o0, w1, w2, w3, w4⟩ := g.own i _ _ q rfl
   refine ⟨.ref a0, w1, a0, rfl, ?_, ?_⟩
   . cases (show o0 = m0.ho from w4)
     cases m0 with
     | k kvs => exact .inl ⟨_, .inl w2⟩
     | t kvs => exact .inr ⟨_, .inl w2⟩
   . refine ⟨F, ρ, pI, ρ1, g, e1, fun vs F1 H1 s1 rs => ⟨by rw [rs.length, iU e1]; exact hz, fun p hp => ?_⟩⟩
     have x1 := KZ (xs := vs) s1.gs.sub hp
     have s1' := s1.trans (x1.stp s1.gs)
     refine h4 s1'.gs e2 fun z F2 H2 s2 pz => ?_
     split at eB
     . rename_i m1 q1
       obtain ⟨eC, e3⟩ := aG eB; clear eB
       subst e3
       obtain ⟨o, e4, eD⟩ := dC eC; clear eC
       obtain ⟨w, e5, e6⟩ := map_some eD
       subst e6
       obtain ⟨a1, o1, y1, y2, y3, y4⟩ := s2.gs.own i _ _ q1 rfl
       rw [w1] at y1; cases y1
       cases (show o1 = m1.ho from y4)
       rw [eV e5] at pz
       rw [pz.int]
       refine ⟨o.map V.int, Ds (.inl y2) rs (s2.gs.sub _ _ (s2.cZ _ _ bh)) e4, ?_⟩
       have : (o.map V.int).getD (V.int w) = V.int (o.getD w) := by cases o <;> rfl
       rw [this]
       exact k _ F2 H2 (s1'.trans s2) (show Rep X.K F2 _ _ from bZ _)
     . cases eB
 . cases e
theorem Du {i : Nat} {x : Str} {pos' p2 : Pos} (hN : X.N.Nodup) (hi : X.N[i]? = some x) (hx : Loc X.env.scope x) (hs : swapsWith (.Dict [] [] p2) (some (.Name x pos')) pos.line X.env = pure false := by rfl)
 (hf : X.fn x = true \/ X.env.scope.names.lookup x = some .local := by first | exact .inl rfl | exact .inr rfl | assumption) : SS X c n (.Assign [.Name x pos'] (.Dict [] [] p2) pos) (.wG i true) := by
 refine fV (vP hN hi hx BX hs hf) ?_
 rintro D σ H ⟨F, ρ, fl, ρ', g, e, k⟩
 rw [ex] at e
 split at e
 . rename_i q
   cases e
   exact fun a ha => k F _ _ (g.newD (m := .t []) q ha)
 . cases e
theorem zU {i : Nat} {x : Str} {px pos' : Pos} (hu : X.A.units + 8 < cLine) (hN : X.N[i]? = some x) (hv : xU X.env.scope x) (hk : SA X c es ps) (he : SX X c e p) (hs : swapsWith e (some (.Subscript (.Name x px) (.Tuple es x1 tpos) pos')) pos.line X.env = pure false := by rfl) (hz : ps.length <= sizeLine := by decide)
 (hd : (x == ("__debug__" : Str)) = false := by decide) (hcd : (x == ("__classdict__" : Str)) = false := by decide) : SS X c n (.Assign [.Subscript (.Name x px) (.Tuple es x1 tpos) pos'] e pos) (.yt i ps p) := by
 refine fV (wW (by omega) (gO hN hv hd hcd) (rE hk.1) he.ev hs) ?_
 rintro D σ H ⟨F, ρ, fl, ρ', g, e, k⟩
 rw [ex] at e
 obtain ⟨r, ρ1, e1, eA⟩ := ao e; clear e
 refine ⟨F, ρ, r, ρ1, g, e1, fun v F1 H1 s1 rr => ?_⟩
 split at eA
 . rename_i m0 q0
   obtain ⟨pI, ρ2, e2, eB⟩ := ao eA; clear eA
   obtain ⟨a0, o0, w1, w2, w3, w4⟩ := s1.gs.own i _ _ q0 rfl
   refine ⟨.ref a0, w1, F1, ρ1, pI, ρ2, s1.gs, e2, fun vs F2 H2 s2 rs => ⟨by rw [rs.length, iU e2]; exact hz, fun q hq => ?_⟩⟩
   have x1 := KZ (xs := vs) s2.gs.sub hq
   have Zh := s2.trans (x1.stp s2.gs)
   split at eB
   . rename_i m w q1
     split at eB
     . rename_i m' e4
       cases eB
       obtain ⟨a1, o1, y1, y2, y3, y4⟩ := Zh.gs.own i _ _ q1 rfl
       rw [w1] at y1; cases y1
       cases (show o1 = m.ho from y4)
       cases (show v = .int w by have : Rep X.K F1 v (.int w) := rr; rwa [Rep] at this)
       refine ⟨a0, upd (upd H2 q (.tup vs)) a0 m'.ho, rfl, ?_, k _ σ _ ((s1.trans Zh).trans (Zh.gs.Qi q1 w1))⟩
       cases m with
       | k kvs => cases e4
       | t kvs =>
         obtain ⟨⟨ho, hl⟩, e4⟩ := bC (show (if pI.all di = true /\ kvs.length < lim then some (Dc.t (putD kvs (pI.map dj) w)) else none) = some m' from e4)
         subst e4
         refine .inr ⟨kvs.map An, (pI.map dj).map Sum.inl, q, y2, rfl, ?_, by rw [List.length_map, sizeLine_eq]; exact hl, ?_⟩
         . rw [mH, <- Bu rs ho]; exact bh
         . rw [JP]; rfl
     . cases eB
   . cases eB
 . cases eA
theorem Rf {i : Nat} {x : Str} {px : Pos} (hN : X.N[i]? = some x) (hv : xU X.env.scope x) (hd : (x == ("__debug__" : Str)) = false := by decide) (hcd : (x == ("__classdict__" : Str)) = false := by decide) : SX X c (.Name x px) (.vw i) := by
 have h := gO (X := X) (pos := px) hN hv hd hcd
 refine ⟨?_, fun i h => by cases h⟩
 rintro pins s σ H Q I ⟨F, ρ, r, ρ', g, e, k⟩
 rw [HH.ev] at e
 split at e
 . rename_i m q
   cases e
   obtain ⟨a, h1, h2, h3⟩ := g.wQ q
   refine cI (h pins s σ H (fun v H' => v = .ref a /\ H' = H) I ⟨.ref a, h1, rfl, rfl⟩) fun u s1 ⟨v, H1, I1, r1, e1, e2⟩ => ?_
   subst e1 e2
   have zz : ∃ o, L2.Inv X pins σ (upd H1 a (.gq o m.ho)) s1 := by
    cases m with
    | k kvs => exact Inv.Sv I1 h2
    | t kvs => exact Inv.Wo I1 h2
   obtain ⟨o, I2⟩ := zz
   exact ⟨.ref a, _, I2, r1, k _ _ _ (h3 o).1 (h3 o).2⟩
 . cases e
end
end HH
end
section
namespace HH
open PySem L2 PySem.Spec PyProof.Rows PySem.Calls PySem.W
noncomputable def jY (h : Heap) (d : Addr) (es : Array DictEntry) (ep : Nat) : Prop := ∃ o, h.get? d = some o /\ o.ExactDict /\ o.data = .dict es ep
section
variable {prog : Program} {w : World} {A : Around} {E : Value -> Shared -> Prop} {s : Shared} {d it : Addr} {es : Array DictEntry} {ep i : Nat}
theorem jY.ty (r : jY s.heap d es ep) : s.TypeIs (.ref d) "dict" := let ⟨o, h1, h2, _⟩ := r; ⟨o, h1, h2.1⟩
theorem jY.lt {h : Heap} (r : jY h d es ep) : d < h.objs.size := let ⟨_, h1, _⟩ := r; Heap.lt_size h1
theorem jY.at {h h' : Heap} (r : jY h d es ep) (k : ∀ o, h.get? d = some o -> h'.get? d = some o) : jY h' d es ep := let ⟨o, h1, q⟩ := r; ⟨o, k o h1, q⟩
theorem Cd {Q : Value -> Shared -> Prop} (lo : (d == sysModules) = false) (r : jY s.heap d es ep)
 (q : Q (.ref s.heap.objs.size) { s with heap := s.heap.push { cls := .type "dict_keyiterator", data := .fields #[.ref d, .int 0 0, .int es.size 0, .int ep 0] } }) : wpAny (model prog w) A (pyIter (.ref d)) Q E s := by
 obtain ⟨ob, g1, g2, g3⟩ := id r
 refine wpAny_pyIter_slot r.ty PySem.F.slot_dict_iter (wpAny_call_entry PySem.F.slot_dict_iter r.ty PySem.F.entry_dict_iter ?bd (PySem.F.args_dict_iter_1 _))
 unfold Builtin.«dict.__iter__» Builtin.Dict.dictSlotNone
 refine wpAny_bind (wpAny_bind (wpAny_notOrdered_dict r.ty ?_))
 show wpAny _ _ (pure (Value.ref d)) _ _ s
 refine wpAny_pure ?_
 show wpAny _ _ (Builtin.Dict.showsAll d >>= _) _ _ s
 unfold Builtin.Dict.showsAll
 rw [if_neg (fun z => Bool.false_ne_true (lo.symm.trans z))]
 refine wpAny_bind (wpAny_pure (wpAny_bind (wpAny_dictEntries g1 g3 (wpAny_bind (wpAny_dictEpoch g1 g3 ?_)))))
 refine wpAny_bind (wpAny_newObj_type (wpAny_pure ⟨_, rfl, "dict_keyiterator", _, ⟨_, Heap.get?_push_size _ rfl, rfl⟩, PySem.F.slot_dict_keyiterator_next.lookup, ?_⟩))
 simpa [rawInt] using q
theorem CW {Q : Option Value -> Shared -> Prop} (hit : s.heap.IsKeyIter it d i es.size ep) (r : jY s.heap d es ep) (hi : i < es.size)
 (q : ∀ h', h'.IsKeyIter it d (i + 1) es.size ep -> Heap.SameBut it s.heap h' -> Q (some es[i].key) { s with heap := h' }) : wpAny (model prog w) A (pyNext (.ref it)) Q E s := by
 obtain ⟨oi, i1, i2, i3⟩ := id hit
 obtain ⟨ob, g1, g2, g3⟩ := id r
 unfold pyNext
 refine wpAny_bind (wpAny_attempt (wpAny_callSpecial?_slot (name := Str.ofString "__next__") hit.typeIs PySem.F.slot_dict_keyiterator_next (wpAny_call_entry PySem.F.slot_dict_keyiterator_next hit.typeIs PySem.F.entry_dict_keyiterator_next ?bd (PySem.F.args_dict_keyiterator_next_1 _))))
 refine wpAny_bind (wpAny_pure (wpAny_bind (wpAny_bind ?_)))
 first | refine wpAny_bind (wpAny_typeNameOfWhole_keyiter hit.typeIs (wpAny_pure (wpAny_bind (wpAny_fieldsOf i1 i3 ?_)))) | refine wpAny_bind (wpAny_typeNameOf_keyiter hit.typeIs (wpAny_pure (wpAny_bind (wpAny_fieldsOf i1 i3 ?_))))
 simp only [show Builtin.Dict_items.ownsTuple "dict_keyiterator" = false by decide, Bool.false_eq_true, if_false]
 show wpAny _ _ (if (Value.ref d == Value.none) = true then _ else _) _ _ s
 rw [if_neg (fun z : (Value.ref d == Value.none) = true => Bool.false_ne_true z)]
 refine wpAny_bind (wpAny_pure (wpAny_bind (wpAny_dictEntries g1 g3 ?_)))
 rw [if_neg (by simp)]
 refine wpAny_bind (wpAny_pure (wpAny_bind (wpAny_dictEpoch g1 g3 ?_)))
 rw [if_neg (by simp)]
 refine wpAny_pure ?_
 simp only [show ¬ ((i : Int) < 0) from by omega, if_false, Int.toNat_natCast, Array.getElem?_eq_getElem hi]
 refine wpAny_bind ?_
 first | refine wpAny_bind (wpAny_typeNameOfWhole_keyiter hit.typeIs (wpAny_pure (wpAny_bind (wpAny_isOneOf_keyiter hit.typeIs ?_)))) | refine wpAny_bind (wpAny_typeNameOf_keyiter hit.typeIs (wpAny_pure (wpAny_bind (wpAny_isOneOf_keyiter hit.typeIs ?_))))
 show wpAny _ _ (setField (.ref it) 1 (rawInt ((i : Int) + 1)) >>= _) _ _ s
 refine wpAny_bind (wpAny_setField i1 i3 (by simp) ?_)
 have on : (s.heap.update it (Obj.mapFields (·.setIfInBounds 1 (rawInt ((i : Int) + 1))))).IsKeyIter it d (i + 1) es.size ep :=
  ⟨_, Heap.get?_update_self _ i1 (Obj.isFreed_of_fields (Obj.data_mapFields i3 _)), (Obj.cls_mapFields ..).trans i2, by rw [Obj.data_mapFields i3]; simp [rawInt]⟩
 refine wpAny_bind (wpAny_holding (wpAny_bind (wpAny_isOneOf_keyiter (s := { s with heap := s.heap.update it (Obj.mapFields (·.setIfInBounds 1 (rawInt ((i : Int) + 1)))) }) on.typeIs ?_)))
 show wpAny _ _ (pure es[i].key) _ _ _
 exact wpAny_pure (wpAny_pure ⟨_, rfl, wpAny_pure (q _ on (Heap.SameBut.update ..))⟩)
theorem Es {Q : Option Value -> Shared -> Prop} (hh : A.handled = none) (hit : s.heap.IsKeyIter it d es.size es.size ep) (r : jY s.heap d es ep) (q : ∀ h', Heap.ExtBut it s.heap h' -> Q none { s with heap := h' }) : wpAny (model prog w) A (pyNext (.ref it)) Q E s := by
 obtain ⟨oi, i1, i2, i3⟩ := id hit
 obtain ⟨ob, g1, g2, g3⟩ := id r
 unfold pyNext
 refine wpAny_bind (wpAny_attempt (wpAny_callSpecial?_slot (name := Str.ofString "__next__") hit.typeIs PySem.F.slot_dict_keyiterator_next (wpAny_call_entry PySem.F.slot_dict_keyiterator_next hit.typeIs PySem.F.entry_dict_keyiterator_next ?bd (PySem.F.args_dict_keyiterator_next_1 _))))
 refine wpAny_bind (wpAny_pure (wpAny_bind (wpAny_bind ?_)))
 first | refine wpAny_bind (wpAny_typeNameOfWhole_keyiter hit.typeIs (wpAny_pure (wpAny_bind (wpAny_fieldsOf i1 i3 ?_)))) | refine wpAny_bind (wpAny_typeNameOf_keyiter hit.typeIs (wpAny_pure (wpAny_bind (wpAny_fieldsOf i1 i3 ?_))))
 simp only [show Builtin.Dict_items.ownsTuple "dict_keyiterator" = false by decide, Bool.false_eq_true, if_false]
 show wpAny _ _ (if (Value.ref d == Value.none) = true then _ else _) _ _ s
 rw [if_neg (fun z : (Value.ref d == Value.none) = true => Bool.false_ne_true z)]
 refine wpAny_bind (wpAny_pure (wpAny_bind (wpAny_dictEntries g1 g3 ?_)))
 rw [if_neg (by simp)]
 refine wpAny_bind (wpAny_pure (wpAny_bind (wpAny_dictEpoch g1 g3 ?_)))
 rw [if_neg (by simp)]
 refine wpAny_pure ?_
 simp only [show ¬ ((es.size : Int) < 0) from by omega, if_false, Int.toNat_natCast, Array.getElem?_eq_none (Nat.le_refl es.size)]
 refine wpAny_bind ?_
 first | refine wpAny_bind (wpAny_typeNameOfWhole_keyiter hit.typeIs (wpAny_pure ?_)) | refine wpAny_bind (wpAny_typeNameOf_keyiter hit.typeIs (wpAny_pure ?_))
 show wpAny _ _ (setField (.ref it) 0 .none >>= _) _ _ s
 refine wpAny_bind (wpAny_setField i1 i3 (by simp) ?_)
 show wpAny _ _ (newExc (.type "StopIteration") [] >>= _) _ _ _
 refine wpAny_bind ?_
 simp only [newExc, newTuple]
 refine wpAny_bind (wpAny_newObj_type ?_ (by size_fits))
 refine wpAny_bind (m := firstArgMember _ _) (wpAny_of_eq (a := Value.none) (by first | rfl | (simp only [firstArgMember]; rfl)) (wpAny_newObj_type ?_ (by size_fits)))
 simp only [raiseNew]
 refine wpAny_bind (wpAny_handled ?_)
 rw [(hh : A.in1.handled = none)]
 refine wpAny_bind (wpAny_pure (wpAny_throw (wpAny_bind ?_)))
 refine wpAny_isInstance (T := "StopIteration") (b := true) ⟨_, Heap.get?_push_size _ rfl, rfl⟩ isSubtype_stop ?_
 exact wpAny_pure (q _ (((Heap.SameBut.update ..).extBut.push _).push _))
theorem zA (hh : A.handled = none) (J d : Addr) (hne : d ≠ J) (es : Array DictEntry) (ep : Nat) :
 Walks prog w A J [J, d] [J] es.size (fun i v => ∃ e, es[i]? = some e /\ v = e.key) (fun i h => h.IsKeyIter J d i es.size ep /\ jY h d es ep) where
 sub := fun b hb => by simp at hb; simp [hb]
 frame := fun _ _ _ st hk => ⟨st.1.at fun o e => hk J (by simp) o e, st.2.at fun o e => hk d (by simp) o e⟩
 item := fun i s Q E hi st hQ => CW st.1 st.2 hi fun h' hit' hs' => hQ _ h' s.toks ⟨es[i], by simp [hi], rfl⟩ ⟨hit', st.2.at fun o e => hs'.extBut d o hne e⟩ fun b o hb e => hs'.extBut b o (fun h => hb (by simp [h])) e
 done := fun s Q E st hQ => Es hh st.1 st.2 fun h' he' => hQ h' s.toks fun b o hb e => he' b o (fun h => hb (by simp [h])) e
 self := fun _ _ _ _ st hQ => wpAny_pyIter_keyiter st.1 hQ
theorem Et (lo : (d == sysModules) = false) : KdlSrc prog w "dict" d d es.size (fun i v => ∃ e, es[i]? = some e /\ v = e.key) (fun h => jY h d es ep) where
 type := fun _ r => r.ty
 there := fun _ r => ⟨r.lt, r.lt⟩
 keep := fun _ _ r hk => r.at fun o e => hk d (.inl rfl) o e
 notList := by decide
 notTuple := by decide
 hint := fun _ _ _ _ r hq => kdl_hint_dict r.ty hq
 iter := fun _ _ hh r => ⟨_, _, (fun _ _ hq => Cd lo r hq), zA hh _ d (Nat.ne_of_lt r.lt) es ep, ⟨⟨_, Heap.get?_push_size _ rfl, rfl, rfl⟩, r.at fun o e => Heap.get?_push_of_some _ e⟩⟩
theorem uw {Q : List Value -> Shared -> Prop} (hh : A.handled = none) (lo : (d == sysModules) = false) (r : jY s.heap d es ep) (hn : es.size <= sizeLine)
 (hQ : ∀ h' tk acc, (∀ b o, s.heap.get? b = some o -> h'.get? b = some o) -> s.heap.objs.size < h'.objs.size -> ItemsOf (fun i v => ∃ e, es[i]? = some e /\ v = e.key) acc es.size -> Q acc.toList { s with heap := h', toks := tk }) :
 wpAny (model prog w) A (collect (.ref d)) Q E s := by
 have hlt := r.lt
 unfold collect
 refine wpAny_bind (wpAny_runValue (codeAny_builtin F.entry_proto_collect ?_))
 rw [Around.under_plainId F.plain_proto_collect _]
 show wpAny _ A.in1 (newList [] >>= fun l => again (.builtin "list.__iadd__" ⟨[l, .ref d], []⟩)) _ _ s
 refine wpAny_bind (wpAny_newObj_type ?_)
 refine wpAny_pure ⟨plainId_quiet F.plain_list_iadd _, codeAny_builtin F.entry_list_iadd ?_⟩
 rw [Around.under_plainId F.plain_list_iadd _]
 show wpAny _ A.in1 (Builtin.List.listExtendWith (.ref s.heap.objs.size) (.ref d) (.ref s.heap.objs.size)) _ _ _
 refine kdl_extend (A := A) (R := fun r s' => match r with
  | .ok (.ret v) => wpAny (model prog w) A (match v with
   | .ref a => do
     let o <- load a
     match o.data with
      | .seq xs _ => pure xs.toList
      | _ => unsupported "internal:collect"
   | _ => unsupported "internal:collect") Q E s'
  | .ok _ => False
  | .error e => E e s') (s := { s with heap := s.heap.push { cls := .type "list", data := .seq #[] } }) (Et (es := es) (ep := ep) lo) hh (r.at fun o e => Heap.get?_push_of_some _ e) s.heap.objs.size (Nat.ne_of_gt hlt) (Nat.ne_of_gt hlt) _ 0 (Heap.get?_push_size _ rfl) (fun h' tk acc c' hk hS hacc => ?_) hn
 refine wpAny_bind (wpAny_load hS ?_)
 exact wpAny_pure (hQ h' tk acc (fun b o e => hk b o (Nat.ne_of_lt (Heap.lt_size e)) (Heap.get?_push_of_some _ e)) (Heap.lt_size hS) hacc)
end
end HH
end
section
namespace HH
open PySem L2 PySem.Spec PyProof.Rows PySem.Calls PySem.W
noncomputable def oG (F H : Hp) (bs : List Addr) : Hp := fun b => if b ∈ bs then H b else F b
theorem zF {F H : Hp} {bs : List Addr} (sm : aQ F H) (ht : ∀ b ∈ bs, ∃ xs, H b = some (.tup xs)) : Ext F H (oG F H bs) H := by
 refine ⟨.refl _, fun b o e => ?_, fun b o e => ?_, fun b n n' => ?_⟩
 . unfold oG; split
   . exact sm b o e
   . exact e
 . unfold oG at e; split at e
   . exact e
   . exact sm b o e
 . unfold oG at n'; split at n'
   . rename_i hb; obtain ⟨xs, e⟩ := ht b hb; rw [e]; rfl
   . exact absurd n n'
theorem Ext.J5 {F H F1 F2 H2 : Hp} (a : Ext F H F1 H) (b : Ext F1 H F2 H2) : Ext F H F2 H2 := by
 refine ⟨b.hs, a.fs.trans b.fs, b.sub, fun c n n' => ?_⟩
 by_cases e : F1 c = none
 . exact b.gr c e n'
 . exact a.gr c n e
theorem Cy {H : Hp} : ∀ {kvs : List (List Int × Int)} {ts : List (List Key × Addr × Value)}, KT H (kvs.map An) ts -> ∀ t ∈ ts, ∃ k : List Int, H t.2.1 = some (.tup (k.map V.int))
 | [], _, .nil, t, h => by cases h
 | p :: kvs, _, .cons r q, t, h => by
   rcases List.mem_cons.mp h with rfl | h
   . exact ⟨p.1, by rw [<- mH]; exact r.2.1⟩
   . exact Cy q t h
theorem ym {K : PySem.W.Frag} {F H : Hp} : ∀ {kvs : List (List Int × Int)} {ts : List (List Key × Addr × Value)}, KT H (kvs.map An) ts -> (∀ t ∈ ts, F t.2.1 = H t.2.1) -> aJ K F (ts.map fun t => V.ref t.2.1) (kvs.map fun p => D.tup (p.1.map D.int))
 | [], _, .nil, _ => .nil
 | p :: kvs, _, .cons (b := t) r q, h => by
   refine .cons ?_ (ym q fun t ht => h t (List.mem_cons_of_mem _ ht))
   rw [Rep]
   exact ⟨_, p.1.map V.int, rfl, iY.of (by rw [h t (by simp), <- mH]; exact r.2.1), lz _⟩
theorem p7 {β : Type} {f : β -> Addr} : ∀ ts : List β, Vals (ts.map fun t => V.ref (f t)) (ts.map fun t => Value.ref (f t))
 | [] => .nil
 | t :: ts => .cons rfl (p7 ts)
theorem vH {es : Array DictEntry} {acc : Array Value} {ts : List (List Key × Addr × Value)} (he : es.toList.map (·.key) = ts.map fun t => Value.ref t.2.1) (h : ItemsOf (fun i v => ∃ e, es[i]? = some e /\ v = e.key) acc es.size) : acc.toList = ts.map fun t => Value.ref t.2.1 := by
 rw [<- he]
 refine List.ext_getElem? fun i => ?_
 rw [List.getElem?_map, Array.getElem?_toList, Array.getElem?_toList]
 cases q : acc[i]? with
 | none =>
   have : es[i]? = none := by
    rw [Array.getElem?_eq_none_iff] at q ⊢
    rw [<- h.1]; exact q
   rw [this]; rfl
 | some v =>
   obtain ⟨e, e1, e2⟩ := h.2 i v q
   rw [e1, e2]; rfl
section
variable {X : Cx} {c : Call} {a : Expr} {pa : P} {pos : Pos}
theorem CJ (hc : X.calm = true) : dq X (.builtin "sorted") (Ed X.K fun x => blt .o7 [x]) := by
 rintro pins s σ H xs us Q I r ⟨x, hx, F, d, r', sm, px, he, k⟩
 obtain ⟨kvs, rfl⟩ : ∃ kvs, d = .cQ (.t kvs) := by
  cases d with
  | cQ m => cases m with
    | t kvs => exact ⟨kvs, rfl⟩
    | k kvs => cases he
  | _ => cases he
 obtain ⟨so, he⟩ := bC (show (if sortable (kvs.map fun p => D.tup (p.1.map D.int)) = true then some (R.own (iQ (kvs.map fun p => D.tup (p.1.map D.int)))) else none) = some r' from he)
 subst he
 obtain ⟨q, ob, rfl, hq⟩ := px.cQ sm
 subst hx
 obtain ⟨u, rfl, rx⟩ := r.one
 cases rx
 obtain ⟨ho, hz, hS, ts, rv, o', es, ep, g1, g2, g3, g4, g5⟩ := (show bQ X.prog X.w H s.heap q (.gq ob (.dT (kvs.map An))) from I.hok q _ hq)
 have raw : jY s.heap q es ep := ⟨o', g1, g2, g3⟩
 have hts : ts.length = kvs.length := by rw [<- Paired.length rv, List.length_map]
 have hes : es.size = kvs.length := by rw [<- Array.length_toList, g4, List.length_map, hts]
 have hke : es.toList.map (·.key) = ts.map fun t => Value.ref t.2.1 := by rw [g4, List.map_map]; rfl
 have so' := so
 simp only [sortable, Bool.and_eq_true, Bool.or_eq_true, decide_eq_true_eq, List.length_map] at so'
 have h64 := so'.1
 have hot : (kvs.map fun p => D.tup (p.1.map D.int)).all lW = true := by
  rcases so'.2 with h | h
  . cases kvs with
    | nil => rfl
    | cons p kvs => simp [di] at h
  . exact h
 generalize hds : (kvs.map fun p => D.tup (p.1.map D.int)) = ds at *
 have hld : ds.length = kvs.length := by rw [<- hds, List.length_map]
 refine Calls.call_function_entry kind_sorted plain_sorted entry_sorted (args_sorted1 _) ?_
 unfold Builtin.«sorted»
 refine wpAny_bind (m := checkCount "sorted" 1 1 _) (wpAny_pure ?_)
 refine wpAny_bind (uw (A := X.A.in1) (I.ok.hd hc) hS raw (by rw [hes, sizeLine_eq]; omega) fun h1 tk acc kp hsz hacc => ?_)
 have hia := vH hke hacc
 have hla : acc.toList.length = kvs.length := by rw [hia, List.length_map, hts]
 have e0 : Ext F H (oG F H (ts.map (·.2.1))) H := zF sm fun b hb => by
  obtain ⟨t, ht, rfl⟩ := List.mem_map.mp hb
  obtain ⟨ks, e⟩ := Cy rv t ht
  exact ⟨_, e⟩
 have rs : aJ X.K (oG F H (ts.map (·.2.1))) (ts.map fun t => V.ref t.2.1) ds := by
  rw [<- hds]
  exact ym rv fun t ht => if_pos (List.mem_map.mpr ⟨t, ht, rfl⟩)
 have vv : Vals (ts.map fun t => V.ref t.2.1) acc.toList := by rw [hia]; exact p7 ts
 have tt : Paired (my s.heap) acc.toList ds := qO I e0.sub rs vv hot
 generalize acc.toList = its at hla vv tt
 generalize oG F H (ts.map (·.2.1)) = F1 at e0 rs
 generalize hys : (ts.map fun t => V.ref t.2.1) = ys at rs vv
 refine wpAny_bind (wpAny_newList ?_ (by rw [sizeLine_eq]; omega))
 have hsz := Nat.le_of_lt hsz
 generalize hG : (h1.push { cls := .type "list", data := .seq its.toArray } : Heap) = H2
 have ho2 : H2.get? h1.objs.size = some (seqObj "list" its.toArray 0) := by rw [<- hG]; exact Heap.get?_push_size _ rfl
 have j4 : ∀ b o, s.heap.get? b = some o -> H2.get? b = some o := fun b o e => by rw [<- hG]; exact Heap.get?_push_of_some _ (kp b o e)
 have hne : ∀ b o, s.heap.get? b = some o -> b ≠ h1.objs.size := fun b o e => Nat.ne_of_lt (Heap.lt_size (kp b o e))
 show wpAny _ _ _ _ _ { s with heap := H2, toks := tk }
 refine wpAny_bind (wpAny_holding (wpAny_call_entry slot_list_sort ⟨_, ho2, rfl⟩ entry_list_sort ?body (args_list_sort _)))
 case body =>
  refine j9 (s := { s with heap := H2, toks := tk }) (κ := tuples' (Value.type "int" != Value.type "tuple")) (lt := nY ds) ho2 (by omega) (fun h' k' C hC h2 => ?_) (fun h' k' i j hi hj C hC => ?_) fun h' cc k' e => ?_
  . exact qw (s := { s with heap := h', toks := tk }) (kE (fun b o z => k' b o (hne b o z) (j4 b o z)) tt) h2 hC
  . have kk : ∀ b o, s.heap.get? b = some o -> h'.get? b = some o := fun b o z => k' b o (hne b o z) (j4 b o z)
    exact yg (s := { s with heap := h', toks := tk }) (gD kk (jR tt i hi)) (gD kk (jR tt j hj)) hC
  . refine ⟨_, rfl, wpAny_pure ⟨_, rfl, ?_⟩⟩
    have kk : ∀ b o, s.heap.get? b = some o -> h'.get? b = some o := fun b o z => k' b o (hne b o z) (j4 b o z)
    have hly : ys.length = kvs.length := by rw [<- hys, List.length_map, hts]
    refine ⟨.ref h1.objs.size, _, I.laid (t' := tk) (o := .lst (bT (nY ds) .non ys)) (h' := h') kk hsz ⟨by rw [rB, sizeLine_eq]; omega, bT (nY ds) .none its, cc, nZ vv, e⟩, rfl, ?_⟩
    have Tq : aJ X.K F1 (bT (nY ds) .non ys) (iQ ds) := by rw [<- rF so]; exact nJ rs
    exact tU e0.sub Tq (I.hok.fresh hsz) fun v F2 H2 x rn => k v F2 H2 (e0.J5 x) rn
theorem zB {x : Str} {p' : Pos} (hx : x = "sorted") (hc : X.calm = true) (hg : Gl X x) (hm : X.mg x = none) (ha : SX X c a pa) (hs : starEach [a] X.env = (false, eval a X.env) :: starEach [] X.env := by rfl) : SX X c (.Call (.Name x p') [a] [] pos) (.blt .o7 [pa]) := by
 subst hx; exact jE (fun h => eY (CJ hc) hg hm boot_sorted h (he := hs)) ha (fun ρ => by rw [HH.ev]) rfl hs
end
end HH
end
section
set_option maxHeartbeats 4000000
namespace T
open PySem L2 PySem.Spec PyProof.Rows HH
theorem hc : true = true := rfl
theorem oi {α : Type} {a : α} {p : Prop} : a = a \/ p := .inl rfl
theorem aP {X : Cx} {c : Call} {a : Expr} {es : List Expr} {pa : P} {ps : List P} (ha : SX X c a pa) (hr : SG X c es ps) (h : Wa a = true) : SG X c (a :: es) (pa :: ps) := Fv ha hr (gV h)
theorem dh {X : Cx} {c : Call} {a : Expr} {es : List Expr} {pa : P} {ps : List P} (ha : SX X c a pa) (hr : SA X c es ps) (h : Wa a = true) : SA X c (a :: es) (pa :: ps) := m5 ha hr (gV h)
variable {Pg : Program} {w : World} {K : PySem.W.Frag} {mg : Str -> Option Value} {base : Heap} {f : Addr} {fd : FuncData} {k n : Nat} {c : Call} {cl : Nat -> Addr}
noncomputable def top (i : Nat) : Stmt := PySem.Challenge.pw_hourhaul_k18_whole_parts_of_right_plans.main.body.getD i (.Pass ⟨0, 0, 0, 0⟩)
noncomputable abbrev s0 := top 1
noncomputable def b0 : List S := [
 .wG 2 true, 
 .ie (.bin .add (.var 0) (.var 1)) [3, 4, 5] false [.yt 2 [.var 3, .var 4] (.bin .add (.DN 2 [.var 3, .var 4] (.con (.int 0))) (.var 5))], 
 .ret (.comp (.blt .o7 [.vw 2]) 2 [6, 7] false none (.tup [.var 6, .var 7, .Te 2 [.var 6, .var 7]]))]
noncomputable def f0 : Fd := ⟨2, 6, b0⟩
theorem sc0 : aO ["one", "other", "together", "hour", "way", "loads"] ["one", "other"] (aD s0) := ⟨rfl, rfl, rfl, by decide +kernel, rfl, by decide +kernel, by decide +kernel⟩
include cl in
theorem d0 (Fu : ig K "laid_plans" "laid_plans" s0 f fd) (cH : mg "sorted" = none) :
 cj Pg w K mg base gG (k + 1) f fd ["one", "other"] (ik K 2 (fun args => enter c n f0 args)) := by
 refine bW Fu sc0 rfl rfl fun cdv A outer s H E hr => ?_
 have nd := sc0.nd
 refine aj ?_ ?_
 . exact (Du (i := 2) nd rfl (Or.inr rfl) (by rfl) (Or.inl rfl))
 with_reducible refine aj ?_ ?_
 . exact (oA PassesOwn.never hc (cO (aB aR (sv 0) (sv 1))) (fY hc (aK (aF (i := 3) nd rfl (Or.inl rfl) (Or.inl rfl)) (aK (aF (i := 4) nd rfl (Or.inl rfl) (Or.inl rfl)) (aK (aF (i := 5) nd rfl (Or.inl rfl) (Or.inl rfl)) dD)))) (lA rfl (bK _ _ (bK _ _ (bK _ _ iR 5) 4) 3)) (by (with_reducible refine aj ?_ ?_); exact zU (i := 2) (bH hr) rfl (by first | exact Or.inl rfl | exact Or.inr (Or.inl rfl)) (dh (sv 3) (dh (sv 4) aY rfl) rfl) (aB aR (GQ (i := 2) (bH hr) rfl (by first | exact Or.inl rfl | exact Or.inr (Or.inl rfl)) (dh (sv 3) (dh (sv 4) aY rfl) rfl) ak ⟨rfl, rfl, rfl, rfl⟩) (sv 5)) (by rfl); exact au))
 with_reducible refine aj ?_ ?_
 . (with_reducible refine aN ?_); exact cT (N' := ["one", "other", "together", "hour#3", "way#4", "loads", "hour", "way"]) hc (vJ rfl (by rfl)) (cO (zB rfl hc (by rfl) cH (Rf (i := 2) rfl (by first | exact Or.inl rfl | exact Or.inr (Or.inl rfl))))) (fun _ _ _ _ _ => fY hc (aK (aF (i := 6) (show (["one", "other", "together", "hour#3", "way#4", "loads", "hour", "way"] : List Str).Nodup by decide +kernel) rfl (Or.inl rfl) (Or.inr rfl)) (aK (aF (i := 7) (show (["one", "other", "together", "hour#3", "way#4", "loads", "hour", "way"] : List Str).Nodup by decide +kernel) rfl (Or.inl rfl) (Or.inr rfl)) dD))) (jF rfl (cz (show 6 <= 6 by decide) (cz (show 6 <= 7 by decide) jV))) (fun _ _ _ _ _ => gb) (fun _ _ _ _ _ => (dH (dh (sv 6) (dh (sv 7) (dh (Jj (i := 2) (bH hr) rfl (by first | exact Or.inl rfl | exact Or.inr (Or.inl rfl) | exact Or.inr (Or.inr rfl)) (dh (sv 6) (dh (sv 7) aY rfl) rfl) (fun _ _ => rfl)) aY rfl) rfl) rfl)))
 exact au
noncomputable abbrev s1 := top 2
noncomputable def b1 : List S := [
 .ret (.blt .sorted [.comp (.var 0) 3 [2, 3, 4] false none (.tup [.bin .add (.var 2) (.var 1), .var 3, .var 4])])]
noncomputable def f1 : Fd := ⟨2, 2, b1⟩
theorem Zt : aO ["plan", "hours"] ["plan", "hours"] (aD s1) := ⟨rfl, rfl, rfl, by decide +kernel, rfl, by decide +kernel, by decide +kernel⟩
include cl in
theorem d1 (Fu : ig K "later_plan" "later_plan" s1 f fd) (cH : mg "sorted" = none) :
 cj Pg w K mg base gG (k + 1) f fd ["plan", "hours"] (ik K 2 (fun args => enter c n f1 args)) := by
 refine bW Fu Zt rfl rfl fun cdv A outer s H E hr => ?_
 have nd := Zt.nd
 refine aj ?_ ?_
 . (with_reducible refine aN ?_); exact qx rfl (by rfl) cH (cT (N' := ["plan", "hours", "hour", "way", "loads"]) hc (vJ rfl (by rfl)) (cO (sv 0)) (fun _ _ _ _ _ => fY hc (aK (aF (i := 2) (show (["plan", "hours", "hour", "way", "loads"] : List Str).Nodup by decide +kernel) rfl (Or.inl rfl) (Or.inr rfl)) (aK (aF (i := 3) (show (["plan", "hours", "hour", "way", "loads"] : List Str).Nodup by decide +kernel) rfl (Or.inl rfl) (Or.inr rfl)) (aK (aF (i := 4) (show (["plan", "hours", "hour", "way", "loads"] : List Str).Nodup by decide +kernel) rfl (Or.inl rfl) (Or.inr rfl)) dD)))) (jF rfl (cz (show 2 <= 2 by decide) (cz (show 2 <= 3 by decide) (cz (show 2 <= 4 by decide) jV)))) (fun _ _ _ _ _ => gb) (fun _ _ _ _ _ => (dH (dh (aB aR (sv 2) (sv 1)) (dh (sv 3) (dh (sv 4) aY rfl) rfl) rfl))))
 exact au
noncomputable abbrev s2 := top 3
noncomputable def b2 : List S := [
 .ret (.bin .add (.var 1) (.idx (.idx (.idx (.var 0) (.con (.int 1))) (.var 2)) (.con (.int 3))))]
noncomputable def f2 : Fd := ⟨3, 3, b2⟩
theorem ZC : aO ["net", "hour", "way"] ["net", "hour", "way"] (aD s2) := ⟨rfl, rfl, rfl, by decide +kernel, rfl, by decide +kernel, by decide +kernel⟩
include cl in
theorem d2 (Fu : ig K "hour_out" "hour_out" s2 f fd) :
 cj Pg w K mg base gG (k + 1) f fd ["net", "hour", "way"] (ik K 3 (fun args => enter c n f2 args)) := by
 refine bW Fu ZC rfl rfl fun cdv A outer s H E hr => ?_
 have nd := ZC.nd
 refine aj ?_ ?_
 . (with_reducible refine aN ?_); exact aB aR (sv 1) (aA (aA (aA (sv 0) ak) (sv 2)) ak)
 exact au
noncomputable abbrev s3 := top 4
noncomputable def b3 : List S := [
 .ret (.blt .sorted [.comp (.var 1) 1 [3] true (some (.cmp .le (.call 2 [.var 0, .idx (.var 3) (.con (.int 0)), .idx (.var 3) (.con (.int 1))]) (.var 2))) (.var 3)])]
noncomputable def f3 : Fd := ⟨3, 3, b3⟩
theorem Zw : aO ["net", "plan", "hour"] ["net", "plan", "hour"] (aD s3) := ⟨rfl, rfl, rfl, by decide +kernel, rfl, by decide +kernel, by decide +kernel⟩
include cl in
theorem d3 (Fu : ig K "plan_till" "plan_till" s3 f fd) (cH : mg "sorted" = none) (fZ : az Pg w K mg base k c 2 "hour_out" 3) :
 cj Pg w K mg base gG (k + 1) f fd ["net", "plan", "hour"] (ik K 3 (fun args => enter c n f3 args)) := by
 refine bW Fu Zw rfl rfl fun cdv A outer s H E hr => ?_
 have nd := Zw.nd
 refine aj ?_ ?_
 . (with_reducible refine aN ?_); exact qx rfl (by rfl) cH (cT (N' := ["net", "plan", "hour", "triple"]) hc (vJ rfl (by rfl)) (cO (sv 1)) (fun _ _ _ _ _ => aF (i := 3) (show (["net", "plan", "hour", "triple"] : List Str).Nodup by decide +kernel) rfl (Or.inl rfl) (Or.inr rfl)) (cW (Nat.le_refl _)) (fun _ _ _ _ _ => gJ (bu gM (cV fZ hr (aP (sv 0) (aP (aA (sv 3) ak) (aP (aA (sv 3) ak) aC rfl) rfl) rfl)) (sv 2) (aU _))) (fun _ _ _ _ _ => (sv 3)))
 exact au
noncomputable abbrev s4 := top 6
noncomputable def b4 : List S := [
 .ret (.blt .all [.comp (.zip (.var 0) (.slice (.var 0) (.con (.int 1)) (.con .non))) 2 [1, 2] false none (.cmp .lt (.var 1) (.var 2))])]
noncomputable def f4 : Fd := ⟨1, 1, b4⟩
theorem sc4 : aO ["things"] ["things"] (aD s4) := ⟨rfl, rfl, rfl, by decide +kernel, rfl, by decide +kernel, by decide +kernel⟩
include cl in
theorem d4 (Fu : ig K "is_rising" "is_rising" s4 f fd) (ji : mg "all" = none) (DW : mg "zip" = none) :
 cj Pg w K mg base gG (k + 1) f fd ["things"] (ik K 1 (fun args => enter c n f4 args)) := by
 refine bW Fu sc4 rfl rfl fun cdv A outer s H E hr => ?_
 have nd := sc4.nd
 refine aj ?_ ?_
 . (with_reducible refine aN ?_); exact rH rfl hc (by rfl) ji (cT (N' := ["things", "one", "other"]) hc (vJ rfl (by rfl)) (Ji rfl (by rfl) DW (sv 0) (jT (sv 0) (mK ak) m7)) (fun _ _ _ _ _ => fY hc (aK (aF (i := 1) (show (["things", "one", "other"] : List Str).Nodup by decide +kernel) rfl (Or.inl rfl) (Or.inr rfl)) (aK (aF (i := 2) (show (["things", "one", "other"] : List Str).Nodup by decide +kernel) rfl (Or.inl rfl) (Or.inr rfl)) dD))) (jF rfl (cz (show 1 <= 1 by decide) (cz (show 1 <= 2 by decide) jV))) (fun _ _ _ _ _ => gb) (fun _ _ _ _ _ => (kZ (nM (bH hr)) (sv 1) (sv 2) (aU _))))
 exact au
noncomputable abbrev s5 := top 8
noncomputable def b5 : List S := [
 .ifs (.not (.blt .all [.comp (.var 0) 3 [1, 2, 3] false none (.and (.cmp .ge (.var 1) (.con (.int 0))) (.cmp .ge (.var 3) (.con (.int 1))))])) [.ret (.con (.bl false))] [], 
 .ret (.call 4 [.comp (.var 0) 3 [1, 2, 3] false none (.tup [.var 1, .var 2])])]
noncomputable def f5 : Fd := ⟨1, 1, b5⟩
theorem sc5 : aO ["triples"] ["triples"] (aD s5) := ⟨rfl, rfl, rfl, by decide +kernel, rfl, by decide +kernel, by decide +kernel⟩
include cl in
theorem d5 (Fu : ig K "is_plan" "is_plan" s5 f fd) (ji : mg "all" = none) (uO : az Pg w K mg base k c 4 "is_rising" 1) :
 cj Pg w K mg base gG (k + 1) f fd ["triples"] (ik K 1 (fun args => enter c n f5 args)) := by
 refine bW Fu sc5 rfl rfl fun cdv A outer s H E hr => ?_
 have nd := sc5.nd
 refine aj ?_ ?_
 . (with_reducible refine cF ?_ ?_ ?_); exact jt (kY (rH rfl hc (by rfl) ji (cT (N' := ["triples", "hour", "way", "loads"]) hc (vJ rfl (by rfl)) (cO (sv 0)) (fun _ _ _ _ _ => fY hc (aK (aF (i := 1) (show (["triples", "hour", "way", "loads"] : List Str).Nodup by decide +kernel) rfl (Or.inl rfl) (Or.inr rfl)) (aK (aF (i := 2) (show (["triples", "hour", "way", "loads"] : List Str).Nodup by decide +kernel) rfl (Or.inl rfl) (Or.inr rfl)) (aK (aF (i := 3) (show (["triples", "hour", "way", "loads"] : List Str).Nodup by decide +kernel) rfl (Or.inl rfl) (Or.inr rfl)) dD)))) (jF rfl (cz (show 1 <= 1 by decide) (cz (show 1 <= 2 by decide) (cz (show 1 <= 3 by decide) jV)))) (fun _ _ _ _ _ => gb) (fun _ _ _ _ _ => (v7 (kZ vN (sv 1) ak (aU _)) (xg (kZ vN (sv 3) ak (aU _)))))))); (· (with_reducible refine aj ?_ ?_); (· (with_reducible refine aN ?_); exact cU); exact au); exact au
 with_reducible refine aj ?_ ?_
 . (with_reducible refine aN ?_); exact cV uO hr (aP (cT (N' := ["triples", "hour", "way", "loads"]) hc (vJ rfl (by rfl)) (cO (sv 0)) (fun _ _ _ _ _ => fY hc (aK (aF (i := 1) (show (["triples", "hour", "way", "loads"] : List Str).Nodup by decide +kernel) rfl (Or.inl rfl) (Or.inr rfl)) (aK (aF (i := 2) (show (["triples", "hour", "way", "loads"] : List Str).Nodup by decide +kernel) rfl (Or.inl rfl) (Or.inr rfl)) (aK (aF (i := 3) (show (["triples", "hour", "way", "loads"] : List Str).Nodup by decide +kernel) rfl (Or.inl rfl) (Or.inr rfl)) dD)))) (jF rfl (cz (show 1 <= 1 by decide) (cz (show 1 <= 2 by decide) (cz (show 1 <= 3 by decide) jV)))) (fun _ _ _ _ _ => gb) (fun _ _ _ _ _ => (dH (dh (sv 1) (dh (sv 2) aY rfl) rfl)))) aC rfl)
 exact au
noncomputable abbrev s6 := top 9
noncomputable def b6 : List S := [
 .ret (.and (.chain .le .lt (.con (.int 0)) (.idx (.var 2) (.con (.int 1))) (.blt .len [.idx (.var 0) (.con (.int 1))])) (.and (.cmp .le (.idx (.var 2) (.con (.int 2))) (.idx (.idx (.idx (.var 0) (.con (.int 1))) (.idx (.var 2) (.con (.int 1)))) (.con (.int 2)))) (.cmp .le (.call 2 [.var 0, .idx (.var 2) (.con (.int 0)), .idx (.var 2) (.con (.int 1))]) (.var 1))))]
noncomputable def f6 : Fd := ⟨3, 3, b6⟩
theorem Zx : aO ["net", "last", "triple"] ["net", "last", "triple"] (aD s6) := ⟨rfl, rfl, rfl, by decide +kernel, rfl, by decide +kernel, by decide +kernel⟩
include cl in
theorem d6 (Fu : ig K "triple_fits" "triple_fits" s6 f fd) (fG : mg "len" = none) (fZ : az Pg w K mg base k c 2 "hour_out" 3) :
 cj Pg w K mg base gG (k + 1) f fd ["net", "last", "triple"] (ik K 3 (fun args => enter c n f6 args)) := by
 refine bW Fu Zx rfl rfl fun cdv A outer s H E hr => ?_
 have nd := Zx.nd
 refine aj ?_ ?_
 . (with_reducible refine aN ?_); exact v7 (Ah gM (nM (bH hr)) ak (aA (sv 2) ak) (lE rfl (by rfl) fG (aA (sv 0) ak))) (v7 (kZ gM (aA (sv 2) ak) (aA (aA (aA (sv 0) ak) (aA (sv 2) ak)) ak) (aU _)) (xg (kZ gM (cV fZ hr (aP (sv 0) (aP (aA (sv 2) ak) (aP (aA (sv 2) ak) aC rfl) rfl) rfl)) (sv 1) (aU _)))).ev
 exact au
noncomputable abbrev s7 := top 10
noncomputable def b7 : List S := [
 .wG 3 false, 
 .ie (.var 1) [4, 5, 6] false [.ifs (.cmp .eq (.idx (.idx (.idx (.var 0) (.con (.int 1))) (.var 5)) (.con (.int 1))) (.var 2)) [.asg 7 (.call 2 [.var 0, .var 4, .var 5]), .dput 3 (.var 7) (.bin .add (.Pb 3 (.var 7) (.con (.int 0))) (.var 6))] [], .ifs (.cmp .eq (.idx (.idx (.idx (.var 0) (.con (.int 1))) (.var 5)) (.con (.int 0))) (.var 2)) [.dput 3 (.var 4) (.bin .sub (.Pb 3 (.var 4) (.con (.int 0))) (.var 6))] []], 
 .ret (.var 3)]
noncomputable def f7 : Fd := ⟨3, 8, b7⟩
theorem sc7 : aO ["net", "plan", "place", "changes", "hour", "way", "loads", "out"] ["net", "plan", "place"] (aD s7) := ⟨rfl, rfl, rfl, by decide +kernel, rfl, by decide +kernel, by decide +kernel⟩
include cl in
theorem d7 (Fu : ig K "changes_at" "changes_at" s7 f fd) (fZ : az Pg w K mg base k c 2 "hour_out" 3) :
 cj Pg w K mg base gG (k + 1) f fd ["net", "plan", "place"] (ik K 3 (fun args => enter c n f7 args)) := by
 refine bW Fu sc7 rfl rfl fun cdv A outer s H E hr => ?_
 have nd := sc7.nd
 refine aj ?_ ?_
 . exact (Em (i := 3) nd rfl (Or.inl rfl) (by rfl) (Or.inl rfl))
 with_reducible refine aj ?_ ?_
 . exact (oA PassesOwn.never hc (cO (sv 1)) (fY hc (aK (aF (i := 4) nd rfl (Or.inl rfl) (Or.inl rfl)) (aK (aF (i := 5) nd rfl (Or.inl rfl) (Or.inl rfl)) (aK (aF (i := 6) nd rfl (Or.inl rfl) (Or.inl rfl)) dD)))) (lA rfl (bK _ _ (bK _ _ (bK _ _ iR 6) 5) 4)) (by (with_reducible refine aj ?_ ?_); (· (with_reducible refine cF ?_ ?_ ?_); exact bu (lg (bH hr)) (aA (aA (aA (sv 0) ak) (sv 5)) ak) (sv 2) (aU _); (· (with_reducible refine aj ?_ ?_); (· (with_reducible refine aM (i := 7) ?_ ?_ ?_ ?_ ?_ ?_); exact nd; exact rfl; exact oi; rotate_left; rfl; exact oi; exact cV fZ hr (aP (sv 0) (aP (sv 4) (aP (sv 5) aC rfl) rfl) rfl)); (· (with_reducible refine aj ?_ ?_); exact xW (i := 3) (bH hr) rfl (by first | exact Or.inl rfl | exact Or.inr (Or.inl rfl)) (sv 7) (aB aR (Bq (i := 3) (bH hr) rfl (by first | exact Or.inl rfl | exact Or.inr (Or.inl rfl)) (sv 7) ak ⟨rfl, rfl, rfl, rfl⟩) (sv 6)) (by rfl); exact au)); exact au); (· (with_reducible refine aj ?_ ?_); (· (with_reducible refine cF ?_ ?_ ?_); exact bu (lg (bH hr)) (aA (aA (aA (sv 0) ak) (sv 5)) ak) (sv 2) (aU _); (· (with_reducible refine aj ?_ ?_); exact xW (i := 3) (bH hr) rfl (by first | exact Or.inl rfl | exact Or.inr (Or.inl rfl)) (sv 4) (aB gW (Bq (i := 3) (bH hr) rfl (by first | exact Or.inl rfl | exact Or.inr (Or.inl rfl)) (sv 4) ak ⟨rfl, rfl, rfl, rfl⟩) (sv 6)) (by rfl); exact au); exact au); exact au)))
 with_reducible refine aj ?_ ?_
 . (with_reducible refine aN ?_); exact sv 3
 exact au
noncomputable abbrev s8 := top 11
noncomputable def b8 : List S := [
 .asg 3 (.call 7 [.var 0, .var 1, .var 2]), 
 .asg 4 (.con (.int 0)), 
 .ie (.blt .uM [.var 3]) [5] true [.aug 4 false (.bin .zG (.var 3) (.var 5)), .ifs (.cmp .lt (.var 4) (.con (.int 0))) [.ret (.con (.bl false))] []], 
 .ret (.con (.bl true))]
noncomputable def f8 : Fd := ⟨3, 6, b8⟩
theorem Zz : aO ["net", "plan", "place", "changes", "standing", "hour"] ["net", "plan", "place"] (aD s8) := ⟨rfl, rfl, rfl, by decide +kernel, rfl, by decide +kernel, by decide +kernel⟩
include cl in
theorem d8 (Fu : ig K "never_short" "never_short" s8 f fd) (cH : mg "sorted" = none) (dM : az Pg w K mg base k c 7 "changes_at" 3) :
 cj Pg w K mg base gG (k + 1) f fd ["net", "plan", "place"] (ik K 3 (fun args => enter c n f8 args)) := by
 refine bW Fu Zz rfl rfl fun cdv A outer s H E hr => ?_
 have nd := Zz.nd
 refine aj ?_ ?_
 . (with_reducible refine aM (i := 3) ?_ ?_ ?_ ?_ ?_ ?_); exact nd; exact rfl; exact oi; rotate_left; rfl; exact oi; exact cV dM hr (aP (sv 0) (aP (sv 1) (aP (sv 2) aC rfl) rfl) rfl)
 with_reducible refine aj ?_ ?_
 . (with_reducible refine aM (i := 4) ?_ ?_ ?_ ?_ ?_ ?_); exact nd; exact rfl; exact oi; rotate_left; rfl; exact oi; exact ak
 with_reducible refine aj ?_ ?_
 . (with_reducible refine dI (i := 5) ?_ ?_ ?_ ?_ ?_ ?_ ?_ ?_ ?_); exact PassesOwn.never; exact hc; exact nd; exact rfl; exact oi; exact cO (CP rfl hc (by rfl) cH (sv 3)); (· (with_reducible refine aj ?_ ?_); exact Ko (i := 4) (sub := false) Hj nd rfl (Or.inl rfl) (qC (bH hr) (sv 3) (sv 5) (fun _ _ => rfl)) (Or.inl rfl); (· (with_reducible refine aj ?_ ?_); (· (with_reducible refine cF ?_ ?_ ?_); exact bu (nM (bH hr)) (sv 4) ak (aU _); (· (with_reducible refine aj ?_ ?_); (· (with_reducible refine aN ?_); exact cU); exact au); exact au); exact au)); (· intro _; rfl); exact Or.inl rfl
 with_reducible refine aj ?_ ?_
 . (with_reducible refine aN ?_); exact cU
 exact au
noncomputable abbrev s9 := top 12
noncomputable def b9 : List S := [
 .ifs (.or (.not (.call 5 [.var 2])) (.not (.blt .all [.comp (.var 2) 1 [3] true none (.call 6 [.var 0, .var 1, .var 3])]))) [.ret (.con (.bl false))] [], 
 .ret (.blt .all [.comp (.sE (.con (.int 1)) (.idx (.var 0) (.con (.int 0)))) 1 [3] true none (.call 8 [.var 0, .var 2, .var 3])])]
noncomputable def f9 : Fd := ⟨3, 3, b9⟩
theorem sc9 : aO ["net", "last", "plan"] ["net", "last", "plan"] (aD s9) := ⟨rfl, rfl, rfl, by decide +kernel, rfl, by decide +kernel, by decide +kernel⟩
include cl in
theorem d9 (Fu : ig K "plan_right" "plan_right" s9 f fd) (ji : mg "all" = none) (aZ : mg "range" = none) (zN : az Pg w K mg base k c 5 "is_plan" 1) (pJ : az Pg w K mg base k c 8 "never_short" 3) (pK : az Pg w K mg base k c 6 "triple_fits" 3) :
 cj Pg w K mg base gG (k + 1) f fd ["net", "last", "plan"] (ik K 3 (fun args => enter c n f9 args)) := by
 refine bW Fu sc9 rfl rfl fun cdv A outer s H E hr => ?_
 have nd := sc9.nd
 refine aj ?_ ?_
 . (with_reducible refine cF ?_ ?_ ?_); exact SW.st (Iv (jt (kY (cV zN hr (aP (sv 2) aC rfl)))) (CG (jt (kY (rH rfl hc (by rfl) ji (cT (N' := ["net", "last", "plan", "triple"]) hc (vJ rfl (by rfl)) (cO (sv 2)) (fun _ _ _ _ _ => aF (i := 3) (show (["net", "last", "plan", "triple"] : List Str).Nodup by decide +kernel) rfl (Or.inl rfl) (Or.inr rfl)) (cW (Nat.le_refl _)) (fun _ _ _ _ _ => gb) (fun _ _ _ _ _ => (cV pK hr (aP (sv 0) (aP (sv 1) (aP (sv 3) aC rfl) rfl) rfl))))))))); (· (with_reducible refine aj ?_ ?_); (· (with_reducible refine aN ?_); exact cU); exact au); exact au
 with_reducible refine aj ?_ ?_
 . (with_reducible refine aN ?_); exact rH rfl hc (by rfl) ji (cT (N' := ["net", "last", "plan", "place"]) hc (vJ rfl (by rfl)) (jy rfl (by rfl) aZ ak (aA (sv 0) ak)) (fun _ _ _ _ _ => aF (i := 3) (show (["net", "last", "plan", "place"] : List Str).Nodup by decide +kernel) rfl (Or.inl rfl) (Or.inr rfl)) (cW (Nat.le_refl _)) (fun _ _ _ _ _ => gb) (fun _ _ _ _ _ => (cV pJ hr (aP (sv 0) (aP (sv 2) (aP (sv 3) aC rfl) rfl) rfl))))
 exact au
noncomputable abbrev je := top 13
noncomputable def b10 : List S := [
 .asg 4 (.call 7 [.var 0, .var 1, .var 2]), 
 .ret (.blt .sum [.comp (.blt .keys [.var 4]) 1 [5] true (some (.cmp .le (.var 5) (.var 3))) (.bin .zG (.var 4) (.var 5))])]
noncomputable def QJ : Fd := ⟨4, 5, b10⟩
theorem Qm : aO ["net", "plan", "place", "hour", "changes"] ["net", "plan", "place", "hour"] (aD je) := ⟨rfl, rfl, rfl, by decide +kernel, rfl, by decide +kernel, by decide +kernel⟩
include cl in
theorem Xg (Fu : ig K "stands_at" "stands_at" je f fd) (il : mg "sum" = none) (dM : az Pg w K mg base k c 7 "changes_at" 3) :
 cj Pg w K mg base gG (k + 1) f fd ["net", "plan", "place", "hour"] (ik K 4 (fun args => enter c n QJ args)) := by
 refine bW Fu Qm rfl rfl fun cdv A outer s H E hr => ?_
 have nd := Qm.nd
 refine aj ?_ ?_
 . (with_reducible refine aM (i := 4) ?_ ?_ ?_ ?_ ?_ ?_); exact nd; exact rfl; exact Or.inr rfl; rotate_left; rfl; exact oi; exact cV dM hr (aP (sv 0) (aP (sv 1) (aP (sv 2) aC rfl) rfl) rfl)
 with_reducible refine aj ?_ ?_
 . (with_reducible refine aN ?_); exact qR rfl hc (by rfl) il (cT (N' := ["net", "plan", "place", "hour", "changes", "at"]) hc (vJ rfl (by rfl)) (xP (sv 4)) (fun _ _ _ _ _ => aF (i := 5) (show (["net", "plan", "place", "hour", "changes", "at"] : List Str).Nodup by decide +kernel) rfl (Or.inl rfl) (Or.inr rfl)) (cW (Nat.le_refl _)) (fun _ _ _ _ _ => gJ (bu gM (sv 5) (sv 3) (aU _))) (fun _ _ _ _ _ => (qC (bH hr) (sv 4) (sv 5) (fun _ _ => rfl))))
 exact au
noncomputable abbrev qj := top 14
noncomputable def b11 : List S := [
 .ret (.call 10 [.var 0, .var 1, .bin .sub (.idx (.var 0) (.con (.int 0))) (.con (.int 1)), .var 2])]
noncomputable def f11 : Fd := ⟨3, 3, b11⟩
theorem Sw : aO ["net", "plan", "hour"] ["net", "plan", "hour"] (aD qj) := ⟨rfl, rfl, rfl, by decide +kernel, rfl, by decide +kernel, by decide +kernel⟩
include cl in
theorem Zr (Fu : ig K "brought_by" "brought_by" qj f fd) (uP : az Pg w K mg base k c 10 "stands_at" 4) :
 cj Pg w K mg base gG (k + 1) f fd ["net", "plan", "hour"] (ik K 3 (fun args => enter c n f11 args)) := by
 refine bW Fu Sw rfl rfl fun cdv A outer s H E hr => ?_
 have nd := Sw.nd
 refine aj ?_ ?_
 . (with_reducible refine aN ?_); exact cV uP hr (aP (sv 0) (aP (sv 1) (aP (aB gW (aA (sv 0) ak) ak) (aP (sv 2) aC rfl) rfl) rfl) rfl)
 exact au
noncomputable abbrev s12 := top 15
noncomputable def b12 : List S := [
 .asg 3 (.call 7 [.var 0, .var 1, .con (.int 0)]), 
 .ret (.neg (.blt .sum [.comp (.blt .keys [.var 3]) 1 [4] true (some (.cmp .ge (.var 4) (.var 2))) (.bin .zG (.var 3) (.var 4))]))]
noncomputable def Rv : Fd := ⟨3, 4, b12⟩
theorem PQ : aO ["net", "plan", "hour", "changes"] ["net", "plan", "hour"] (aD s12) := ⟨rfl, rfl, rfl, by decide +kernel, rfl, by decide +kernel, by decide +kernel⟩
include cl in
theorem d12 (Fu : ig K "sent_from" "sent_from" s12 f fd) (il : mg "sum" = none) (dM : az Pg w K mg base k c 7 "changes_at" 3) :
 cj Pg w K mg base gG (k + 1) f fd ["net", "plan", "hour"] (ik K 3 (fun args => enter c n Rv args)) := by
 refine bW Fu PQ rfl rfl fun cdv A outer s H E hr => ?_
 have nd := PQ.nd
 refine aj ?_ ?_
 . (with_reducible refine aM (i := 3) ?_ ?_ ?_ ?_ ?_ ?_); exact nd; exact rfl; exact Or.inr rfl; rotate_left; rfl; exact oi; exact cV dM hr (aP (sv 0) (aP (sv 1) (aP ak aC rfl) rfl) rfl)
 with_reducible refine aj ?_ ?_
 . (with_reducible refine aN ?_); exact jm (qR rfl hc (by rfl) il (cT (N' := ["net", "plan", "hour", "changes", "at"]) hc (vJ rfl (by rfl)) (xP (sv 3)) (fun _ _ _ _ _ => aF (i := 4) (show (["net", "plan", "hour", "changes", "at"] : List Str).Nodup by decide +kernel) rfl (Or.inl rfl) (Or.inr rfl)) (cW (Nat.le_refl _)) (fun _ _ _ _ _ => gJ (bu vN (sv 4) (sv 2) (aU _))) (fun _ _ _ _ _ => (qC (bH hr) (sv 3) (sv 4) (fun _ _ => rfl)))))
 exact au
noncomputable abbrev rm := top 20
noncomputable def ZJ : List S := [
 .ifs (.not (.chain .le .lt (.con (.int 0)) (.var 1) (.blt .len [.idx (.var 0) (.con (.int 1))]))) [.DQ 1] [], 
 .ret (.idx (.idx (.var 0) (.con (.int 1))) (.var 1))]
noncomputable def Ue : Fd := ⟨2, 2, ZJ⟩
theorem RB : aO ["net", "number"] ["net", "number"] (aD rm) := ⟨rfl, rfl, rfl, by decide +kernel, rfl, by decide +kernel, by decide +kernel⟩
include cl in
theorem d13 (Fu : ig K "known_way" "known_way" rm f fd) (fG : mg "len" = none) :
 cj Pg w K mg base gG (k + 1) f fd ["net", "number"] (ik K 2 (fun args => enter c n Ue args)) := by
 refine bW Fu RB rfl rfl fun cdv A outer s H E hr => ?_
 have nd := RB.nd
 refine aj ?_ ?_
 . (with_reducible refine cF ?_ ?_ ?_); exact jt (By gM (nM (bH hr)) ak (sv 1) (lE rfl (by rfl) fG (aA (sv 0) ak))); (· (with_reducible refine aj ?_ ?_); exact GD; exact au); exact au
 with_reducible refine aj ?_ ?_
 . (with_reducible refine aN ?_); exact aA (aA (sv 0) ak) (sv 1)
 exact au
noncomputable abbrev NQ := top 21
noncomputable def b14 : List S := [
 .asg 3 (.call 13 [.var 0, .var 1]), 
 .asg 4 (.tup [.idx (.var 3) (.con (.int 0)), .idx (.var 3) (.con (.int 1)), .var 2, .idx (.var 3) (.con (.int 3))]), 
 .ret (.tup [.idx (.var 0) (.con (.int 0)), .bin .add (.bin .add (.slice (.idx (.var 0) (.con (.int 1))) (.con .non) (.var 1)) (.tup [.var 4])) (.slice (.idx (.var 0) (.con (.int 1))) (.bin .add (.var 1) (.con (.int 1))) (.con .non))])]
noncomputable def Vm : Fd := ⟨3, 5, b14⟩
theorem Qj : aO ["net", "number", "room", "way", "changed"] ["net", "number", "room"] (aD NQ) := ⟨rfl, rfl, rfl, by decide +kernel, rfl, by decide +kernel, by decide +kernel⟩
include cl in
theorem d14 (Fu : ig K "with_room" "with_room" NQ f fd) (uQ : az Pg w K mg base k c 13 "known_way" 2) :
 cj Pg w K mg base gG (k + 1) f fd ["net", "number", "room"] (ik K 3 (fun args => enter c n Vm args)) := by
 refine bW Fu Qj rfl rfl fun cdv A outer s H E hr => ?_
 have nd := Qj.nd
 refine aj ?_ ?_
 . (with_reducible refine aM (i := 3) ?_ ?_ ?_ ?_ ?_ ?_); exact nd; exact rfl; exact oi; rotate_left; rfl; exact oi; exact cV uQ hr (aP (sv 0) (aP (sv 1) aC rfl) rfl)
 with_reducible refine aj ?_ ?_
 . (with_reducible refine aM (i := 4) ?_ ?_ ?_ ?_ ?_ ?_); exact nd; exact rfl; exact oi; rotate_left; rfl; exact oi; exact dH (dh (aA (sv 3) ak) (dh (aA (sv 3) ak) (dh (sv 2) (dh (aA (sv 3) ak) aY rfl) rfl) rfl) rfl)
 with_reducible refine aj ?_ ?_
 . (with_reducible refine aN ?_); exact dH (dh (aA (sv 0) ak) (dh (aB aR (aB aR (jT (aA (sv 0) ak) m7 (mK (sv 1))) (dH (dh (sv 4) aY rfl))) (jT (aA (sv 0) ak) (mK (aB aR (sv 1) ak)) m7)) aY rfl) rfl)
 exact au
noncomputable abbrev V7 := top 23
noncomputable def b15 : List S := [
 .ret (.lst [.blt .max2 [.con (.int 0), .bin .sub (.var 0) (.bin .pow (.con (.int 10)) (.con (.int 18)))], .bin .mod (.var 0) (.bin .pow (.con (.int 10)) (.con (.int 18))), .con (.int 0)])]
noncomputable def Vj : Fd := ⟨1, 1, b15⟩
theorem RW : aO ["cell"] ["cell"] (aD V7) := ⟨rfl, rfl, rfl, by decide +kernel, rfl, by decide +kernel, by decide +kernel⟩
include cl in
theorem d15 (Fu : ig K "_law_pool" "_law_pool" V7 f fd) (ir : mg "max" = none) :
 cj Pg w K mg base gG (k + 1) f fd ["cell"] (ik K 1 (fun args => enter c n Vj args)) := by
 refine bW Fu RW rfl rfl fun cdv A outer s H E hr => ?_
 have nd := RW.nd
 refine aj ?_ ?_
 . (with_reducible refine aN ?_); exact gk (dh (mR rfl hc (by rfl) ir (dh ak (dh (aB gW (sv 0) (aB mG ak ak)) aY rfl) rfl)) (dh (aB fJ (sv 0) (aB mG ak ak)) (dh ak aY rfl) rfl) rfl)
 exact au
noncomputable abbrev V1 := top 24
noncomputable def b16 : List S := [
 .ifs (.cmp .gt (.idx (.var 0) (.con (.int 0))) (.con (.int 0))) [.asg 2 (.bin .mod (.idx (.var 0) (.con (.int 0))) (.var 1)), .DP 0 (.con (.int 0)) (.bin .fdiv (.idx (.var 0) (.con (.int 0))) (.var 1)), .ret (.var 2)] [], 
 .DP 0 (.con (.int 2)) (.bin .add (.idx (.var 0) (.con (.int 2))) (.con (.int 1))), 
 .asg 3 (.bin .mod (.bin .add (.idx (.var 0) (.con (.int 1))) (.bin .mul (.con (.int 7919)) (.idx (.var 0) (.con (.int 2))))) (.con (.int 1000000007))), 
 .asg 4 (.bin .mod (.bin .mul (.bin .add (.var 3) (.con (.int 11))) (.bin .add (.var 3) (.con (.int 48271)))) (.con (.int 998244353))), 
 .ret (.bin .mod (.bin .fdiv (.bin .mod (.bin .mul (.var 4) (.var 4)) (.con (.int 2147483647))) (.con (.int 8))) (.var 1))]
noncomputable def TX : Fd := ⟨2, 5, b16⟩
theorem Px : aO ["pool", "base", "digit", "mixed", "stir"] ["pool", "base"] (aD V1) := ⟨rfl, rfl, rfl, by decide +kernel, rfl, by decide +kernel, by decide +kernel⟩
include cl in
theorem d16 (Fu : ig K "_law_next" "_law_next" V1 f fd) :
 cj Pg w K mg base gG (k + 1) f fd ["pool", "base"] (ik K 2 (fun args => enter c n TX args)) := by
 refine bW Fu Px rfl rfl fun cdv A outer s H E hr => ?_
 have nd := Px.nd
 refine aj ?_ ?_
 . (with_reducible refine cF ?_ ?_ ?_); exact bu gj (aA (sv 0) ak) ak (aU _); (· (with_reducible refine aj ?_ ?_); (· (with_reducible refine aM (i := 2) ?_ ?_ ?_ ?_ ?_ ?_); exact nd; exact rfl; exact oi; rotate_left; rfl; exact oi; exact aB fJ (aA (sv 0) ak) (sv 1)); (· (with_reducible refine aj ?_ ?_); exact rN (k := 0) rfl (by first | exact Or.inl rfl | exact Or.inr (Or.inl rfl)) ak (aB gA (aA (sv 0) ak) (sv 1)); (· (with_reducible refine aj ?_ ?_); (· (with_reducible refine aN ?_); exact sv 2); exact au))); exact au
 with_reducible refine aj ?_ ?_
 . exact (rN (k := 0) rfl (by first | exact Or.inl rfl | exact Or.inr (Or.inl rfl)) ak (aB aR (aA (sv 0) ak) ak))
 with_reducible refine aj ?_ ?_
 . (with_reducible refine aM (i := 3) ?_ ?_ ?_ ?_ ?_ ?_); exact nd; exact rfl; exact oi; rotate_left; rfl; exact oi; exact aB fJ (aB aR (aA (sv 0) ak) (aB cu ak (aA (sv 0) ak))) ak
 with_reducible refine aj ?_ ?_
 . (with_reducible refine aM (i := 4) ?_ ?_ ?_ ?_ ?_ ?_); exact nd; exact rfl; exact oi; rotate_left; rfl; exact oi; exact aB fJ (aB cu (aB aR (sv 3) ak) (aB aR (sv 3) ak)) ak
 with_reducible refine aj ?_ ?_
 . (with_reducible refine aN ?_); exact aB fJ (aB gA (aB fJ (aB cu (sv 4) (sv 4)) ak) ak) (sv 1)
 exact au
noncomputable abbrev Yb := top 25
noncomputable def b17 : List S := [
 .asg 2 (.blt .list [.slice (.var 0) (.con .non) (.var 1)]), 
 .ie (.sE (.var 1) (.blt .len [.var 0])) [3] true [.DP 2 (.bin .mod (.var 3) (.var 1)) (.bin .add (.bin .mul (.idx (.var 2) (.bin .mod (.var 3) (.var 1))) (.con (.int 31))) (.idx (.var 0) (.var 3)))], 
 .ret (.var 2)]
noncomputable def Vn : Fd := ⟨2, 4, b17⟩
theorem QW : aO ["script", "most", "cells", "k"] ["script", "most"] (aD Yb) := ⟨rfl, rfl, rfl, by decide +kernel, rfl, by decide +kernel, by decide +kernel⟩
include cl in
theorem d17 (Fu : ig K "_law_cells" "_law_cells" Yb f fd) (fG : mg "len" = none) (wL : mg "list" = none) (aZ : mg "range" = none) :
 cj Pg w K mg base gG (k + 1) f fd ["script", "most"] (ik K 2 (fun args => enter c n Vn args)) := by
 refine bW Fu QW rfl rfl fun cdv A outer s H E hr => ?_
 have nd := QW.nd
 refine aj ?_ ?_
 . (with_reducible refine aM (i := 2) ?_ ?_ ?_ ?_ ?_ ?_); exact nd; exact rfl; exact oi; rotate_left; rfl; exact oi; exact Gk rfl (by rfl) wL (jT (sv 0) m7 (mK (sv 1)))
 with_reducible refine aj ?_ ?_
 . (with_reducible refine dI (i := 3) ?_ ?_ ?_ ?_ ?_ ?_ ?_ ?_ ?_); exact PassesOwn.never; exact hc; exact nd; exact rfl; exact oi; exact jy rfl (by rfl) aZ (sv 1) (lE rfl (by rfl) fG (sv 0)); (· (with_reducible refine aj ?_ ?_); exact rN (k := 2) rfl (by first | exact Or.inl rfl | exact Or.inr (Or.inl rfl)) (aB fJ (sv 3) (sv 1)) (aB aR (aB cu (aA (sv 2) (aB fJ (sv 3) (sv 1))) ak) (aA (sv 0) (sv 3))); exact au); (· intro _; rfl); exact Or.inl rfl
 with_reducible refine aj ?_ ?_
 . (with_reducible refine aN ?_); exact sv 2
 exact au
noncomputable abbrev W9 := top 26
noncomputable def b18 : List S := [
 .asg 3 (.call 16 [.var 0, .var 1]), 
 .asg 4 (.bin .mod (.bin .add (.bin .add (.var 3) (.con (.int 1))) (.call 16 [.var 0, .bin .sub (.var 1) (.con (.int 1))])) (.var 1)), 
 .ifs (.and (.cmp .lt (.bin .add (.var 2) (.con (.int 1))) (.var 1)) (.cmp .gt (.call 16 [.var 0, .con (.int 3)]) (.con (.int 0)))) [.par 3 4 (.var 2) (.bin .add (.var 2) (.con (.int 1)))] [.ifs (.and (.cmp .gt (.var 3) (.var 4)) (.cmp .gt (.call 16 [.var 0, .con (.int 3)]) (.con (.int 0)))) [.par 3 4 (.var 4) (.var 3)] []], 
 .asg 5 (.idx (.lst [.con (.int 1), .con (.int 2), .con (.int 3), .con (.int 5), .con (.int 0), .con (.int 1), .con (.int 4), .bin .add (.con (.int 1)) (.call 16 [.var 0, .con (.int 9)])]) (.call 16 [.var 0, .con (.int 8)])), 
 .ret (.tup [.var 3, .var 4, .var 5, .idx (.lst [.con (.int 1), .con (.int 1), .con (.int 1), .con (.int 2), .con (.int 2), .con (.int 3), .con (.int 1), .con (.int 4)]) (.call 16 [.var 0, .con (.int 8)])])]
noncomputable def Uq : Fd := ⟨3, 6, b18⟩
theorem Qo : aO ["pool", "many", "k", "begin", "end", "room"] ["pool", "many", "k"] (aD W9) := ⟨rfl, rfl, rfl, by decide +kernel, rfl, by decide +kernel, by decide +kernel⟩
include cl in
theorem d18 (Fu : ig K "_law_way" "_law_way" W9 f fd) (aH : az Pg w K mg base k c 16 "_law_next" 2) :
 cj Pg w K mg base gG (k + 1) f fd ["pool", "many", "k"] (ik K 3 (fun args => enter c n Uq args)) := by
 refine bW Fu Qo rfl rfl fun cdv A outer s H E hr => ?_
 have nd := Qo.nd
 refine aj ?_ ?_
 . (with_reducible refine aM (i := 3) ?_ ?_ ?_ ?_ ?_ ?_); exact nd; exact rfl; exact oi; rotate_left; rfl; exact oi; exact cV aH hr (aP (sv 0) (aP (sv 1) aC rfl) rfl)
 with_reducible refine aj ?_ ?_
 . (with_reducible refine aM (i := 4) ?_ ?_ ?_ ?_ ?_ ?_); exact nd; exact rfl; exact oi; rotate_left; rfl; exact oi; exact aB fJ (aB aR (aB aR (sv 3) ak) (cV aH hr (aP (sv 0) (aP (aB gW (sv 1) ak) aC rfl) rfl))) (sv 1)
 with_reducible refine aj ?_ ?_
 . (with_reducible refine cF ?_ ?_ ?_); exact SW.st (rR (bu (nM (bH hr)) (aB aR (sv 2) ak) (sv 1) (aU _)) (mZ (bu gj (cV aH hr (aP (sv 0) (aP ak aC rfl) rfl)) ak (aU _)))); (· (with_reducible refine aj ?_ ?_); exact BL (i := 3) (j := 4) hc nd rfl rfl (by decide) rfl rfl (sv 2) (aB aR (sv 2) ak); exact au); (· (with_reducible refine aj ?_ ?_); (· (with_reducible refine cF ?_ ?_ ?_); exact SW.st (rR (bu gj (sv 3) (sv 4) (aU _)) (mZ (bu gj (cV aH hr (aP (sv 0) (aP ak aC rfl) rfl)) ak (aU _)))); (· (with_reducible refine aj ?_ ?_); exact BL (i := 3) (j := 4) hc nd rfl rfl (by decide) rfl rfl (sv 4) (sv 3); exact au); exact au); exact au)
 with_reducible refine aj ?_ ?_
 . (with_reducible refine aM (i := 5) ?_ ?_ ?_ ?_ ?_ ?_); exact nd; exact rfl; exact oi; rotate_left; rfl; exact oi; exact aA (gk (jW [1, 2, 3, 5, 0, 1, 4] rfl (dh (aB aR ak (cV aH hr (aP (sv 0) (aP ak aC rfl) rfl))) aY rfl))) (cV aH hr (aP (sv 0) (aP ak aC rfl) rfl))
 with_reducible refine aj ?_ ?_
 . (with_reducible refine aN ?_); exact dH (dh (sv 3) (dh (sv 4) (dh (sv 5) (dh (aA (gk (jW [1, 1, 1, 2, 2, 3, 1, 4] rfl aY)) (cV aH hr (aP (sv 0) (aP ak aC rfl) rfl))) aY rfl) rfl) rfl) rfl)
 exact au
noncomputable abbrev XF := top 27
noncomputable def b19 : List S := [
 .asg 1 (.idx (.lst [.con (.int 3), .con (.int 4), .con (.int 3), .con (.int 4), .con (.int 2), .con (.int 5), .con (.int 6), .con (.int 4)]) (.call 16 [.var 0, .con (.int 8)])), 
 .asg 2 (.idx (.lst [.con (.int 5), .con (.int 3), .con (.int 4), .con (.int 6), .con (.int 2), .con (.int 7), .con (.int 8), .con (.int 10), .con (.int 12), .con (.int 1), .con (.int 0), .con (.int 5)]) (.call 16 [.var 0, .con (.int 12)])), 
 .ret (.tup [.var 1, .blt .tuple [.comp (.sE (.con (.int 0)) (.var 2)) 1 [3] true none (.call 18 [.var 0, .var 1, .var 3])]])]
noncomputable def Ua : Fd := ⟨1, 3, b19⟩
theorem PB : aO ["pool", "many", "count"] ["pool"] (aD XF) := ⟨rfl, rfl, rfl, by decide +kernel, rfl, by decide +kernel, by decide +kernel⟩
include cl in
theorem d19 (Fu : ig K "_law_net" "_law_net" XF f fd) (aZ : mg "range" = none) (iW : mg "tuple" = none) (aH : az Pg w K mg base k c 16 "_law_next" 2) (wM : az Pg w K mg base k c 18 "_law_way" 3) :
 cj Pg w K mg base gG (k + 1) f fd ["pool"] (ik K 1 (fun args => enter c n Ua args)) := by
 refine bW Fu PB rfl rfl fun cdv A outer s H E hr => ?_
 have nd := PB.nd
 refine aj ?_ ?_
 . (with_reducible refine aM (i := 1) ?_ ?_ ?_ ?_ ?_ ?_); exact nd; exact rfl; exact Or.inr rfl; rotate_left; rfl; exact oi; exact aA (gk (jW [3, 4, 3, 4, 2, 5, 6, 4] rfl aY)) (cV aH hr (aP (sv 0) (aP ak aC rfl) rfl))
 with_reducible refine aj ?_ ?_
 . (with_reducible refine aM (i := 2) ?_ ?_ ?_ ?_ ?_ ?_); exact nd; exact rfl; exact oi; rotate_left; rfl; exact oi; exact aA (gk (jW [5, 3, 4, 6, 2, 7, 8, 10, 12, 1, 0, 5] rfl aY)) (cV aH hr (aP (sv 0) (aP ak aC rfl) rfl))
 with_reducible refine aj ?_ ?_
 . (with_reducible refine aN ?_); exact dH (dh (sv 1) (dh (tZ rfl (by rfl) iW (cT (N' := ["pool", "many", "count", "k"]) hc (vJ rfl (by rfl)) (jZ rfl (by rfl) aZ (sv 2)) (fun _ _ _ _ _ => aF (i := 3) (show (["pool", "many", "count", "k"] : List Str).Nodup by decide +kernel) rfl (Or.inl rfl) (Or.inr rfl)) (cW (Nat.le_refl _)) (fun _ _ _ _ _ => gb) (fun _ _ _ _ _ => (cV wM hr (aP (sv 0) (aP (sv 1) (aP (sv 3) aC rfl) rfl) rfl))))) aY rfl) rfl)
 exact au
noncomputable abbrev Xa := top 28
noncomputable def b20 : List S := [
 .ret (.bin .add (.idx (.var 1) (.con (.int 0))) (.idx (.idx (.idx (.var 0) (.con (.int 1))) (.idx (.var 1) (.con (.int 1)))) (.con (.int 3))))]
noncomputable def Ug : Fd := ⟨2, 2, b20⟩
theorem RM : aO ["net", "triple"] ["net", "triple"] (aD Xa) := ⟨rfl, rfl, rfl, by decide +kernel, rfl, by decide +kernel, by decide +kernel⟩
include cl in
theorem Xq (Fu : ig K "_law_out" "_law_out" Xa f fd) :
 cj Pg w K mg base gG (k + 1) f fd ["net", "triple"] (ik K 2 (fun args => enter c n Ug args)) := by
 refine bW Fu RM rfl rfl fun cdv A outer s H E hr => ?_
 have nd := RM.nd
 refine aj ?_ ?_
 . (with_reducible refine aN ?_); exact aB aR (aA (sv 1) ak) (aA (aA (aA (sv 0) ak) (aA (sv 1) ak)) ak)
 exact au
noncomputable abbrev V9 := top 29
noncomputable def b21 : List S := [
 .asg 4 (.comp (.var 1) 1 [5] true (some (.cmp .eq (.idx (.idx (.idx (.var 0) (.con (.int 1))) (.idx (.var 5) (.con (.int 1)))) (.con (.int 1))) (.var 2))) (.var 5)), 
 .ret (.blt .sum [.comp (.var 4) 1 [5] true (some (.cmp .le (.call 20 [.var 0, .var 5]) (.var 3))) (.idx (.var 5) (.con (.int 2)))])]
noncomputable def U5 : Fd := ⟨4, 5, b21⟩
theorem Ri : aO ["net", "plan", "place", "hour", "here"] ["net", "plan", "place", "hour"] (aD V9) := ⟨rfl, rfl, rfl, by decide +kernel, rfl, by decide +kernel, by decide +kernel⟩
include cl in
theorem d21 (Fu : ig K "_law_come" "_law_come" V9 f fd) (il : mg "sum" = none) (ju : az Pg w K mg base k c 20 "_law_out" 2) :
 cj Pg w K mg base gG (k + 1) f fd ["net", "plan", "place", "hour"] (ik K 4 (fun args => enter c n U5 args)) := by
 refine bW Fu Ri rfl rfl fun cdv A outer s H E hr => ?_
 have nd := Ri.nd
 refine aj ?_ ?_
 . exact (xm (i := 4) (N' := ["net", "plan", "place", "hour", "here", "triple"]) hc nd rfl (Or.inl rfl) (vJ rfl (by rfl)) (cO (sv 1)) (fun _ _ _ _ _ => aF (i := 5) (show (["net", "plan", "place", "hour", "here", "triple"] : List Str).Nodup by decide +kernel) rfl (Or.inl rfl) (Or.inr rfl)) (cW (Nat.le_refl _)) (fun _ _ _ _ _ => gJ (bu (lg (bH hr)) (aA (aA (aA (sv 0) ak) (aA (sv 5) ak)) ak) (sv 2) (aU _))) (fun _ _ _ _ _ => (sv 5)) (by rfl) (by intro _; rfl) (Or.inl rfl))
 with_reducible refine aj ?_ ?_
 . (with_reducible refine aN ?_); exact qR rfl hc (by rfl) il (cT (N' := ["net", "plan", "place", "hour", "here", "triple"]) hc (vJ rfl (by rfl)) (cO (sv 4)) (fun _ _ _ _ _ => aF (i := 5) (show (["net", "plan", "place", "hour", "here", "triple"] : List Str).Nodup by decide +kernel) rfl (Or.inl rfl) (Or.inr rfl)) (cW (Nat.le_refl _)) (fun _ _ _ _ _ => gJ (bu gM (cV ju hr (aP (sv 0) (aP (sv 5) aC rfl) rfl)) (sv 3) (aU _))) (fun _ _ _ _ _ => (aA (sv 5) ak)))
 exact au
noncomputable abbrev XM := top 30
noncomputable def b22 : List S := [
 .asg 4 (.comp (.var 1) 1 [5] true (some (.cmp .eq (.idx (.idx (.idx (.var 0) (.con (.int 1))) (.idx (.var 5) (.con (.int 1)))) (.con (.int 0))) (.var 2))) (.var 5)), 
 .ret (.blt .sum [.comp (.var 4) 1 [5] true (some (.cmp .le (.idx (.var 5) (.con (.int 0))) (.var 3))) (.idx (.var 5) (.con (.int 2)))])]
noncomputable def Ud : Fd := ⟨4, 5, b22⟩
theorem QK : aO ["net", "plan", "place", "hour", "here"] ["net", "plan", "place", "hour"] (aD XM) := ⟨rfl, rfl, rfl, by decide +kernel, rfl, by decide +kernel, by decide +kernel⟩
include cl in
theorem d22 (Fu : ig K "_law_left" "_law_left" XM f fd) (il : mg "sum" = none) :
 cj Pg w K mg base gG (k + 1) f fd ["net", "plan", "place", "hour"] (ik K 4 (fun args => enter c n Ud args)) := by
 refine bW Fu QK rfl rfl fun cdv A outer s H E hr => ?_
 have nd := QK.nd
 refine aj ?_ ?_
 . exact (xm (i := 4) (N' := ["net", "plan", "place", "hour", "here", "triple"]) hc nd rfl (Or.inl rfl) (vJ rfl (by rfl)) (cO (sv 1)) (fun _ _ _ _ _ => aF (i := 5) (show (["net", "plan", "place", "hour", "here", "triple"] : List Str).Nodup by decide +kernel) rfl (Or.inl rfl) (Or.inr rfl)) (cW (Nat.le_refl _)) (fun _ _ _ _ _ => gJ (bu (lg (bH hr)) (aA (aA (aA (sv 0) ak) (aA (sv 5) ak)) ak) (sv 2) (aU _))) (fun _ _ _ _ _ => (sv 5)) (by rfl) (by intro _; rfl) (Or.inl rfl))
 with_reducible refine aj ?_ ?_
 . (with_reducible refine aN ?_); exact qR rfl hc (by rfl) il (cT (N' := ["net", "plan", "place", "hour", "here", "triple"]) hc (vJ rfl (by rfl)) (cO (sv 4)) (fun _ _ _ _ _ => aF (i := 5) (show (["net", "plan", "place", "hour", "here", "triple"] : List Str).Nodup by decide +kernel) rfl (Or.inl rfl) (Or.inr rfl)) (cW (Nat.le_refl _)) (fun _ _ _ _ _ => gJ (bu gM (aA (sv 5) ak) (sv 3) (aU _))) (fun _ _ _ _ _ => (aA (sv 5) ak)))
 exact au
noncomputable abbrev Ym := top 31
noncomputable def b23 : List S := [
 .asg 4 (.lst []), 
 .ie (.sE (.con (.int 0)) (.var 2)) [5] true [.ie (.sE (.con (.int 0)) (.blt .len [.idx (.var 1) (.con (.int 1))])) [6] true [.Vw [7, 8, 9, 10] (.idx (.idx (.var 1) (.con (.int 1))) (.var 6)), .asg 11 (.var 9), .ifs (.cmp .gt (.var 7) (.con (.int 0))) [.asg 12 (.call 21 [.var 1, .var 4, .var 7, .var 5]), .asg 12 (.bin .sub (.var 12) (.call 22 [.var 1, .var 4, .var 7, .var 5])), .asg 11 (.blt .min2 [.var 9, .var 12])] [], .ifs (.or (.cmp .gt (.bin .add (.var 5) (.var 10)) (.var 2)) (.cmp .eq (.blt .len [.var 4]) (.var 3))) [.asg 11 (.con (.int 0))] [], .ifs (.and (.cmp .gt (.var 11) (.con (.int 0))) (.cmp .gt (.call 16 [.var 0, .con (.int 3)]) (.con (.int 0)))) [.asg 13 (.bin .mul (.call 16 [.var 0, .con (.int 2)]) (.call 16 [.var 0, .var 11])), .app 4 (.tup [.var 5, .var 6, .bin .sub (.var 11) (.var 13)])] []]], 
 .ret (.var 4)]
noncomputable def TY : Fd := ⟨4, 14, b23⟩
theorem Qz : aO ["pool", "net", "last", "most", "found", "hour", "way", "begin", "end", "room", "hours", "free", "stock", "less"] ["pool", "net", "last", "most"] (aD Ym) := ⟨rfl, rfl, rfl, by decide +kernel, rfl, by decide +kernel, by decide +kernel⟩
include cl in
theorem d23 (Fu : ig K "_law_plan" "_law_plan" Ym f fd) (fG : mg "len" = none) (qz : mg "min" = none) (aZ : mg "range" = none) (uR : az Pg w K mg base k c 21 "_law_come" 4) (uT : az Pg w K mg base k c 22 "_law_left" 4) (aH : az Pg w K mg base k c 16 "_law_next" 2) :
 cj Pg w K mg base gG (k + 1) f fd ["pool", "net", "last", "most"] (ik K 4 (fun args => enter c n TY args)) := by
 refine bW Fu Qz rfl rfl fun cdv A outer s H E hr => ?_
 have nd := Qz.nd
 refine aj ?_ ?_
 . (with_reducible refine aM (i := 4) ?_ ?_ ?_ ?_ ?_ ?_); exact nd; exact rfl; exact oi; rotate_left; rfl; exact oi; exact gk aY
 with_reducible refine aj ?_ ?_
 . (with_reducible refine dI (i := 5) ?_ ?_ ?_ ?_ ?_ ?_ ?_ ?_ ?_); exact PassesOwn.never; exact hc; exact nd; exact rfl; exact oi; exact jZ rfl (by rfl) aZ (sv 2); (· (with_reducible refine aj ?_ ?_); (· (with_reducible refine dI (i := 6) ?_ ?_ ?_ ?_ ?_ ?_ ?_ ?_ ?_); exact PassesOwn.never; exact hc; exact nd; exact rfl; exact oi; exact jZ rfl (by rfl) aZ (lE rfl (by rfl) fG (aA (sv 1) ak)); (· (with_reducible refine aj ?_ ?_); exact Ca (aA (aA (sv 1) ak) (sv 6)) (fY hc (aK (aF (i := 7) nd rfl (Or.inl rfl) (Or.inl rfl)) (aK (aF (i := 8) nd rfl (Or.inl rfl) (Or.inl rfl)) (aK (aF (i := 9) nd rfl (Or.inl rfl) (Or.inl rfl)) (aK (aF (i := 10) nd rfl (Or.inl rfl) (Or.inl rfl)) dD))))) (lA rfl (bK _ _ (bK _ _ (bK _ _ (bK _ _ iR 10) 9) 8) 7)); (· (with_reducible refine aj ?_ ?_); (· (with_reducible refine aM (i := 11) ?_ ?_ ?_ ?_ ?_ ?_); exact nd; exact rfl; exact oi; rotate_left; rfl; exact oi; exact sv 9); (· (with_reducible refine aj ?_ ?_); (· (with_reducible refine cF ?_ ?_ ?_); exact bu gj (sv 7) ak (aU _); (· (with_reducible refine aj ?_ ?_); (· (with_reducible refine aM (i := 12) ?_ ?_ ?_ ?_ ?_ ?_); exact nd; exact rfl; exact oi; rotate_left; rfl; exact oi; exact cV uR hr (aP (sv 1) (aP (sv 4) (aP (sv 7) (aP (sv 5) aC rfl) rfl) rfl) rfl)); (· (with_reducible refine aj ?_ ?_); (· (with_reducible refine aM (i := 12) ?_ ?_ ?_ ?_ ?_ ?_); exact nd; exact rfl; exact oi; rotate_left; rfl; exact oi; exact aB gW (sv 12) (cV uT hr (aP (sv 1) (aP (sv 4) (aP (sv 7) (aP (sv 5) aC rfl) rfl) rfl) rfl))); (· (with_reducible refine aj ?_ ?_); (· (with_reducible refine aM (i := 11) ?_ ?_ ?_ ?_ ?_ ?_); exact nd; exact rfl; exact oi; rotate_left; rfl; exact oi; exact yo rfl hc (by rfl) qz (dh (sv 9) (dh (sv 12) aY rfl) rfl)); exact au))); exact au); (· (with_reducible refine aj ?_ ?_); (· (with_reducible refine cF ?_ ?_ ?_); exact SW.st (Iv (bu gj (aB aR (sv 5) (sv 10)) (sv 2) (aU _)) (CG (bu (lg (bH hr)) (lE rfl (by rfl) fG (sv 4)) (sv 3) (aU _)))); (· (with_reducible refine aj ?_ ?_); (· (with_reducible refine aM (i := 11) ?_ ?_ ?_ ?_ ?_ ?_); exact nd; exact rfl; exact oi; rotate_left; rfl; exact oi; exact ak); exact au); exact au); (· (with_reducible refine aj ?_ ?_); (· (with_reducible refine cF ?_ ?_ ?_); exact SW.st (rR (bu gj (sv 11) ak (aU _)) (mZ (bu gj (cV aH hr (aP (sv 0) (aP ak aC rfl) rfl)) ak (aU _)))); (· (with_reducible refine aj ?_ ?_); (· (with_reducible refine aM (i := 13) ?_ ?_ ?_ ?_ ?_ ?_); exact nd; exact rfl; exact oi; rotate_left; rfl; exact oi; exact aB cu (cV aH hr (aP (sv 0) (aP ak aC rfl) rfl)) (cV aH hr (aP (sv 0) (aP (sv 11) aC rfl) rfl))); (· (with_reducible refine aj ?_ ?_); exact iw (k := 4) rfl (by first | exact Or.inl rfl | exact Or.inr (Or.inl rfl)) (dH (dh (sv 5) (dh (sv 6) (dh (aB gW (sv 11) (sv 13)) aY rfl) rfl) rfl)); exact au)); exact au); exact au))))); (· intro _; rfl); exact oi); exact au); (· intro _; rfl); exact Or.inl rfl
 with_reducible refine aj ?_ ?_
 . (with_reducible refine aN ?_); exact sv 4
 exact au
noncomputable abbrev XR := top 32
noncomputable def b24 : List S := [
 .ifs (.cmp .gt (.call 16 [.var 0, .con (.int 4)]) (.con (.int 0))) [.ret (.tup [.var 1, .var 2, .var 3])] [], 
 .asg 4 (.bin .add (.con (.int 1)) (.call 16 [.var 0, .con (.int 250000)])), 
 .asg 5 (.bin .add (.con (.int 1)) (.call 16 [.var 0, .bin .pow (.con (.int 10)) (.con (.int 8))])), 
 .asg 6 (.lst []), 
 .ie (.idx (.var 1) (.con (.int 1))) [7, 8, 9, 10] false [.app 6 (.tup [.var 7, .var 8, .bin .mul (.var 9) (.var 5), .bin .mul (.var 10) (.var 4)])], 
 .asg 11 (.lst []), 
 .ie (.var 2) [12, 13, 14] false [.app 11 (.tup [.bin .mul (.var 12) (.var 4), .var 13, .bin .mul (.var 14) (.var 5)])], 
 .ret (.tup [.tup [.idx (.var 1) (.con (.int 0)), .blt .tuple [.var 6]], .var 11, .bin .mul (.var 3) (.var 4)])]
noncomputable def UJ : Fd := ⟨4, 15, b24⟩
theorem Pu : aO ["pool", "net", "plan", "last", "by", "more", "ways", "begin", "end", "room", "hours", "triples", "at", "way", "loads"] ["pool", "net", "plan", "last"] (aD XR) := ⟨rfl, rfl, rfl, by decide +kernel, rfl, by decide +kernel, by decide +kernel⟩
include cl in
theorem d24 (Fu : ig K "_law_grown" "_law_grown" XR f fd) (iW : mg "tuple" = none) (aH : az Pg w K mg base k c 16 "_law_next" 2) :
 cj Pg w K mg base gG (k + 1) f fd ["pool", "net", "plan", "last"] (ik K 4 (fun args => enter c n UJ args)) := by
 refine bW Fu Pu rfl rfl fun cdv A outer s H E hr => ?_
 have nd := Pu.nd
 refine aj ?_ ?_
 . (with_reducible refine cF ?_ ?_ ?_); exact bu gj (cV aH hr (aP (sv 0) (aP ak aC rfl) rfl)) ak (aU _); (· (with_reducible refine aj ?_ ?_); (· (with_reducible refine aN ?_); exact dH (dh (sv 1) (dh (sv 2) (dh (sv 3) aY rfl) rfl) rfl)); exact au); exact au
 with_reducible refine aj ?_ ?_
 . (with_reducible refine aM (i := 4) ?_ ?_ ?_ ?_ ?_ ?_); exact nd; exact rfl; exact oi; rotate_left; rfl; exact oi; exact aB aR ak (cV aH hr (aP (sv 0) (aP ak aC rfl) rfl))
 with_reducible refine aj ?_ ?_
 . (with_reducible refine aM (i := 5) ?_ ?_ ?_ ?_ ?_ ?_); exact nd; exact rfl; exact oi; rotate_left; rfl; exact oi; exact aB aR ak (cV aH hr (aP (sv 0) (aP (aB mG ak ak) aC rfl) rfl))
 with_reducible refine aj ?_ ?_
 . (with_reducible refine aM (i := 6) ?_ ?_ ?_ ?_ ?_ ?_); exact nd; exact rfl; exact oi; rotate_left; rfl; exact oi; exact gk aY
 with_reducible refine aj ?_ ?_
 . exact (oA PassesOwn.never hc (cO (aA (sv 1) ak)) (fY hc (aK (aF (i := 7) nd rfl (Or.inl rfl) (Or.inl rfl)) (aK (aF (i := 8) nd rfl (Or.inl rfl) (Or.inl rfl)) (aK (aF (i := 9) nd rfl (Or.inl rfl) (Or.inl rfl)) (aK (aF (i := 10) nd rfl (Or.inl rfl) (Or.inl rfl)) dD))))) (lA rfl (bK _ _ (bK _ _ (bK _ _ (bK _ _ iR 10) 9) 8) 7)) (by (with_reducible refine aj ?_ ?_); exact iw (k := 6) rfl (by first | exact Or.inl rfl | exact Or.inr (Or.inl rfl)) (dH (dh (sv 7) (dh (sv 8) (dh (aB cu (sv 9) (sv 5)) (dh (aB cu (sv 10) (sv 4)) aY rfl) rfl) rfl) rfl)); exact au))
 with_reducible refine aj ?_ ?_
 . (with_reducible refine aM (i := 11) ?_ ?_ ?_ ?_ ?_ ?_); exact nd; exact rfl; exact oi; rotate_left; rfl; exact oi; exact gk aY
 with_reducible refine aj ?_ ?_
 . exact (oA PassesOwn.never hc (cO (sv 2)) (fY hc (aK (aF (i := 12) nd rfl (Or.inl rfl) (Or.inl rfl)) (aK (aF (i := 13) nd rfl (Or.inl rfl) (Or.inl rfl)) (aK (aF (i := 14) nd rfl (Or.inl rfl) (Or.inl rfl)) dD)))) (lA rfl (bK _ _ (bK _ _ (bK _ _ iR 14) 13) 12)) (by (with_reducible refine aj ?_ ?_); exact iw (k := 11) rfl (by first | exact Or.inl rfl | exact Or.inr (Or.inl rfl)) (dH (dh (aB cu (sv 12) (sv 4)) (dh (sv 13) (dh (aB cu (sv 14) (sv 5)) aY rfl) rfl) rfl)); exact au))
 with_reducible refine aj ?_ ?_
 . (with_reducible refine aN ?_); exact dH (dh (dH (dh (aA (sv 1) ak) (dh (tZ rfl (by rfl) iW (sv 6)) aY rfl) rfl)) (dh (sv 11) (dh (aB cu (sv 3) (sv 4)) aY rfl) rfl) rfl)
 exact au
noncomputable abbrev WY := top 33
noncomputable def b25 : List S := [
 .asg 4 (.con (.int 0)), 
 .ie (.var 1) [5] true [.ifs (.and (.cmp .eq (.idx (.idx (.idx (.var 0) (.con (.int 1))) (.idx (.var 5) (.con (.int 1)))) (.con (.int 0))) (.bin .sub (.idx (.var 0) (.con (.int 0))) (.con (.int 1)))) (.cmp .le (.idx (.var 5) (.con (.int 0))) (.var 2))) [.asg 4 (.bin .add (.var 4) (.bin .mul (.idx (.var 5) (.con (.int 2))) (.blt .int [.cmp .gt (.call 20 [.var 0, .var 5]) (.var 3)])))] []], 
 .ret (.var 4)]
noncomputable def Vc : Fd := ⟨4, 6, b25⟩
theorem Pr : aO ["net", "plan", "at", "hour", "found", "triple"] ["net", "plan", "at", "hour"] (aD WY) := ⟨rfl, rfl, rfl, by decide +kernel, rfl, by decide +kernel, by decide +kernel⟩
include cl in
theorem d25 (Fu : ig K "_law_gone_on" "_law_gone_on" WY f fd) (DX : mg "int" = none) (ju : az Pg w K mg base k c 20 "_law_out" 2) :
 cj Pg w K mg base gG (k + 1) f fd ["net", "plan", "at", "hour"] (ik K 4 (fun args => enter c n Vc args)) := by
 refine bW Fu Pr rfl rfl fun cdv A outer s H E hr => ?_
 have nd := Pr.nd
 refine aj ?_ ?_
 . (with_reducible refine aM (i := 4) ?_ ?_ ?_ ?_ ?_ ?_); exact nd; exact rfl; exact oi; rotate_left; rfl; exact oi; exact ak
 with_reducible refine aj ?_ ?_
 . (with_reducible refine dI (i := 5) ?_ ?_ ?_ ?_ ?_ ?_ ?_ ?_ ?_); exact PassesOwn.never; exact hc; exact nd; exact rfl; exact oi; exact cO (sv 1); (· (with_reducible refine aj ?_ ?_); (· (with_reducible refine cF ?_ ?_ ?_); exact SW.st (rR (bu (lg (bH hr)) (aA (aA (aA (sv 0) ak) (aA (sv 5) ak)) ak) (aB gW (aA (sv 0) ak) ak) (aU _)) (mZ (bu gM (aA (sv 5) ak) (sv 2) (aU _)))); (· (with_reducible refine aj ?_ ?_); (· (with_reducible refine aM (i := 4) ?_ ?_ ?_ ?_ ?_ ?_); exact nd; exact rfl; exact oi; rotate_left; rfl; exact oi; exact aB aR (sv 4) (aB cu (aA (sv 5) ak) (G5 rfl (by rfl) DX (kZ gj (cV ju hr (aP (sv 0) (aP (sv 5) aC rfl) rfl)) (sv 3) (aU _))))); exact au); exact au); exact au); (· intro _; rfl); exact Or.inl rfl
 with_reducible refine aj ?_ ?_
 . (with_reducible refine aN ?_); exact sv 4
 exact au
noncomputable abbrev Ws := top 34
noncomputable def b26 : List S := [
 .asg 4 (.call 3 [.var 0, .var 1, .var 3]), 
 .ifs (.cmp .zH (.call 9 [.var 0, .var 3, .var 4]) (.con (.bl true))) [.ret (.con (.bl false))] [], 
 .ie (.sE (.neg (.con (.int 1))) (.con (.int 9))) [5] true [.asg 6 (.blt .min2 [.var 3, .blt .max2 [.neg (.con (.int 1)), .bin .fdiv (.bin .mul (.var 5) (.var 2)) (.con (.int 8))]]), .asg 7 (.bin .add (.call 11 [.var 0, .var 1, .var 6]) (.call 25 [.var 0, .var 1, .var 6, .var 3])), .ifs (.cmp .ne (.call 11 [.var 0, .var 4, .var 6]) (.var 7)) [.ret (.con (.bl false))] []], 
 .ret (.con (.bl true))]
noncomputable def Vd : Fd := ⟨4, 8, b26⟩
theorem Sg : aO ["net", "plan", "last", "hour", "part", "early", "at", "due"] ["net", "plan", "last", "hour"] (aD Ws) := ⟨rfl, rfl, rfl, by decide +kernel, rfl, by decide +kernel, by decide +kernel⟩
include cl in
theorem d26 (Fu : ig K "_law_part_right" "_law_part_right" Ws f fd) (ir : mg "max" = none) (qz : mg "min" = none) (aZ : mg "range" = none) (o8 : az Pg w K mg base k c 25 "_law_gone_on" 4) (bO : az Pg w K mg base k c 11 "brought_by" 3) (dN : az Pg w K mg base k c 9 "plan_right" 3) (uU : az Pg w K mg base k c 3 "plan_till" 3) :
 cj Pg w K mg base gG (k + 1) f fd ["net", "plan", "last", "hour"] (ik K 4 (fun args => enter c n Vd args)) := by
 refine bW Fu Sg rfl rfl fun cdv A outer s H E hr => ?_
 have nd := Sg.nd
 refine aj ?_ ?_
 . (with_reducible refine aM (i := 4) ?_ ?_ ?_ ?_ ?_ ?_); exact nd; exact rfl; exact oi; rotate_left; rfl; exact oi; exact cV uU hr (aP (sv 0) (aP (sv 1) (aP (sv 3) aC rfl) rfl) rfl)
 with_reducible refine aj ?_ ?_
 . (with_reducible refine cF ?_ ?_ ?_); exact bu ni (cV dN hr (aP (sv 0) (aP (sv 3) (aP (sv 4) aC rfl) rfl) rfl)) cU (aU _); (· (with_reducible refine aj ?_ ?_); (· (with_reducible refine aN ?_); exact cU); exact au); exact au
 with_reducible refine aj ?_ ?_
 . (with_reducible refine dI (i := 5) ?_ ?_ ?_ ?_ ?_ ?_ ?_ ?_ ?_); exact PassesOwn.never; exact hc; exact nd; exact rfl; exact oi; exact jy rfl (by rfl) aZ (jm ak) ak; (· (with_reducible refine aj ?_ ?_); (· (with_reducible refine aM (i := 6) ?_ ?_ ?_ ?_ ?_ ?_); exact nd; exact rfl; exact oi; rotate_left; rfl; exact oi; exact yo rfl hc (by rfl) qz (dh (sv 3) (dh (mR rfl hc (by rfl) ir (dh (jm ak) (dh (aB gA (aB cu (sv 5) (sv 2)) ak) aY rfl) rfl)) aY rfl) rfl)); (· (with_reducible refine aj ?_ ?_); (· (with_reducible refine aM (i := 7) ?_ ?_ ?_ ?_ ?_ ?_); exact nd; exact rfl; exact oi; rotate_left; rfl; exact oi; exact aB aR (cV bO hr (aP (sv 0) (aP (sv 1) (aP (sv 6) aC rfl) rfl) rfl)) (cV o8 hr (aP (sv 0) (aP (sv 1) (aP (sv 6) (aP (sv 3) aC rfl) rfl) rfl) rfl))); (· (with_reducible refine aj ?_ ?_); (· (with_reducible refine cF ?_ ?_ ?_); exact bu (nF (bH hr)) (cV bO hr (aP (sv 0) (aP (sv 4) (aP (sv 6) aC rfl) rfl) rfl)) (sv 7) (aU _); (· (with_reducible refine aj ?_ ?_); (· (with_reducible refine aN ?_); exact cU); exact au); exact au); exact au))); (· intro _; rfl); exact Or.inl rfl
 with_reducible refine aj ?_ ?_
 . (with_reducible refine aN ?_); exact cU
 exact au
noncomputable abbrev Ww := top 35
noncomputable def b27 : List S := [
 .asg 4 (.call 1 [.var 1, .var 3]), 
 .ifs (.cmp .zH (.call 9 [.var 0, .bin .add (.var 2) (.var 3), .var 4]) (.con (.bl true))) [.ret (.con (.bl false))] [], 
 .ie (.sE (.neg (.con (.int 1))) (.con (.int 9))) [5] true [.asg 6 (.blt .max2 [.neg (.con (.int 1)), .bin .fdiv (.bin .mul (.var 5) (.var 2)) (.con (.int 8))]), .ifs (.cmp .ne (.call 11 [.var 0, .var 4, .bin .add (.var 6) (.var 3)]) (.call 11 [.var 0, .var 1, .var 6])) [.ret (.con (.bl false))] [], .ifs (.cmp .ne (.call 12 [.var 0, .var 4, .bin .add (.var 6) (.var 3)]) (.call 12 [.var 0, .var 1, .var 6])) [.ret (.con (.bl false))] []], 
 .ret (.con (.bl true))]
noncomputable def T9 : Fd := ⟨4, 7, b27⟩
theorem Ql : aO ["net", "plan", "last", "by", "off", "part", "at"] ["net", "plan", "last", "by"] (aD Ww) := ⟨rfl, rfl, rfl, by decide +kernel, rfl, by decide +kernel, by decide +kernel⟩
include cl in
theorem d27 (Fu : ig K "_law_later_right" "_law_later_right" Ww f fd) (ir : mg "max" = none) (aZ : mg "range" = none) (bO : az Pg w K mg base k c 11 "brought_by" 3) (rW : az Pg w K mg base k c 1 "later_plan" 2) (dN : az Pg w K mg base k c 9 "plan_right" 3) (dz : az Pg w K mg base k c 12 "sent_from" 3) :
 cj Pg w K mg base gG (k + 1) f fd ["net", "plan", "last", "by"] (ik K 4 (fun args => enter c n T9 args)) := by
 refine bW Fu Ql rfl rfl fun cdv A outer s H E hr => ?_
 have nd := Ql.nd
 refine aj ?_ ?_
 . (with_reducible refine aM (i := 4) ?_ ?_ ?_ ?_ ?_ ?_); exact nd; exact rfl; exact oi; rotate_left; rfl; exact oi; exact cV rW hr (aP (sv 1) (aP (sv 3) aC rfl) rfl)
 with_reducible refine aj ?_ ?_
 . (with_reducible refine cF ?_ ?_ ?_); exact bu ni (cV dN hr (aP (sv 0) (aP (aB aR (sv 2) (sv 3)) (aP (sv 4) aC rfl) rfl) rfl)) cU (aU _); (· (with_reducible refine aj ?_ ?_); (· (with_reducible refine aN ?_); exact cU); exact au); exact au
 with_reducible refine aj ?_ ?_
 . (with_reducible refine dI (i := 5) ?_ ?_ ?_ ?_ ?_ ?_ ?_ ?_ ?_); exact PassesOwn.never; exact hc; exact nd; exact rfl; exact oi; exact jy rfl (by rfl) aZ (jm ak) ak; (· (with_reducible refine aj ?_ ?_); (· (with_reducible refine aM (i := 6) ?_ ?_ ?_ ?_ ?_ ?_); exact nd; exact rfl; exact oi; rotate_left; rfl; exact oi; exact mR rfl hc (by rfl) ir (dh (jm ak) (dh (aB gA (aB cu (sv 5) (sv 2)) ak) aY rfl) rfl)); (· (with_reducible refine aj ?_ ?_); (· (with_reducible refine cF ?_ ?_ ?_); exact bu (nF (bH hr)) (cV bO hr (aP (sv 0) (aP (sv 4) (aP (aB aR (sv 6) (sv 3)) aC rfl) rfl) rfl)) (cV bO hr (aP (sv 0) (aP (sv 1) (aP (sv 6) aC rfl) rfl) rfl)) (aU _); (· (with_reducible refine aj ?_ ?_); (· (with_reducible refine aN ?_); exact cU); exact au); exact au); (· (with_reducible refine aj ?_ ?_); (· (with_reducible refine cF ?_ ?_ ?_); exact bu (nF (bH hr)) (cV dz hr (aP (sv 0) (aP (sv 4) (aP (aB aR (sv 6) (sv 3)) aC rfl) rfl) rfl)) (cV dz hr (aP (sv 0) (aP (sv 1) (aP (sv 6) aC rfl) rfl) rfl)) (aU _); (· (with_reducible refine aj ?_ ?_); (· (with_reducible refine aN ?_); exact cU); exact au); exact au); exact au))); (· intro _; rfl); exact Or.inl rfl
 with_reducible refine aj ?_ ?_
 . (with_reducible refine aN ?_); exact cU
 exact au
noncomputable abbrev Yu := top 36
noncomputable def b28 : List S := [
 .asg 4 (.var 0), 
 .ie (.sE (.con (.int 0)) (.blt .len [.idx (.var 0) (.con (.int 1))])) [5] true [.asg 4 (.call 14 [.var 4, .var 5, .bin .mul (.con (.int 2)) (.idx (.idx (.idx (.var 0) (.con (.int 1))) (.var 5)) (.con (.int 2)))])], 
 .asg 6 (.call 0 [.var 1, .var 2]), 
 .ifs (.cmp .zH (.call 9 [.var 4, .var 3, .var 6]) (.con (.bl true))) [.ret (.con (.bl false))] [], 
 .ie (.sE (.neg (.con (.int 1))) (.con (.int 9))) [7] true [.asg 8 (.blt .max2 [.neg (.con (.int 1)), .bin .fdiv (.bin .mul (.var 7) (.var 3)) (.con (.int 8))]), .asg 9 (.bin .add (.call 11 [.var 4, .var 1, .var 8]) (.call 11 [.var 4, .var 2, .var 8])), .ifs (.cmp .ne (.call 11 [.var 4, .var 6, .var 8]) (.var 9)) [.ret (.con (.bl false))] [], .asg 9 (.bin .add (.call 12 [.var 4, .var 1, .var 8]) (.call 12 [.var 4, .var 2, .var 8])), .ifs (.cmp .ne (.call 12 [.var 4, .var 6, .var 8]) (.var 9)) [.ret (.con (.bl false))] []], 
 .ret (.con (.bl true))]
noncomputable def Ve : Fd := ⟨4, 10, b28⟩
theorem RV : aO ["net", "one", "other", "last", "wide", "way", "both", "part", "at", "due"] ["net", "one", "other", "last"] (aD Yu) := ⟨rfl, rfl, rfl, by decide +kernel, rfl, by decide +kernel, by decide +kernel⟩
include cl in
theorem d28 (Fu : ig K "_law_both_right" "_law_both_right" Yu f fd) (fG : mg "len" = none) (ir : mg "max" = none) (aZ : mg "range" = none) (bO : az Pg w K mg base k c 11 "brought_by" 3) (rY : az Pg w K mg base k c 0 "laid_plans" 2) (dN : az Pg w K mg base k c 9 "plan_right" 3) (dz : az Pg w K mg base k c 12 "sent_from" 3) (uV : az Pg w K mg base k c 14 "with_room" 3) :
 cj Pg w K mg base gG (k + 1) f fd ["net", "one", "other", "last"] (ik K 4 (fun args => enter c n Ve args)) := by
 refine bW Fu RV rfl rfl fun cdv A outer s H E hr => ?_
 have nd := RV.nd
 refine aj ?_ ?_
 . (with_reducible refine aM (i := 4) ?_ ?_ ?_ ?_ ?_ ?_); exact nd; exact rfl; exact oi; rotate_left; rfl; exact oi; exact sv 0
 with_reducible refine aj ?_ ?_
 . (with_reducible refine dI (i := 5) ?_ ?_ ?_ ?_ ?_ ?_ ?_ ?_ ?_); exact PassesOwn.never; exact hc; exact nd; exact rfl; exact oi; exact jZ rfl (by rfl) aZ (lE rfl (by rfl) fG (aA (sv 0) ak)); (· (with_reducible refine aj ?_ ?_); (· (with_reducible refine aM (i := 4) ?_ ?_ ?_ ?_ ?_ ?_); exact nd; exact rfl; exact oi; rotate_left; rfl; exact oi; exact cV uV hr (aP (sv 4) (aP (sv 5) (aP (aB cu ak (aA (aA (aA (sv 0) ak) (sv 5)) ak)) aC rfl) rfl) rfl)); exact au); (· intro _; rfl); exact Or.inl rfl
 with_reducible refine aj ?_ ?_
 . (with_reducible refine aM (i := 6) ?_ ?_ ?_ ?_ ?_ ?_); exact nd; exact rfl; exact oi; rotate_left; rfl; exact oi; exact cV rY hr (aP (sv 1) (aP (sv 2) aC rfl) rfl)
 with_reducible refine aj ?_ ?_
 . (with_reducible refine cF ?_ ?_ ?_); exact bu ni (cV dN hr (aP (sv 4) (aP (sv 3) (aP (sv 6) aC rfl) rfl) rfl)) cU (aU _); (· (with_reducible refine aj ?_ ?_); (· (with_reducible refine aN ?_); exact cU); exact au); exact au
 with_reducible refine aj ?_ ?_
 . (with_reducible refine dI (i := 7) ?_ ?_ ?_ ?_ ?_ ?_ ?_ ?_ ?_); exact PassesOwn.never; exact hc; exact nd; exact rfl; exact oi; exact jy rfl (by rfl) aZ (jm ak) ak; (· (with_reducible refine aj ?_ ?_); (· (with_reducible refine aM (i := 8) ?_ ?_ ?_ ?_ ?_ ?_); exact nd; exact rfl; exact oi; rotate_left; rfl; exact oi; exact mR rfl hc (by rfl) ir (dh (jm ak) (dh (aB gA (aB cu (sv 7) (sv 3)) ak) aY rfl) rfl)); (· (with_reducible refine aj ?_ ?_); (· (with_reducible refine aM (i := 9) ?_ ?_ ?_ ?_ ?_ ?_); exact nd; exact rfl; exact oi; rotate_left; rfl; exact oi; exact aB aR (cV bO hr (aP (sv 4) (aP (sv 1) (aP (sv 8) aC rfl) rfl) rfl)) (cV bO hr (aP (sv 4) (aP (sv 2) (aP (sv 8) aC rfl) rfl) rfl))); (· (with_reducible refine aj ?_ ?_); (· (with_reducible refine cF ?_ ?_ ?_); exact bu (nF (bH hr)) (cV bO hr (aP (sv 4) (aP (sv 6) (aP (sv 8) aC rfl) rfl) rfl)) (sv 9) (aU _); (· (with_reducible refine aj ?_ ?_); (· (with_reducible refine aN ?_); exact cU); exact au); exact au); (· (with_reducible refine aj ?_ ?_); (· (with_reducible refine aM (i := 9) ?_ ?_ ?_ ?_ ?_ ?_); exact nd; exact rfl; exact oi; rotate_left; rfl; exact oi; exact aB aR (cV dz hr (aP (sv 4) (aP (sv 1) (aP (sv 8) aC rfl) rfl) rfl)) (cV dz hr (aP (sv 4) (aP (sv 2) (aP (sv 8) aC rfl) rfl) rfl))); (· (with_reducible refine aj ?_ ?_); (· (with_reducible refine cF ?_ ?_ ?_); exact bu (nF (bH hr)) (cV dz hr (aP (sv 4) (aP (sv 6) (aP (sv 8) aC rfl) rfl) rfl)) (sv 9) (aU _); (· (with_reducible refine aj ?_ ?_); (· (with_reducible refine aN ?_); exact cU); exact au); exact au); exact au))))); (· intro _; rfl); exact Or.inl rfl
 with_reducible refine aj ?_ ?_
 . (with_reducible refine aN ?_); exact cU
 exact au
noncomputable abbrev Ye := top 37
noncomputable def b29 : List S := [
 .ie (.bin .add (.lst [.con (.int 0)]) (.call 17 [.var 0, .con (.int 8)])) [1] true [.asg 2 (.call 15 [.var 1]), .asg 3 (.call 19 [.var 2]), .asg 4 (.bin .add (.con (.int 1)) (.call 16 [.var 2, .con (.int 8)])), .asg 5 (.call 23 [.var 2, .var 3, .var 4, .con (.int 30)]), .asg 6 (.call 23 [.var 2, .var 3, .var 4, .con (.int 30)]), .ifs (.not (.call 28 [.var 3, .var 5, .var 6, .var 4])) [.ret (.con (.bl false))] [], .Vw [7, 8, 9] (.call 24 [.var 2, .var 3, .var 5, .var 4]), .ie (.sE (.con (.int 0)) (.con (.int 9))) [10] true [.ifs (.not (.call 26 [.var 7, .var 8, .var 9, .bin .fdiv (.bin .mul (.var 10) (.var 9)) (.con (.int 8))])) [.ret (.con (.bl false))] []], .asg 11 (.idx (.lst [.call 16 [.var 2, .con (.int 10)], .call 16 [.var 2, .bin .pow (.con (.int 10)) (.con (.int 12))]]) (.call 16 [.var 2, .con (.int 2)])), .ifs (.not (.call 27 [.var 7, .var 8, .var 9, .var 11])) [.ret (.con (.bl false))] []], 
 .ret (.con (.bl true))]
noncomputable def UG : Fd := ⟨1, 12, b29⟩
theorem R3 : aO ["script", "cell", "pool", "first", "hours", "one", "other", "net", "plan", "last", "part", "by"] ["script"] (aD Ye) := ⟨rfl, rfl, rfl, by decide +kernel, rfl, by decide +kernel, by decide +kernel⟩
include cl in
theorem Zy (Fu : ig K "law" "law" Ye f fd) (aZ : mg "range" = none) (j5 : az Pg w K mg base k c 28 "_law_both_right" 4) (rZ : az Pg w K mg base k c 17 "_law_cells" 2) (sr : az Pg w K mg base k c 24 "_law_grown" 4) (jw : az Pg w K mg base k c 27 "_law_later_right" 4) (wN : az Pg w K mg base k c 19 "_law_net" 1) (aH : az Pg w K mg base k c 16 "_law_next" 2) (j6 : az Pg w K mg base k c 26 "_law_part_right" 4) (lU : az Pg w K mg base k c 23 "_law_plan" 4) (uW : az Pg w K mg base k c 15 "_law_pool" 1) :
 cj Pg w K mg base gG (k + 1) f fd ["script"] (ik K 1 (fun args => enter c n UG args)) := by
 refine bW Fu R3 rfl rfl fun cdv A outer s H E hr => ?_
 have nd := R3.nd
 refine aj ?_ ?_
 . (with_reducible refine dI (i := 1) ?_ ?_ ?_ ?_ ?_ ?_ ?_ ?_ ?_); exact PassesOwn.never; exact hc; exact nd; exact rfl; exact oi; exact cO (aB aR (gk (dh ak aY rfl)) (cV rZ hr (aP (sv 0) (aP ak aC rfl) rfl))); (· (with_reducible refine aj ?_ ?_); (· (with_reducible refine aM (i := 2) ?_ ?_ ?_ ?_ ?_ ?_); exact nd; exact rfl; exact oi; rotate_left; rfl; exact oi; exact cV uW hr (aP (sv 1) aC rfl)); (· (with_reducible refine aj ?_ ?_); (· (with_reducible refine aM (i := 3) ?_ ?_ ?_ ?_ ?_ ?_); exact nd; exact rfl; exact oi; rotate_left; rfl; exact oi; exact cV wN hr (aP (sv 2) aC rfl)); (· (with_reducible refine aj ?_ ?_); (· (with_reducible refine aM (i := 4) ?_ ?_ ?_ ?_ ?_ ?_); exact nd; exact rfl; exact oi; rotate_left; rfl; exact oi; exact aB aR ak (cV aH hr (aP (sv 2) (aP ak aC rfl) rfl))); (· (with_reducible refine aj ?_ ?_); (· (with_reducible refine aM (i := 5) ?_ ?_ ?_ ?_ ?_ ?_); exact nd; exact rfl; exact oi; rotate_left; rfl; exact oi; exact cV lU hr (aP (sv 2) (aP (sv 3) (aP (sv 4) (aP ak aC rfl) rfl) rfl) rfl)); (· (with_reducible refine aj ?_ ?_); (· (with_reducible refine aM (i := 6) ?_ ?_ ?_ ?_ ?_ ?_); exact nd; exact rfl; exact oi; rotate_left; rfl; exact oi; exact cV lU hr (aP (sv 2) (aP (sv 3) (aP (sv 4) (aP ak aC rfl) rfl) rfl) rfl)); (· (with_reducible refine aj ?_ ?_); (· (with_reducible refine cF ?_ ?_ ?_); exact jt (kY (cV j5 hr (aP (sv 3) (aP (sv 5) (aP (sv 6) (aP (sv 4) aC rfl) rfl) rfl) rfl))); (· (with_reducible refine aj ?_ ?_); (· (with_reducible refine aN ?_); exact cU); exact au); exact au); (· (with_reducible refine aj ?_ ?_); exact Ca (cV sr hr (aP (sv 2) (aP (sv 3) (aP (sv 5) (aP (sv 4) aC rfl) rfl) rfl) rfl)) (fY hc (aK (aF (i := 7) nd rfl (Or.inl rfl) (Or.inl rfl)) (aK (aF (i := 8) nd rfl (Or.inl rfl) (Or.inl rfl)) (aK (aF (i := 9) nd rfl (Or.inl rfl) (Or.inl rfl)) dD)))) (lA rfl (bK _ _ (bK _ _ (bK _ _ iR 9) 8) 7)); (· (with_reducible refine aj ?_ ?_); (· (with_reducible refine dI (i := 10) ?_ ?_ ?_ ?_ ?_ ?_ ?_ ?_ ?_); exact PassesOwn.never; exact hc; exact nd; exact rfl; exact oi; exact jZ rfl (by rfl) aZ ak; (· (with_reducible refine aj ?_ ?_); (· (with_reducible refine cF ?_ ?_ ?_); exact jt (kY (cV j6 hr (aP (sv 7) (aP (sv 8) (aP (sv 9) (aP (aB gA (aB cu (sv 10) (sv 9)) ak) aC rfl) rfl) rfl) rfl))); (· (with_reducible refine aj ?_ ?_); (· (with_reducible refine aN ?_); exact cU); exact au); exact au); exact au); (· intro _; rfl); exact oi); (· (with_reducible refine aj ?_ ?_); (· (with_reducible refine aM (i := 11) ?_ ?_ ?_ ?_ ?_ ?_); exact nd; exact rfl; exact oi; rotate_left; rfl; exact oi; exact aA (gk (dh (cV aH hr (aP (sv 2) (aP ak aC rfl) rfl)) (dh (cV aH hr (aP (sv 2) (aP (aB mG ak ak) aC rfl) rfl)) aY rfl) rfl)) (cV aH hr (aP (sv 2) (aP ak aC rfl) rfl))); (· (with_reducible refine aj ?_ ?_); (· (with_reducible refine cF ?_ ?_ ?_); exact jt (kY (cV jw hr (aP (sv 7) (aP (sv 8) (aP (sv 9) (aP (sv 11) aC rfl) rfl) rfl) rfl))); (· (with_reducible refine aj ?_ ?_); (· (with_reducible refine aN ?_); exact cU); exact au); exact au); exact au)))))))))); (· intro _; rfl); exact Or.inl rfl
 with_reducible refine aj ?_ ?_
 . (with_reducible refine aN ?_); exact cU
 exact au
end T
end
section
namespace T
open PySem L2 PySem.Spec PyProof.Rows HH
noncomputable def Γ : Tab := fun i => [f0, f1, f2, f3, f4, f5, f6, f7, f8, f9, QJ, f11, Rv, Ue, Vm, Vj, TX, Vn, Uq, Ua, Ug, U5, Ud, TY, UJ, Vc, Vd, T9, Ve, UG][i]?
end T
end
section
namespace T
open HH
noncomputable abbrev big : Int := 1606938044258990275541962092341162602522202993782792835301376
theorem bw {w n : Nat} {x y z m : Int} {Q : R -> List Sl -> Prop} (h0 : 0 < m) (h2 : m < big) (k : ∀ d x z : Int, 0 <= d -> d < m -> Q (.val (.int d)) [.own true [.int x, .int y, .int z], .val false (.int m)]) :
 (run Γ w (n + 1) 16 [.own true [.int x, .int y, .int z], .val false (.int m)]).sat Q := by
 have h3 : m < 1606938044258990275541962092341162602522202993782792835301376 := h2
 refine aX (d := TX) rfl rfl (by decide) ?_
 first|apply aa|apply aq
 simp [TX]
 constructor
 . intro _
   first|apply aa|apply aq
   simp [h0]
   apply aa
   simp [h0, h3, jx]
   apply aa
   simp
   exact k _ _ _ (Int.emod_nonneg _ (by omega)) (Int.emod_lt_of_pos _ h0)
 . intro _
   first|apply aa|apply aq
   simp [jx]
   apply aa
   simp
   generalize hq : (y + 7919 * (z + 1)) % 1000000007 = q
   have q0 : 0 <= q /\ q < 1000000007 := by omega
   have q1 : -18446744073709551616 < q + 11 /\ q + 11 < 18446744073709551616 := by omega
   first|apply aa|apply aq
   simp [q1]
   generalize hs : (q + 11) * (q + 48271) % 998244353 = st
   have q2 : -18446744073709551616 < st /\ st < 18446744073709551616 := by omega
   first|apply aa|apply aq
   simp [q2, h0]
   exact k _ _ _ (Int.emod_nonneg _ (by omega)) (Int.emod_lt_of_pos _ h0)
theorem Ak {w n : Nat} {x : Int} {Q : R -> List Sl -> Prop} (k : ∀ a b c : Int, Q (.own [.int a, .int b, .int c]) [.val false (.int x)]) : (run Γ w (n + 1) 15 [.val false (.int x)]).sat Q := by
 refine aX (d := Vj) rfl rfl (by decide) ?_
 first|apply aa|apply aq
 simp [Vj]
 exact k _ _ _
end T
end
section
namespace T
open HH
theorem vz {cs : List Int} {k m : Nat} {x : Int} (hm : 0 < m) (hl : cs.length = m) : ∃ c : Int, at' (cs.map D.int) ((k : Int) % (m : Int)) = some (.int c) /\ jx (cs.map D.int).length ((k : Int) % (m : Int)) = some (k % m) := by
 have h : k % m < cs.length := by rw [hl]; exact Nat.mod_lt _ hm
 rw [show (k : Int) % (m : Int) = ((k % m : Nat) : Int) by simp]
 exact ⟨cs[k % m], Ai (by simp [h]), Mh (by simpa using h)⟩
inductive JC (ns : List Int) (m : Nat) (_ : Nat) (ρ : List Sl) : Prop where
 | mk (cs : List Int) (s : Sl) (q0 : ρ = [.val false (.lst (ns.map D.int)), .val false (.int m), .own false (cs.map D.int), s]) (q1 : fr s = true) (q2 : cs.length = min m ns.length)
theorem yJ {w n m : Nat} {ns : List Int} {Q : R -> List Sl -> Prop} (hm : 0 < m) (hm2 : m <= 63) (hn : ns.length <= 63) (k : ∀ cs : List Int, cs.length <= m -> Q (.own (cs.map D.int)) [.val false (.lst (ns.map D.int)), .val false (.int m)]) :
 (run Γ w (n + 1) 17 [.val false (.lst (ns.map D.int)), .val false (.int m)]).sat Q := by
 refine aX (d := Vn) rfl rfl (by decide) ?_
 first|apply aa|apply aq
 simp [Vn, JD, part, Br]
 apply aa
 simp
 refine ⟨by omega, ?_⟩
 refine eZ (JC ns m) ?_ ?_ ⟨ns.take m, .aV, ?_, rfl, by simp⟩
 . rintro i _ hi ⟨cs, s, rfl, hs, hl⟩
   have hl2 : cs.length = m := by omega
   obtain ⟨c, e1, e2⟩ := vz (cs := cs) (k := i) (x := 0) hm hl2
   obtain ⟨x, hx⟩ : ∃ x : Int, at' (ns.map D.int) ((m : Int) + (i : Int)) = some (.int x) := by
    rw [show (m : Int) + (i : Int) = ((m + i : Nat) : Int) by simp]
    exact ⟨ns[m + i]'(by omega), Ai (by simp)⟩
   simp [hs]
   apply aa
   rw [List.length_map] at e2
   simp [hm, e1, e2, hx]
   exact ⟨cs.set (i % m) (c * 31 + x), .val false (.int (m + i)), by simp, rfl, by simpa using hl⟩
 . rintro _ ⟨cs, s, rfl, hs, hl⟩
   first|apply aa|apply aq
   simp
   exact k cs (by omega)
 . simp [cut, cN, List.map_take]
theorem vy {w n m : Nat} {M : Int} {ns : List Int} {Q : R -> List Sl -> Prop} (hM : M = (m : Int)) (hm : 0 < m) (hm2 : m <= 63) (hn : ns.length <= 63) (k : ∀ cs : List Int, cs.length <= m -> Q (.own (cs.map D.int)) [.val false (.lst (ns.map D.int)), .val false (.int M)]) :
 (run Γ w (n + 1) 17 [.val false (.lst (ns.map D.int)), .val false (.int M)]).sat Q := by
 subst hM; exact yJ hm hm2 hn k
end T
end
section
namespace T
open HH
structure Wy where
 (s t r h : Int)
noncomputable def Wy.d (w : Wy) : D := .tup [.int w.s, .int w.t, .int w.r, .int w.h]
structure Wy.Ok (m : Int) (w : Wy) : Prop where
 s0 : 0 <= w.s
 s1 : w.s < m
 t0 : 0 <= w.t
 t1 : w.t < m
 ne : w.s ≠ w.t
 r0 : 0 <= w.r
 r1 : w.r <= 1000000000
 h0 : 1 <= w.h
 h1 : w.h <= 1000000
theorem other {a b m : Int} (h1 : 0 <= a) (h2 : a < m) (h3 : 0 <= b) (h4 : b < m - 1) : 0 <= (a + 1 + b) % m /\ (a + 1 + b) % m < m /\ (a + 1 + b) % m ≠ a := by
 by_cases h : a + 1 + b < m
 . rw [Int.emod_eq_of_lt (by omega) h]; omega
 . have e : (a + 1 + b) % m = a + 1 + b - m := by
    rw [<- Int.sub_emod_right, Int.emod_eq_of_lt (by omega) (by omega)]
   rw [e]; omega
theorem V5 (w : Wy) : dR 7 w.d = true := rfl
theorem TF {ds : List D} {k : Nat} (h : ∀ d ∈ ds, dR k d = true) : dR (k + 1) (.lst ds) = true := by rw [dR]; exact List.all_eq_true.mpr h
theorem RN {ds : List D} {k : Nat} (h : ∀ d ∈ ds, dR k d = true) : dR (k + 1) (.tup ds) = true := by rw [dR]; exact List.all_eq_true.mpr h
noncomputable def bj (m : Int) (ws : List Wy) : D := .tup [.int m, .tup (ws.map Wy.d)]
structure iD (m : Int) (ws : List Wy) : Prop where
 m0 : 2 <= m
 m1 : m <= 6
 len : ws.length <= 12
 ok : ∀ w ∈ ws, w.Ok m
@[simp] theorem ZR {m : Int} {ws : List Wy} : uX (bj m ws) (.int 0) = some (.val (.int m)) := rfl
@[simp] theorem aae {m : Int} {ws : List Wy} : uX (bj m ws) (.int 1) = some (.val (.tup (ws.map Wy.d))) := rfl
end T
end
section
namespace T
open HH
theorem xT {ns : List Int} {i lo hi : Int} (h0 : 0 <= i) (h1 : i < (ns.length : Int)) (k : ∀ x ∈ ns, lo <= x /\ x <= hi) : ∃ r, at' (ns.map D.int) i = some (.int r) /\ lo <= r /\ r <= hi := by
 have hk : i.toNat < ns.length := by omega
 refine ⟨ns[i.toNat], ?_, k _ (List.getElem_mem hk)⟩
 rw [qM h0 (by simpa using h1)]
 simp [hk]
theorem wj {a : Int} (h : a <= 1000000000000000000000) : a < big := by show _ < (1606938044258990275541962092341162602522202993782792835301376 : Int); omega
noncomputable abbrev Po (b : Bool) (x y z : Int) : Sl := .own b [.int x, .int y, .int z]
theorem Fg {w n : Nat} {x y z m p : Int} {Q : R -> List Sl -> Prop} (h0 : 2 <= m) (h2 : m <= 6) (p0 : 0 <= p)
 (k : ∀ (v : Wy) (x z : Int), v.Ok m -> v.r <= 9 -> v.h <= 4 -> Q (.val v.d) [.own true [.int x, .int y, .int z], .val false (.int m), .val false (.int p)]) :
 (run Γ w (n + 2) 18 [.own true [.int x, .int y, .int z], .val false (.int m), .val false (.int p)]).sat Q := by
 refine aX (d := Uq) rfl rfl (by decide) ?_
 first|apply aa|apply aq
 simp [Uq]
 refine bw (by omega) (wj (by omega)) fun a x z ha1 ha2 => ?_
 simp
 apply aa
 simp
 refine bw (by omega) (wj (by omega)) fun b x z hb1 hb2 => ?_
 obtain ⟨t0, t1, tn⟩ := other ha1 ha2 hb1 hb2
 simp [show 0 < m by omega]
 generalize (a + 1 + b) % m = t at *
 refine iT (fun ρ => ∃ x z s t, ρ = [.own true [.int x, .int y, .int z], .val false (.int m), .val false (.int p), .val false (.int s), .val false (.int t), .aV] /\ 0 <= s /\ s < m /\ 0 <= t /\ t < m /\ s ≠ t) ?_ ?_
 . by_cases hp : p + 1 < m
   . simp [hp]
     refine bw (by decide) (by decide) fun c x z _ _ => ?_
     simp
     refine ⟨fun _ => ?_, fun _ => ?_⟩
     . first|apply aa|apply aq
       simp
       exact ⟨_, _, _, _, ⟨⟨rfl, rfl⟩, rfl, rfl⟩, by omega⟩
     . first|apply aa|apply aq
       by_cases hab : t < a
       . simp [hab]
         refine bw (by decide) (by decide) fun c x z _ _ => ?_
         simp
         refine ⟨fun _ => ?_, fun _ => ?_⟩
         . first|apply aa|apply aq
           simp
           exact ⟨_, _, _, _, ⟨⟨rfl, rfl⟩, rfl, rfl⟩, by omega⟩
         . exact ⟨_, _, _, _, ⟨⟨rfl, rfl⟩, rfl, rfl⟩, by omega⟩
       . simp [hab]
         exact ⟨_, _, _, _, ⟨⟨rfl, rfl⟩, rfl, rfl⟩, by omega⟩
   . simp [hp]
     first|apply aa|apply aq
     by_cases hab : t < a
     . simp [hab]
       refine bw (by decide) (by decide) fun c x z _ _ => ?_
       simp
       refine ⟨fun _ => ?_, fun _ => ?_⟩
       . first|apply aa|apply aq
         simp
         exact ⟨_, _, _, _, ⟨⟨rfl, rfl⟩, rfl, rfl⟩, by omega⟩
       . exact ⟨_, _, _, _, ⟨⟨rfl, rfl⟩, rfl, rfl⟩, by omega⟩
     . simp [hab]
       exact ⟨_, _, _, _, ⟨⟨rfl, rfl⟩, rfl, rfl⟩, by omega⟩
 rintro _ ⟨x, z, s, t, rfl, s0, s1, t0, t1, ne⟩
 first|apply aa|apply aq
 simp
 refine bw (by decide) (by decide) fun c x z c0 c1 => ?_
 simp
 refine bw (by decide) (by decide) fun d x z d0 d1 => ?_
 obtain ⟨r, e, r0, r1⟩ := xT (ns := [1, 2, 3, 5, 0, 1, 4, 1 + c]) (lo := 0) (hi := 9) d0 (by simpa using d1) (by simp; omega)
 simp only [List.map_cons, List.map_nil] at e
 simp [e]
 apply aa
 simp
 refine bw (by decide) (by decide) fun d x z d0 d1 => ?_
 obtain ⟨h, e, h0', h1⟩ := xT (ns := [1, 1, 1, 2, 2, 3, 1, 4]) (lo := 1) (hi := 4) d0 (by simpa using d1) (by simp)
 simp only [List.map_cons, List.map_nil] at e
 simp [e]
 exact k ⟨s, t, r, h⟩ x z ⟨s0, s1, t0, t1, ne, r0, by show r <= _; omega, h0', by show h <= _; omega⟩ r1 h1
inductive FN (y m c : Int) (ρ : List Sl) : Prop where
 | mk (x z : Int) (s : Sl) (q0 : ρ = [.own true [.int x, .int y, .int z], .val false (.int m), .val false (.int c), s]) (q1 : fr s = true)
noncomputable def ZM (m : Int) (d : D) : Prop := ∃ v : Wy, d = v.d /\ v.Ok m /\ v.r <= 9 /\ v.h <= 4
theorem Zu {m : Int} : ∀ {xs : List D}, (∀ x ∈ xs, ZM m x) -> ∃ ws : List Wy, xs = ws.map Wy.d /\ ∀ v ∈ ws, v.Ok m /\ v.r <= 9 /\ v.h <= 4
 | [], _ => ⟨[], rfl, by simp⟩
 | x :: xs, h => by
   obtain ⟨v, rfl, h1⟩ := h x (by simp)
   obtain ⟨ws, rfl, h2⟩ := Zu (m := m) (xs := xs) fun y hy => h y (by simp [hy])
   exact ⟨v :: ws, rfl, fun u hu => by
    rcases List.mem_cons.mp hu with rfl | hu
    . exact h1
    . exact h2 u hu⟩
theorem Ft {w n : Nat} {x y z : Int} {Q : R -> List Sl -> Prop} (k : ∀ (m : Int) (ws : List Wy) (x z : Int), iD m ws -> (∀ v ∈ ws, v.r <= 9 /\ v.h <= 4) -> Q (.val (bj m ws)) [.own true [.int x, .int y, .int z]]) :
 (run Γ w (n + 3) 19 [.own true [.int x, .int y, .int z]]).sat Q := by
 refine aX (d := Ua) rfl rfl (by decide) ?_
 first|apply aa|apply aq
 simp [Ua]
 refine bw (by decide) (by decide) fun d x z d0 d1 => ?_
 obtain ⟨m, e, m0, m1⟩ := xT (ns := [3, 4, 3, 4, 2, 5, 6, 4]) (lo := 2) (hi := 6) d0 (by simpa using d1) (by simp)
 simp only [List.map_cons, List.map_nil] at e
 simp [e]
 apply aa
 simp
 refine bw (by decide) (by decide) fun d x z d0 d1 => ?_
 obtain ⟨c, e, c0, c1⟩ := xT (ns := [5, 3, 4, 6, 2, 7, 8, 10, 12, 1, 0, 5]) (lo := 0) (hi := 12) d0 (by simpa using d1) (by simp)
 simp only [List.map_cons, List.map_nil] at e
 simp [e]
 apply aa
 simp
 refine ⟨by omega, fun _ => ?_, by show _ <= 16777216; omega⟩
 refine yG (FN y m c) (ZM m) ⟨x, z, .aV, rfl, rfl⟩ ?_ ?_
 . rintro d hd _ ⟨x, z, s, rfl, hs⟩
   obtain ⟨j, _, rfl⟩ := List.mem_map.mp hd
   simp [hs]
   refine Fg m0 m1 (by omega) fun v x z hv hr hh => ?_
   simp
   exact ⟨⟨v, rfl, hv, hr, hh⟩, _, _, _, rfl, rfl⟩
 . rintro xs _ ⟨x, z, s, rfl, hs⟩ hl hx
   obtain ⟨ws, rfl, hw⟩ := Zu hx
   simp at hl
   simp
   exact k m ws x z ⟨m0, m1, by omega, fun v hv => (hw v hv).1⟩ fun v hv => (hw v hv).2
end T
end
section
namespace T
open HH
@[simp] theorem ZV {α β : Type} {a : α} {ρ : List Sl} {f : α -> List Sl -> Res β} : (Res.ok a ρ).bind f = f a ρ := rfl
@[simp] theorem Rp {α β : Type} {f : α -> List Sl -> Res β} : (Res.stuck : Res α).bind f = .stuck := rfl
@[simp] theorem Ha {α : Type} {a : α} {ρ : List Sl} : lift (some a) ρ = .ok a ρ := rfl
@[simp] theorem U0 {c : Call} {n k : Nat} {ρ : List Sl} : ex c n (.DQ k) ρ = .stuck := by rw [ex]
theorem Ra {ws : List Wy} {k : Int} (h0 : 0 <= k) (h1 : k < (ws.length : Int)) : ∃ v, ws[k.toNat]? = some v /\ v ∈ ws /\ at' (ws.map Wy.d) k = some v.d := by
 have hk : k.toNat < ws.length := by omega
 refine ⟨ws[k.toNat], by simp [hk], List.getElem_mem hk, ?_⟩
 rw [qM h0 (by simpa using h1)]; simp [hk]
theorem qH {v : Wy} : uX v.d (.int 0) = some (.val (.int v.s)) := by simp [Wy.d]
theorem yX {v : Wy} : uX v.d (.int 1) = some (.val (.int v.t)) := by simp [Wy.d]
theorem Mq {v : Wy} : uX v.d (.int 2) = some (.val (.int v.r)) := by simp [Wy.d]
theorem K9 {v : Wy} : uX v.d (.int 3) = some (.val (.int v.h)) := by simp [Wy.d]
end T
end
section
namespace T
open HH
noncomputable def sm {α : Type} (f : α -> Int) : List α -> Int
 | [] => 0
 | a :: l => f a + sm f l
section
variable {α β : Type} {f g : α -> Int} {l k : List α}
@[simp] theorem Xc : sm f [] = 0 := rfl
@[simp] theorem bD {a : α} : sm f (a :: l) = f a + sm f l := rfl
theorem vq : sm f (l ++ k) = sm f l + sm f k := by
 induction l with
 | nil => simp
 | cons a l ih => simp [ih]; omega
theorem cP (h : ∀ a ∈ l, f a = g a) : sm f l = sm g l := by
 induction l with
 | nil => rfl
 | cons a l ih => rw [bD, bD, h a (by simp), ih fun b hb => h b (by simp [hb])]
theorem yp (h : l.Perm k) : sm f l = sm f k := by
 induction h with
 | nil => rfl
 | cons a _ ih => simp [ih]
 | swap a b l => simp; omega
 | trans _ _ h1 h2 => rw [h1, h2]
theorem JV : sm (fun a => f a + g a) l = sm f l + sm g l := by
 induction l with
 | nil => rfl
 | cons a l ih => simp only [bD, ih]; omega
theorem Bc : sm (fun a => f a - g a) l = sm f l - sm g l := by
 induction l with
 | nil => rfl
 | cons a l ih => simp only [bD, ih]; omega
theorem Ax {c : Int} : sm (fun a => f a * c) l = sm f l * c := by
 induction l with
 | nil => simp
 | cons a l ih => simp only [bD, ih, Int.add_mul]
theorem HX (h : ∀ a ∈ l, f a <= g a) : sm f l <= sm g l := by
 induction l with
 | nil => simp
 | cons a l ih =>
   have h1 := h a (by simp)
   have h2 := ih fun b hb => h b (by simp [hb])
   simp only [bD]; omega
theorem m6 (h : ∀ a ∈ l, f a = 0) : sm f l = 0 := by
 induction l with
 | nil => rfl
 | cons a l ih => rw [bD, h a (by simp), ih fun b hb => h b (by simp [hb])]; rfl
theorem qZ {q : β -> α} {l : List β} : sm f (l.map q) = sm (fun b => f (q b)) l := by
 induction l with
 | nil => rfl
 | cons a l ih => simp only [List.map_cons, bD, ih]
theorem Wq {l : List Int} : l.sum = sm (fun i => i) l := by
 induction l with
 | nil => rfl
 | cons a l ih => simp [ih]
end
structure Tr where
 (h w l : Int)
noncomputable def Tr.d (x : Tr) : D := .tup [.int x.h, .int x.w, .int x.l]
noncomputable def pF : D -> Tr
 | .tup [.int h, .int w, .int l] => ⟨h, w, l⟩
 | _ => ⟨0, 0, 0⟩
@[simp] theorem X5 {h w l : Int} : pF (.tup [.int h, .int w, .int l]) = ⟨h, w, l⟩ := rfl
@[simp] theorem WN {x : Tr} : pF x.d = x := rfl
@[simp] theorem YB {i : Int} : dj (.int i) = i := rfl
noncomputable def wy (ws : List Wy) (k : Int) : Wy := (ws[k.toNat]?).getD ⟨0, 0, 0, 0⟩
noncomputable def lR (ws : List Wy) (x : Tr) : Prop := 0 <= x.w /\ x.w < (ws.length : Int)
theorem fP {ws : List Wy} {k : Int} (h0 : 0 <= k) (h1 : k < (ws.length : Int)) : at' (ws.map Wy.d) k = some (wy ws k).d /\ wy ws k ∈ ws := by
 obtain ⟨v, h2, h3, h4⟩ := Ra h0 h1
 have : wy ws k = v := by unfold wy; rw [h2]; rfl
 rw [this]; exact ⟨h4, h3⟩
theorem uc {x : Tr} : uX x.d (.int 0) = some (.val (.int x.h)) := by simp [Tr.d]
theorem kh {x : Tr} : uX x.d (.int 1) = some (.val (.int x.w)) := by simp [Tr.d]
theorem Cr {x : Tr} : uX x.d (.int 2) = some (.val (.int x.l)) := by simp [Tr.d]
noncomputable def cA (ws : List Wy) (x : Tr) : Int := x.h + (wy ws x.w).h
noncomputable def uZ (ws : List Wy) (p : Int) (P : Int -> Bool) (x : Tr) : Int := if (wy ws x.w).t = p /\ P (cA ws x) = true then x.l else 0
noncomputable def vI (ws : List Wy) (p : Int) (P : Int -> Bool) (x : Tr) : Int := if (wy ws x.w).s = p /\ P x.h = true then x.l else 0
noncomputable def dW (t : Int) : Int -> Bool := fun k => decide (k <= t)
noncomputable def GK (t : Int) : Int -> Bool := fun k => decide (t <= k)
noncomputable def come (ws : List Wy) (pl : List Tr) (p t : Int) : Int := sm (uZ ws p (dW t)) pl
noncomputable def left (ws : List Wy) (pl : List Tr) (p t : Int) : Int := sm (vI ws p (dW t)) pl
noncomputable def stP (ws : List Wy) (pl : List Tr) (p : Int) (P : Int -> Bool) : Int := sm (fun x => uZ ws p P x - vI ws p P x) pl
theorem oV {ws : List Wy} {pl : List Tr} {p t : Int} : stP ws pl p (dW t) = come ws pl p t - left ws pl p t := Bc
noncomputable def LS (s : Sl) (ds : List D) : Prop := (∃ b, s = .own b ds) \/ ∃ b, s = .val b (.lst ds)
theorem gF {ρ : List Sl} {k : Nat} {s : Sl} {ds : List D} {e : Ev} (h : ρ[k]? = some s) (hs : LS s ds) : ∃ s', srcOf (some k) e ρ = .ok ds (ρ.set k s') /\ ∀ ρ', ρ'[k]? = some s' -> bB ρ (some k) ρ' = ρ'.set k s := by
 have hk := (List.getElem?_eq_some_iff.mp h).1
 rcases hs with ⟨b, rfl⟩ | ⟨b, rfl⟩
 . exact ⟨.lent ds, by unfold srcOf; simp only [h], fun ρ' _ => by unfold bB; simp only [h]⟩
 . refine ⟨.val b (.lst ds), ?_, fun ρ' h' => ?_⟩
   . unfold srcOf; simp only [h, lr, Ha]
     obtain ⟨h1, h2⟩ := List.getElem?_eq_some_iff.mp h
     rw [<- h2, List.set_getElem_self]
   . unfold bB; simp only [h]
     obtain ⟨h1, h2⟩ := List.getElem?_eq_some_iff.mp h'
     rw [<- h2, List.set_getElem_self]
noncomputable def LT (s : Sl) (ds : List D) : Prop := LS s ds \/ s = .lent ds
theorem sV {ρ : List Sl} {k : Nat} {s : Sl} {ds : List D} {e : Ev} (h : ρ[k]? = some s) (hs : LT s ds) : ∃ s', srcOf (some k) e ρ = .ok ds (ρ.set k s') /\ ∀ ρ', ρ'[k]? = some s' -> bB ρ (some k) ρ' = ρ'.set k s := by
 rcases hs with hs | rfl
 . exact gF h hs
 . refine ⟨.lent ds, ?_, fun ρ' h' => ?_⟩
   . unfold srcOf; simp only [h]
     obtain ⟨h1, h2⟩ := List.getElem?_eq_some_iff.mp h
     rw [<- h2, List.set_getElem_self]
   . unfold bB; simp only [h]
     obtain ⟨h1, h2⟩ := List.getElem?_eq_some_iff.mp h'
     rw [<- h2, List.set_getElem_self]
noncomputable def gv {κ : Type} [DecidableEq κ] (kvs : List (κ × Int)) (k : κ) : Int := ((kvs.find? fun kv => decide (kv.1 = k)).map (·.2)).getD 0
noncomputable def qJ {κ : Type} (P : κ -> Bool) (kvs : List (κ × Int)) : Int := sm (fun kv => if P kv.1 = true then kv.2 else 0) kvs
section
variable {κ : Type} [DecidableEq κ]
theorem iV {a k : κ} {b : Int} {r : List (κ × Int)} : gv ((a, b) :: r) k = if a = k then b else gv r k := by
 unfold gv; by_cases h : a = k <;> simp [h]
theorem xJ {k : κ} : ∀ {r : List (κ × Int)}, k ∉ r.map (·.1) -> gv r k = 0
 | [], _ => rfl
 | (a, b) :: r, h => by
   simp at h
   rw [iV, if_neg (fun e => h.1 e.symm), xJ (r := r) (by simpa using h.2)]
theorem yK {a k : κ} {b v : Int} {r : List (κ × Int)} (hn : a ∉ r.map (·.1)) : putD ((a, b) :: r) k v = if a = k then (a, v) :: r else (a, b) :: putD r k v := by
 unfold putD
 by_cases h : a = k
 . subst h
   rw [if_pos (by simp), if_pos rfl]
   simp
   refine (List.map_congr_left (g := id) fun kv hkv => ?_).trans (by simp)
   rw [if_neg]; rfl
   intro e
   exact hn (List.mem_map.mpr ⟨kv, hkv, e⟩)
 . rw [if_neg h]
   by_cases h2 : (r.any fun kv => decide (kv.1 = k)) = true
   . rw [if_pos h2, if_pos (by simp [h2])]
     simp [h]
   . rw [if_neg h2, if_neg (by simp [h]; simpa using h2)]
     simp
theorem lB {k : κ} {v : Int} : ∀ {r : List (κ × Int)}, (r.map (·.1)).Nodup -> ((putD r k v).map (·.1)).Nodup /\ (putD r k v).length <= r.length + 1 /\ (∀ j ∈ (putD r k v).map (·.1), j = k \/ j ∈ r.map (·.1)) /\ ∀ P, qJ P (putD r k v) = qJ P r + if P k = true then v - gv r k else 0
 | [], _ => by simp [putD, qJ, gv]
 | (a, b) :: r, h => by
   simp only [List.map_cons, List.nodup_cons] at h
   obtain ⟨i1, i2, i3, i4⟩ := lB (k := k) (v := v) (r := r) h.2
   rw [yK h.1]
   by_cases e : a = k
   . subst e
     rw [if_pos rfl]
     refine ⟨by simpa using h, by simp, fun j hj => .inr (by simpa using hj), fun P => ?_⟩
     have := xJ h.1
     simp only [qJ, bD, iV, if_true]
     split <;> omega
   . rw [if_neg e]
     refine ⟨?_, by simp; omega, fun j hj => ?_, fun P => ?_⟩
     . simp only [List.map_cons, List.nodup_cons]
       refine ⟨fun hm => ?_, i1⟩
       rcases i3 a hm with z | z
       . exact e z
       . exact h.1 z
     . simp only [List.map_cons, List.mem_cons] at hj ⊢
       rcases hj with rfl | hj
       . exact .inr (.inl rfl)
       . rcases i3 j hj with z | z
         . exact .inl z
         . exact .inr (.inr z)
     . have := i4 P
       simp only [qJ, bD, iV, if_neg e] at this ⊢
       omega
theorem iz {P : κ -> Bool} : ∀ {r : List (κ × Int)}, (r.map (·.1)).Nodup -> qJ P r = sm (fun k => if P k = true then gv r k else 0) (r.map (·.1))
 | [], _ => rfl
 | (a, b) :: r, h => by
   simp only [List.map_cons, List.nodup_cons] at h
   have ih := iz (P := P) (r := r) h.2
   simp only [qJ, bD, List.map_cons] at ih ⊢
   rw [ih, iV, if_pos rfl]
   congr 1
   refine cP fun k hk => ?_
   have hne : ¬ a = k := fun e => h.1 (by rw [e]; exact hk)
   rw [iV, if_neg hne]
end
theorem mU {k : Int} : ∀ {r : List (Int × Int)}, k ∈ r.map (·.1) -> qy (.cQ (.k r)) (.int k) = some (.val (.int (gv r k)))
 | [], h => by simp at h
 | (a, b) :: r, h => by
   by_cases e : a = k
   . simp [qy, Dc.get, gv, e]
   . simp at h
     have ih := mU (k := k) (r := r) (by rcases h with h | h; exact absurd h.symm e; simpa using h)
     simp [qy, Dc.get, gv, e] at ih ⊢
     exact ih
end T
end
section
namespace T
open HH
theorem CT {c : Call} {x : Nat} {k d : P} {ρ : List Sl} : ev c (.Pb x k d) ρ = match ρ[x]? with
 | some (.fc _) => (fj (isVar k) (ev c k) ρ).bind fun kd ρ => (fj (isVar d) (ev c d) ρ).bind fun dd ρ => match ρ[x]? with
   | some (.fc m) => lift ((m.get kd).bind fun o => (oh dd).map fun v => .val (.int (o.getD v))) ρ
   | _ => .stuck
 | _ => .stuck := by rw [ev] <;> rfl
theorem Ex {c : Call} {n x : Nat} {ρ : List Sl} : ex c n (.wG x false) ρ = match ρ[x]? with
 | some .aV => .ok .next (ρ.set x (.fc (.k [])))
 | _ => .stuck := by rw [ex] <;> rfl
theorem wV {c : Call} {n x : Nat} {k e : P} {ρ : List Sl} : ex c n (.dput x k e) ρ = (ev c e ρ).bind fun r ρ => match ρ[x]? with
 | some (.fc _) => (fj (isVar k) (ev c k) ρ).bind fun kd ρ => match ρ[x]?, r with
   | some (.fc m), .val (.int v) => match m.put kd v with
     | some m' => .ok .next (ρ.set x (.fc m'))
     | none => .stuck
   | _, _ => .stuck
 | _ => .stuck := by rw [ex] <;> rfl
@[simp] theorem NZ {x : Nat} {k d : P} : isVar (.Pb x k d) = none := rfl
@[simp] theorem Rm : sy .zG = qy := rfl
theorem iG {w n : Nat} {m h k : Int} {ws : List Wy} {Q : R -> List Sl -> Prop} (h0 : 0 <= k) (h1 : k < (ws.length : Int)) (q : Q (.val (.int (h + (wy ws k).h))) [.val false (bj m ws), .val false (.int h), .val false (.int k)]) :
 (run Γ w (n + 1) 2 [.val false (bj m ws), .val false (.int h), .val false (.int k)]).sat Q := by
 refine aX (d := f2) rfl rfl (by decide) ?_
 first|apply aa|apply aq
 simpa [f2, (fP h0 h1).1, K9] using q
noncomputable def KP (ws : List Wy) (p : Int) (P : Int -> Bool) (x : Tr) : Int := uZ ws p P x - vI ws p P x
inductive JCh (ws : List Wy) (pl : List Tr) (p : Int) (a0 a1 a2 : Sl) (r : List D) (ρ : List Sl) : Prop where
 | mk (rest : List Tr) (kvs : List (Int × Int)) (s4 s5 s6 s7 : Sl) (q0 : ρ = [a0, a1, a2, .fc (.k kvs), s4, s5, s6, s7]) (q1 : A4 (fr s4 = true) (fr s5 = true) (fr s6 = true) (fr s7 = true)) (q2 : r = rest.map Tr.d) (q3 : (∀ x ∈ rest, lR ws x)) (q4 : (kvs.map (·.1)).Nodup) (q5 : kvs.length + rest.length <= pl.length) (q6 : ∀ P, qJ P kvs + sm (KP ws p P) rest = sm (KP ws p P) pl)
theorem Cq {kvs : List (Int × Int)} {i : Int} : (Dc.get (.k kvs) (.int i)) = some ((kvs.find? fun kv => decide (kv.1 = i)).map (·.2)) := rfl
theorem HY {kvs : List (Int × Int)} {i v : Int} (h : kvs.length < lim) : Dc.put (.k kvs) (.int i) v = some (.k (putD kvs i v)) := by
 show (if _ then _ else _) = _
 rw [if_pos h]
theorem dm {w n : Nat} {m p : Int} {ws : List Wy} {pl : List Tr} {s1 : Sl} {Q : R -> List Sl -> Prop} (hs : LS s1 (pl.map Tr.d)) (hw : ∀ x ∈ pl, lR ws x) (hne : ∀ v ∈ ws, v.s ≠ v.t) (hl : pl.length <= 1000)
 (q : ∀ kvs : List (Int × Int), (kvs.map (·.1)).Nodup -> kvs.length <= pl.length -> (∀ P, qJ P kvs = stP ws pl p P) -> Q (.val (.cQ (.k kvs))) [.val false (bj m ws), s1, .val false (.int p)]) :
 (run Γ w (n + 2) 7 [.val false (bj m ws), s1, .val false (.int p)]).sat Q := by
 refine aX (d := f7) rfl rfl (by decide) ?_
 first|apply aa|apply aq
 simp [f7, Ex]
 apply aa
 obtain ⟨s', e1, e2⟩ := gF (ρ := [.val false (bj m ws), s1, .val false (.int p), .fc (.k []), .aV, .aV, .aV, .aV]) (k := 1) (e := ev (run Γ w (n + 1)) (.var 1)) rfl hs
 simp [-cC, -bJ, e1]
 refine cY (JCh ws pl p _ s' _) ?_ ?_ ⟨pl, [], .aV, .aV, .aV, .aV, rfl, ⟨rfl, rfl, rfl, rfl⟩, rfl, hw, by simp, by simp, fun P => by simp [qJ]⟩
 . rintro d r _ ⟨rest, kvs, s4, s5, s6, s7, rfl, ⟨h4, h5, h6, h7⟩, hr, hi, hn, hk, hd⟩
   cases rest with
   | nil => cases hr
   | cons x rest =>
     obtain ⟨rfl, rfl⟩ : d = x.d /\ r = rest.map Tr.d := by simpa using hr
     have hx := hi x (by simp)
     obtain ⟨hg, hmem⟩ := fP hx.1 hx.2
     have hne' := hne _ hmem
     have hi' : ∀ y ∈ rest, lR ws y := fun y hy => hi y (by simp [hy])
     simp at hk
     have hlim : kvs.length < lim := by show _ < 16777216; omega
     simp [Tr.d, h4, h5, h6]
     by_cases c1 : (wy ws x.w).t = p
     . have c2 : (wy ws x.w).s ≠ p := fun z => hne' (z.trans c1.symm)
       obtain ⟨p1, p2, p3, p4⟩ := lB (k := cA ws x) (v := gv kvs (cA ws x) + x.l) hn
       first|apply aa|apply aq
       simp [hg, yX, c1]
       apply aa
       simp
       refine iG hx.1 hx.2 ?_
       simp [h7]
       apply aa
       simp [wV, CT, Cq]
       rw [show (Option.map (fun x => x.snd) (List.find? (fun kv => decide (kv.fst = x.h + (wy ws x.w).h)) kvs)).getD 0 = gv kvs (cA ws x) from rfl, HY hlim]
       simp
       apply aa
       simp [hg, qH, c2]
       refine ⟨rest, putD kvs (cA ws x) (gv kvs (cA ws x) + x.l), _, _, _, _, rfl, ⟨rfl, rfl, rfl, rfl⟩, rfl, hi', p1, by omega, fun P => ?_⟩
       have := hd P
       rw [p4 P]
       simp only [bD, KP, uZ, vI, c1, c2, true_and, false_and, if_false] at this ⊢
       split <;> split at this <;> simp_all <;> omega
     . by_cases c2 : (wy ws x.w).s = p
       . obtain ⟨p1, p2, p3, p4⟩ := lB (k := x.h) (v := gv kvs x.h - x.l) hn
         first|apply aa|apply aq
         simp [hg, yX, c1]
         apply aa
         simp [hg, qH, c2]
         apply aa
         simp [wV, CT, Cq]
         rw [show (Option.map (fun x => x.snd) (List.find? (fun kv => decide (kv.fst = x.h)) kvs)).getD 0 = gv kvs x.h from rfl, HY hlim]
         simp
         refine ⟨rest, _, _, _, _, _, rfl, ⟨rfl, rfl, rfl, h7⟩, rfl, hi', p1, by omega, fun P => ?_⟩
         have := hd P
         rw [p4 P]
         simp only [bD, KP, uZ, vI, c1, c2, true_and, false_and, if_false] at this ⊢
         split <;> split at this <;> simp_all <;> omega
       . first|apply aa|apply aq
         simp [hg, yX, c1]
         apply aa
         simp [hg, qH, c2]
         refine ⟨rest, _, _, _, _, _, rfl, ⟨rfl, rfl, rfl, h7⟩, rfl, hi', hn, by omega, fun P => ?_⟩
         have := hd P
         simp only [bD, KP, uZ, vI, c1, c2, false_and, if_false] at this ⊢
         omega
 . rintro _ ⟨rest, kvs, s4, s5, s6, s7, rfl, _, hr, hi, hn, hk, hd⟩
   have hr' : rest = [] := by cases rest with | nil => rfl | cons _ _ => cases hr
   subst hr'
   rw [e2 _ rfl]
   first|apply aa|apply aq
   simp
   exact q kvs hn (by simpa using hk) fun P => by have := hd P; simp at this; exact this
inductive F5 (a0 a1 a2 a3 a4 : Sl) (ρ : List Sl) : Prop where
 | mk (s : Sl) (q0 : ρ = [a0, a1, a2, a3, a4, s]) (q1 : fr s = true)
end T
end
section
namespace T
open HH
theorem tQ {kvs : List (Int × Int)} : blt .keys [.cQ (.k kvs)] = some (.val (.tup ((kvs.map (·.1)).map D.int))) := by
 show some _ = some _
 simp
theorem XH {P : Int -> Bool} {kvs : List (Int × Int)} : ∀ l : List Int, ∃ ns : List Int, (l.map D.int).filterMap (fun d => if P (dj d) = true then some (D.int (gv kvs (dj d))) else none) = ns.map D.int /\ ns.sum = sm (fun k => if P k = true then gv kvs k else 0) l
 | [] => ⟨[], rfl, rfl⟩
 | k :: l => by
   obtain ⟨ns, h1, h2⟩ := XH (P := P) (kvs := kvs) l
   by_cases h : P k = true
   . exact ⟨gv kvs k :: ns, by simp [h]; simpa using h1, by simp [h, h2]⟩
   . exact ⟨ns, by simp [h]; simpa using h1, by simp [h, h2]⟩
noncomputable def gK (P : Int -> Bool) (kvs : List (Int × Int)) (d : D) : Option D := if P (dj d) = true then some (D.int (gv kvs (dj d))) else none
theorem nP {w n : Nat} {m p t : Int} {ws : List Wy} {pl : List Tr} {s1 : Sl} {Q : R -> List Sl -> Prop} (hs : LS s1 (pl.map Tr.d)) (hw : ∀ x ∈ pl, lR ws x) (hne : ∀ v ∈ ws, v.s ≠ v.t) (hl : pl.length <= 1000)
 (q : Q (.val (.int (stP ws pl p (dW t)))) [.val false (bj m ws), s1, .val false (.int p), .val false (.int t)]) :
 (run Γ w (n + 3) 10 [.val false (bj m ws), s1, .val false (.int p), .val false (.int t)]).sat Q := by
 refine aX (d := QJ) rfl rfl (by decide) ?_
 refine iT (fun ρ => ∃ kvs : List (Int × Int), ρ = [.val false (bj m ws), s1, .val false (.int p), .val false (.int t), .val false (.cQ (.k kvs))] /\ (kvs.map (·.1)).Nodup /\ kvs.length <= pl.length /\ ∀ P, qJ P kvs = stP ws pl p P) ?_ ?_
 . rcases hs with ⟨b, rfl⟩ | ⟨b, rfl⟩
   . simp [QJ]
     refine dm (.inl ⟨_, rfl⟩) hw hne hl fun kvs h1 h2 h3 => ?_
     simp
     exact ⟨h1, h2, h3⟩
   . simp [QJ]
     refine dm (.inr ⟨_, rfl⟩) hw hne hl fun kvs h1 h2 h3 => ?_
     simp
     exact ⟨h1, h2, h3⟩
 . rintro _ ⟨kvs, rfl, h1, h2, h3⟩
   first|apply aa|apply aq
   simp [tQ]
   refine ⟨fun _ => ?_, by show _ <= 16777216; omega⟩
   refine dX (F5 _ _ _ _ _) (gK (dW t) kvs) ⟨.aV, rfl, rfl⟩ ?_ ?_
   . rintro d hd _ ⟨s, rfl, hs⟩
     obtain ⟨⟨k, v⟩, hk, rfl⟩ := List.mem_map.mp hd
     have hf := mU (r := kvs) (k := k) (List.mem_map.mpr ⟨_, hk, rfl⟩)
     by_cases c : k <= t
     . simp [hs, c, hf, gK, dW]
       exact ⟨_, rfl, rfl⟩
     . simp [hs, c, gK, dW]
       exact ⟨_, rfl, rfl⟩
   . rintro _ ⟨s, rfl, hs⟩
     obtain ⟨ns, e1, e2⟩ := XH (P := dW t) (kvs := kvs) (kvs.map (·.1))
     rw [List.map_map] at e1
     have e3 : kvs.filterMap (gK (dW t) kvs ∘ D.int ∘ fun x => x.1) = ns.map D.int := by rw [<- List.filterMap_map]; exact e1
     simp [e3]
     rw [e2, <- iz h1, h3]
     exact q
end T
end
section
namespace T
open HH
theorem cR {w n : Nat} {m t : Int} {ws : List Wy} {pl : List Tr} {s1 : Sl} {Q : R -> List Sl -> Prop} (hs : LS s1 (pl.map Tr.d)) (hw : ∀ x ∈ pl, lR ws x) (hne : ∀ v ∈ ws, v.s ≠ v.t) (hl : pl.length <= 1000)
 (q : Q (.val (.int (stP ws pl (m - 1) (dW t)))) [.val false (bj m ws), s1, .val false (.int t)]) :
 (run Γ w (n + 4) 11 [.val false (bj m ws), s1, .val false (.int t)]).sat Q := by
 refine aX (d := f11) rfl rfl (by decide) ?_
 first|apply aa|apply aq
 rcases hs with ⟨b, rfl⟩ | ⟨b, rfl⟩
 . simp [f11]
   refine nP (.inl ⟨_, rfl⟩) hw hne hl ?_
   simpa using q
 . simp [f11]
   refine nP (.inr ⟨_, rfl⟩) hw hne hl ?_
   simpa using q
inductive F4 (a0 a1 a2 a3 : Sl) (ρ : List Sl) : Prop where
 | mk (s : Sl) (q0 : ρ = [a0, a1, a2, a3, s]) (q1 : fr s = true)
theorem iy {w n : Nat} {m t : Int} {ws : List Wy} {pl : List Tr} {s1 : Sl} {Q : R -> List Sl -> Prop} (hs : LS s1 (pl.map Tr.d)) (hw : ∀ x ∈ pl, lR ws x) (hne : ∀ v ∈ ws, v.s ≠ v.t) (hl : pl.length <= 1000)
 (q : Q (.val (.int (-stP ws pl 0 (GK t)))) [.val false (bj m ws), s1, .val false (.int t)]) :
 (run Γ w (n + 3) 12 [.val false (bj m ws), s1, .val false (.int t)]).sat Q := by
 refine aX (d := Rv) rfl rfl (by decide) ?_
 refine iT (fun ρ => ∃ kvs : List (Int × Int), ρ = [.val false (bj m ws), s1, .val false (.int t), .val false (.cQ (.k kvs))] /\ (kvs.map (·.1)).Nodup /\ kvs.length <= pl.length /\ ∀ P, qJ P kvs = stP ws pl 0 P) ?_ ?_
 . rcases hs with ⟨b, rfl⟩ | ⟨b, rfl⟩
   . simp [Rv]
     refine dm (.inl ⟨_, rfl⟩) hw hne hl fun kvs h1 h2 h3 => ?_
     simp
     exact ⟨h1, h2, h3⟩
   . simp [Rv]
     refine dm (.inr ⟨_, rfl⟩) hw hne hl fun kvs h1 h2 h3 => ?_
     simp
     exact ⟨h1, h2, h3⟩
 . rintro _ ⟨kvs, rfl, h1, h2, h3⟩
   first|apply aa|apply aq
   simp [tQ]
   refine ⟨fun _ => ?_, by show _ <= 16777216; omega⟩
   refine dX (F4 _ _ _ _) (gK (GK t) kvs) ⟨.aV, rfl, rfl⟩ ?_ ?_
   . rintro d hd _ ⟨s, rfl, hs⟩
     obtain ⟨⟨k, v⟩, hk, rfl⟩ := List.mem_map.mp hd
     have hf := mU (r := kvs) (k := k) (List.mem_map.mpr ⟨_, hk, rfl⟩)
     by_cases c : t <= k
     . simp [hs, c, hf, gK, GK]
       exact ⟨_, rfl, rfl⟩
     . simp [hs, c, gK, GK]
       exact ⟨_, rfl, rfl⟩
   . rintro _ ⟨s, rfl, hs⟩
     obtain ⟨ns, e1, e2⟩ := XH (P := GK t) (kvs := kvs) (kvs.map (·.1))
     rw [List.map_map] at e1
     have e3 : kvs.filterMap (gK (GK t) kvs ∘ D.int ∘ fun x => x.1) = ns.map D.int := by rw [<- List.filterMap_map]; exact e1
     simp [e3]
     rw [e2, <- iz h1, h3]
     exact q
end T
end
section
namespace T
open HH
noncomputable def pre (kvs : List (Int × Int)) : Int -> List Int -> Bool
 | _, [] => true
 | st, k :: r => if st + gv kvs k < 0 then false else pre kvs (st + gv kvs k) r
theorem wU {kvs : List (Int × Int)} : ∀ {ks : List Int} {st : Int}, ks.Pairwise (· < ·) -> (pre kvs st ks = true ↔ ∀ t, (∃ k ∈ ks, k <= t) -> 0 <= st + sm (fun k => if dW t k = true then gv kvs k else 0) ks)
 | [], st, _ => by simp [pre]
 | k :: r, st, h => by
   rw [List.pairwise_cons] at h
   have ih := wU (kvs := kvs) (ks := r) (st := st + gv kvs k) h.2
   have z : ∀ t, ¬ (∃ j ∈ r, j <= t) -> sm (fun k => if dW t k = true then gv kvs k else 0) r = 0 := fun t hn => m6 fun j hj => by
    rw [if_neg]; simp only [dW, decide_eq_true_eq]; intro hle; exact hn ⟨j, hj, hle⟩
   rw [pre]
   by_cases c : st + gv kvs k < 0
   . rw [if_pos c]
     refine ⟨fun q => (by cases q), fun q => ?_⟩
     have := q k ⟨k, by simp, Int.le_refl _⟩
     rw [bD, z k (fun ⟨j, hj, hle⟩ => by have := h.1 j hj; omega)] at this
     simp [dW] at this; omega
   . rw [if_neg c, ih]
     constructor
     . intro q t ⟨j, hj, hle⟩
       have hk : k <= t := by
        rcases List.mem_cons.mp hj with rfl | hj
        . exact hle
        . have := h.1 j hj; omega
       have e : (if dW t k = true then gv kvs k else 0) = gv kvs k := by simp [dW, hk]
       rw [bD, e]
       by_cases hr : ∃ j ∈ r, j <= t
       . have := q t hr; omega
       . rw [z t hr]; omega
     . intro q t ⟨j, hj, hle⟩
       have hk : k <= t := by have := h.1 j hj; omega
       have := q t ⟨k, by simp, hk⟩
       have e : (if dW t k = true then gv kvs k else 0) = gv kvs k := by simp [dW, hk]
       rw [bD, e] at this
       omega
theorem FQ {kvs : List (Int × Int)} {ks : List Int} (hn : (kvs.map (·.1)).Nodup) (hp : ks.Perm (kvs.map (·.1))) (hs : ks.Pairwise (· <= ·)) : pre kvs 0 ks = true ↔ ∀ t, 0 <= qJ (dW t) kvs := by
 have hlt : ks.Pairwise (· < ·) := by
  have hd : ks.Pairwise (· ≠ ·) := hp.nodup_iff.mpr hn
  exact (hs.and hd).imp fun ⟨h1, h2⟩ => by omega
 rw [wU hlt]
 have e : ∀ t, qJ (dW t) kvs = sm (fun k => if dW t k = true then gv kvs k else 0) ks := fun t => by rw [iz hn]; exact (yp hp).symm
 constructor
 . intro q t
   by_cases c : ∃ k ∈ ks, k <= t
   . have := q t c; rw [e]; omega
   . rw [e, m6 fun j hj => by
      rw [if_neg]; simp only [dW, decide_eq_true_eq]; intro hle; exact c ⟨j, hj, hle⟩]
     exact Int.le_refl _
 . intro q t _
   have := q t
   rw [e] at this; omega
theorem Ag {ns : List Int} : ∃ ks : List Int, iQ (ns.map D.int) = ks.map D.int /\ ks.Perm ns /\ ks.Pairwise (· <= ·) := by
 have hp := iC (ns.map D.int)
 have hs := gY (ns.map D.int)
 have e : iQ (ns.map D.int) = ((iQ (ns.map D.int)).map dj).map D.int := by
  rw [List.map_map]
  refine ((List.map_congr_left fun d hd => ?_).trans (List.map_id _)).symm
  obtain ⟨i, _, rfl⟩ := List.mem_map.mp (hp.mem_iff.mp hd)
  rfl
 refine ⟨_, e, ?_, ?_⟩
 . have := hp.map dj
   rw [List.map_map] at this
   exact this.trans (.of_eq ((List.map_congr_left fun d _ => rfl).trans (List.map_id _)))
 . rw [List.pairwise_map]
   refine hs.imp_of_mem fun {a b} ha hb h => ?_
   obtain ⟨i, _, rfl⟩ := List.mem_map.mp (hp.mem_iff.mp ha)
   obtain ⟨j, _, rfl⟩ := List.mem_map.mp (hp.mem_iff.mp hb)
   simp [iI, cX, bz] at h
   show i <= j
   omega
theorem zm {kvs : List (Int × Int)} (h : kvs.length < 64) : blt .uM [.cQ (.k kvs)] = some (.own (iQ ((kvs.map (·.1)).map D.int))) := by
 have e : (kvs.map fun p => D.int p.1) = (kvs.map (·.1)).map D.int := by simp
 show (if _ then _ else _) = _
 rw [if_pos, e]
 rw [e]
 simp [sortable, h, di]
inductive JNs (kvs : List (Int × Int)) (b : Bool) (a0 a1 a2 a3 : Sl) (r : List D) (ρ : List Sl) : Prop where
 | mk (ks : List Int) (st : Int) (s : Sl) (q0 : ρ = [a0, a1, a2, a3, .val false (.int st), s]) (q1 : fr s = true) (q2 : r = ks.map D.int) (q3 : (∀ k ∈ ks, k ∈ kvs.map (·.1))) (q4 : pre kvs st ks = b)
theorem p8 {w n : Nat} {m p : Int} {ws : List Wy} {pl : List Tr} {s1 : Sl} {Q : R -> List Sl -> Prop} (hs1 : LS s1 (pl.map Tr.d)) (hw : ∀ x ∈ pl, lR ws x) (hne : ∀ v ∈ ws, v.s ≠ v.t) (hl : pl.length < 64)
 (q : ∀ r : Bool, (r = true ↔ ∀ t, 0 <= stP ws pl p (dW t)) -> Q (.val (.bl r)) [.val false (bj m ws), s1, .val false (.int p)]) :
 (run Γ w (n + 3) 8 [.val false (bj m ws), s1, .val false (.int p)]).sat Q := by
 refine aX (d := f8) rfl rfl (by decide) ?_
 refine iT (fun ρ => ∃ kvs : List (Int × Int), ρ = [.val false (bj m ws), s1, .val false (.int p), .val false (.cQ (.k kvs)), .aV, .aV] /\ (kvs.map (·.1)).Nodup /\ kvs.length <= pl.length /\ ∀ P, qJ P kvs = stP ws pl p P) ?_ ?_
 . rcases hs1 with ⟨b, rfl⟩ | ⟨b, rfl⟩
   . simp [f8]
     refine dm (.inl ⟨_, rfl⟩) hw hne (by omega) fun kvs h1 h2 h3 => ?_
     simp
     exact ⟨h1, h2, h3⟩
   . simp [f8]
     refine dm (.inr ⟨_, rfl⟩) hw hne (by omega) fun kvs h1 h2 h3 => ?_
     simp
     exact ⟨h1, h2, h3⟩
 rintro _ ⟨kvs, rfl, h1, h2, h3⟩
 first|apply aa|apply aq
 simp
 apply aa
 obtain ⟨ks, e, hp, hs⟩ := Ag (ns := kvs.map (·.1))
 have hq := q _ ((FQ h1 hp hs).trans ⟨fun z t => by rw [<- h3]; exact z t, fun z t => by rw [h3]; exact z t⟩)
 simp [zm (show kvs.length < 64 by omega)]
 rw [List.map_map] at e
 have e' : iQ (kvs.map (D.int ∘ fun x => x.1)) = ks.map D.int := e
 simp [e']
 refine cY (JNs kvs (pre kvs 0 ks) _ _ _ _) ?_ ?_ ⟨ks, 0, .aV, rfl, rfl, rfl, fun k hk => hp.mem_iff.mp hk, rfl⟩
 . rintro d r _ ⟨ks', st, s, rfl, hf, hr, hk, hb⟩
   cases ks' with
   | nil => cases hr
   | cons k ks' =>
     obtain ⟨rfl, rfl⟩ : d = .int k /\ r = ks'.map D.int := by simpa using hr
     have hg := mU (r := kvs) (hk k (by simp))
     simp [hf]
     apply aa
     simp [hg]
     apply aa
     rw [pre] at hb
     by_cases c : st + gv kvs k < 0
     . rw [if_pos c] at hb
       simp [c]
       apply aa
       simp
       rw [<- hb] at hq; exact hq
     . rw [if_neg c] at hb
       simp [c]
       exact ⟨ks', _, _, rfl, rfl, rfl, fun j hj => hk j (by simp [hj]), hb⟩
 . rintro _ ⟨ks', st, s, rfl, hf, hr, hk, hb⟩
   have hr' : ks' = [] := by cases ks' with | nil => rfl | cons _ _ => cases hr
   subst hr'
   rw [pre] at hb
   first|apply aa|apply aq
   simp
   rw [<- hb] at hq; exact hq
end T
end
section
namespace T
open HH
noncomputable def bR : List Tr -> Bool
 | a :: b :: r => bz [a.h, a.w] [b.h, b.w] && bR (b :: r)
 | _ => true
noncomputable def Tr.k (x : Tr) : D := .tup [.int x.h, .int x.w]
theorem pO : ∀ pl : List Tr, (((pl.map Tr.k).zip (pl.map Tr.k).tail).map fun p => bz (cX p.1) (cX p.2)).all id = bR pl
 | [] => rfl
 | [_] => rfl
 | a :: b :: r => by
   have ih := pO (b :: r)
   simp only [List.map_cons, List.tail_cons, List.zip_cons_cons, List.all_cons, bR] at ih ⊢
   rw [ih]; rfl
noncomputable def JT : D -> D
 | .tup [a, b] => .bl (bz (cX a) (cX b))
 | d => d
inductive F1 (a0 : Sl) (ρ : List Sl) : Prop where
 | mk (s : Sl) (t : Sl) (q0 : ρ = [a0, s, t]) (q1 : fr s = true) (q2 : fr t = true)
theorem jU {bs : List Bool} : (bs.map D.bl).mapM uJ = some bs := by
 induction bs with
 | nil => rfl
 | cons b bs ih => simp [ih]
theorem Wv {a b : Tr} : cm .lt a.k b.k = some (bz (cX a.k) (cX b.k)) := rfl
theorem vV {w n : Nat} {b : Bool} {pl : List Tr} {Q : R -> List Sl -> Prop} (hl : pl.length <= 1000) (q : Q (.val (.bl (bR pl))) [.val b (.lst (pl.map Tr.k))]) :
 (run Γ w (n + 1) 4 [.own b (pl.map Tr.k)]).sat Q := by
 refine aX (d := f4) rfl rfl (by decide) ?_
 first|apply aa|apply aq
 have ec : cut (pl.map Tr.k) (some 1) none = (pl.map Tr.k).tail := by
  cases pl with
  | nil => rfl
  | cons a r => simp [cut, cN]; exact List.take_of_length_le (by simp)
 simp [f4, JD, part, Br, ec]
 refine ⟨fun _ => ?_, by show _ <= 16777217; omega⟩
 refine dY (F1 _) JT ⟨.aV, .aV, rfl, rfl, rfl⟩ ?_ ?_
 . rintro d hd _ ⟨s, t, rfl, hs, ht⟩
   obtain ⟨⟨x, y⟩, hxy, rfl⟩ := List.mem_map.mp hd
   have hx := List.of_mem_zip hxy
   obtain ⟨a, _, rfl⟩ := List.mem_map.mp hx.1
   obtain ⟨c, _, rfl⟩ := List.mem_map.mp (List.mem_of_mem_tail hx.2)
   simp [hs, ht, Wv, JT]
   exact ⟨_, _, rfl, rfl, rfl⟩
 . rintro _ ⟨s, t, rfl, hs, ht⟩
   have e := pO pl
   have e2 : (((pl.map Tr.k).zip (pl.map Tr.k).tail).map fun p => D.tup [p.1, p.2]).map JT = ((((pl.map Tr.k).zip (pl.map Tr.k).tail).map fun p => bz (cX p.1) (cX p.2))).map D.bl := by
    rw [List.map_map, List.map_map]; rfl
   rw [e2]
   simp only [lC, mV, jU, Option.map_some, bU, bf, jr, e]
   simp
   exact q
noncomputable def wR (x : Tr) : Bool := decide (0 <= x.h) && decide (1 <= x.l)
noncomputable def Um (d : D) : D := .bl (wR (pF d))
noncomputable def Lh (d : D) : D := (pF d).k
inductive F3 (a0 : Sl) (ρ : List Sl) : Prop where
 | mk (s : Sl) (t : Sl) (u : Sl) (q0 : ρ = [a0, s, t, u]) (q1 : fr s = true) (q2 : fr t = true) (q3 : fr u = true)
theorem nu {w n : Nat} {s0 : Sl} {pl : List Tr} {Q : R -> List Sl -> Prop} (hs0 : LS s0 (pl.map Tr.d)) (hl : pl.length <= 1000) (q : Q (.val (.bl (pl.all wR && bR pl))) [s0]) :
 (run Γ w (n + 2) 5 [s0]).sat Q := by
 have hlim : pl.length <= lim := by show _ <= 16777216; omega
 refine aX (d := f5) rfl rfl (by decide) ?_
 first|apply aa|apply aq
 obtain ⟨s', e1, e2⟩ := gF (ρ := [s0]) (k := 0) (e := ev (run Γ w (n + 1)) (.var 0)) rfl hs0
 simp [f5, -cC, -bJ, e1, hlim]
 refine dY (F3 _) Um ⟨.aV, .aV, .aV, rfl, rfl, rfl, rfl⟩ ?_ ?_
 . rintro d hd _ ⟨s, t, u, rfl, hs, ht, hu⟩
   obtain ⟨x, _, rfl⟩ := List.mem_map.mp hd
   by_cases c : 0 <= x.h
   . simp [hs, ht, hu, Tr.d, c, Um, wR]
     first | exact ⟨_, _, _, rfl, rfl, rfl, rfl⟩ | exact ⟨rfl, _, _, _, rfl, rfl, rfl, rfl⟩
   . simp [hs, ht, hu, Tr.d, c, Um, wR]
     first | exact ⟨_, _, _, rfl, rfl, rfl, rfl⟩ | exact ⟨rfl, _, _, _, rfl, rfl, rfl, rfl⟩
 rintro _ ⟨s, t, u, rfl, hs, ht, hu⟩
 have e3 : (pl.map Tr.d).map Um = (pl.map wR).map D.bl := by rw [List.map_map, List.map_map]; rfl
 have e4 : (pl.map wR).all id = pl.all wR := by rw [List.all_map]; rfl
 rw [e3]
 simp only [List.take_succ_cons, List.take_zero]
 rw [e2 _ rfl]
 simp only [lC, mV, jU, Option.map_some, bU, bf, jr, e4]
 simp only [Aj, Ci, bU, List.set_cons_zero]
 cases hc : pl.all wR with
 | false =>
   rw [hc] at q
   simp
   apply aa
   simp
   simpa using q
 | true =>
   rw [hc] at q
   simp
   apply aa
   simp [-cC, -bJ, e1, hlim]
   refine dY (F3 _) Lh ⟨.aV, .aV, .aV, rfl, rfl, rfl, rfl⟩ ?_ ?_
   . rintro d hd _ ⟨s, t, u, rfl, hs, ht, hu⟩
     obtain ⟨x, _, rfl⟩ := List.mem_map.mp hd
     simp [hs, ht, hu, Tr.d, Lh]
     first | exact ⟨_, _, _, rfl, rfl, rfl, rfl⟩ | exact ⟨rfl, _, _, _, rfl, rfl, rfl, rfl⟩
   rintro _ ⟨s, t, u, rfl, hs, ht, hu⟩
   have e5 : (pl.map Tr.d).map Lh = pl.map Tr.k := by rw [List.map_map]; rfl
   rw [e5]
   simp only [List.take_succ_cons, List.take_zero]
   rw [e2 _ rfl]
   simp
   refine vV hl ?_
   simpa using q
noncomputable def vK (ws : List Wy) (last : Int) (x : Tr) : Prop := lR ws x /\ x.l <= (wy ws x.w).r /\ cA ws x <= last
noncomputable def mq (ws : List Wy) (last : Int) (x : Tr) : Bool := @decide (vK ws last x) (Classical.propDecidable _)
theorem o4 {ws : List Wy} {last : Int} {x : Tr} : mq ws last x = true ↔ vK ws last x := by unfold mq; simp
theorem qN {ws : List Wy} {last : Int} {x : Tr} (h : ¬ vK ws last x) : mq ws last x = false := by unfold mq; simp [h]
theorem Ck {w n : Nat} {m last : Int} {ws : List Wy} {x : Tr} {Q : R -> List Sl -> Prop} (q : Q (.val (.bl (mq ws last x))) [.val false (bj m ws), .val false (.int last), .val false x.d]) :
 (run Γ w (n + 2) 6 [.val false (bj m ws), .val false (.int last), .val false x.d]).sat Q := by
 refine aX (d := f6) rfl rfl (by decide) ?_
 first|apply aa|apply aq
 by_cases c0 : 0 <= x.w
 . by_cases c1 : x.w < (ws.length : Int)
   . obtain ⟨hg, hm⟩ := fP c0 c1
     by_cases c2 : x.l <= (wy ws x.w).r
     . simp [f6, uc, kh, Cr, c0, c1, hg, Mq, c2]
       refine iG c0 c1 ?_
       simp
       have : mq ws last x = decide (x.h + (wy ws x.w).h <= last) := by
        rw [Bool.eq_iff_iff, o4, decide_eq_true_eq]
        exact ⟨fun h => h.2.2, fun h => ⟨⟨c0, c1⟩, c2, h⟩⟩
       rw [this] at q
       exact q
     . rw [qN fun h => c2 h.2.1] at q
       simp [f6, kh, Cr, c0, c1, hg, Mq, c2]
       exact q
   . rw [qN fun h => c1 h.1.2] at q
     simp [f6, kh, c0, c1]
     exact q
 . rw [qN fun h => c0 h.1.1] at q
   simp [f6, kh, c0]
   exact q
inductive ZF (a0 a1 a2 : Sl) (ρ : List Sl) : Prop where
 | mk (s : Sl) (q0 : ρ = [a0, a1, a2, s]) (q1 : fr s = true)
structure oX (m : Int) (ws : List Wy) (last : Int) (pl : List Tr) : Prop where
 ok : pl.all wR = true
 DY : bR pl = true
 fit : ∀ x ∈ pl, vK ws last x
 st : ∀ p, 1 <= p -> p < m -> ∀ t, 0 <= stP ws pl p (dW t)
noncomputable def Lk (ws : List Wy) (last : Int) (d : D) : D := .bl (mq ws last (pF d))
theorem Kq {ws : List Wy} {last : Int} {x : Tr} : Lk ws last x.d = .bl (mq ws last x) := rfl
noncomputable def gQ (ws : List Wy) (pl : List Tr) (p : Int) : Bool := @decide (∀ t, 0 <= stP ws pl p (dW t)) (Classical.propDecidable _)
noncomputable def vp (ws : List Wy) (pl : List Tr) (d : D) : D := .bl (gQ ws pl (dj d))
theorem run_eq {x : Res R} {r : R} {ρ : List Sl} (h : x.sat fun a b => a = r /\ b = ρ) : x = .ok r ρ := by
 obtain ⟨a, b, e, rfl, rfl⟩ := sat_iff.mp h
 exact e
theorem zj {w n : Nat} {a0 a1 s2 : Sl} {pl : List Tr} (hs : LS s2 (pl.map Tr.d)) (hl : pl.length <= 1000) : ev (run Γ w (n + 2)) (.call 5 [.var 2]) [a0, a1, s2] = .ok (.val (.bl (pl.all wR && bR pl))) [a0, a1, s2] := by
 refine run_eq ?_
 rcases hs with ⟨b, rfl⟩ | ⟨b, rfl⟩
 . simp
   refine nu (.inl ⟨_, rfl⟩) hl ?_
   simp
 . simp
   refine nu (.inr ⟨_, rfl⟩) hl ?_
   simp
theorem CN {w n : Nat} {m p : Int} {a1 s2 : Sl} {ws : List Wy} {pl : List Tr} (hs : LS s2 (pl.map Tr.d)) (hw : ∀ x ∈ pl, lR ws x) (hne : ∀ v ∈ ws, v.s ≠ v.t) (hl : pl.length < 64) :
 ev (run Γ w (n + 3)) (.call 8 [.var 0, .var 2, .var 3]) [.val false (bj m ws), a1, s2, .val false (.int p)] = .ok (.val (.bl (gQ ws pl p))) [.val false (bj m ws), a1, s2, .val false (.int p)] := by
 have e : ∀ r : Bool, (r = true ↔ ∀ t, 0 <= stP ws pl p (dW t)) -> r = gQ ws pl p := fun r hr => by
  rw [Bool.eq_iff_iff, hr]; unfold gQ; simp
 refine run_eq ?_
 rcases hs with ⟨b, rfl⟩ | ⟨b, rfl⟩
 . simp
   refine p8 (.inl ⟨_, rfl⟩) hw hne hl fun r hr => ?_
   simp [e r hr]
 . simp
   refine p8 (.inr ⟨_, rfl⟩) hw hne hl fun r hr => ?_
   simp [e r hr]
theorem gn {w n : Nat} {m last : Int} {s2 : Sl} {ws : List Wy} {pl : List Tr} {Q : R -> List Sl -> Prop} (hs2 : LS s2 (pl.map Tr.d)) (hm : 0 <= m /\ m <= 1000) (hne : ∀ v ∈ ws, v.s ≠ v.t) (hl : pl.length < 64)
 (q : ∀ r : Bool, (r = true ↔ oX m ws last pl) -> Q (.val (.bl r)) [.val false (bj m ws), .val false (.int last), s2]) :
 (run Γ w (n + 4) 9 [.val false (bj m ws), .val false (.int last), s2]).sat Q := by
 have hlim : pl.length <= lim := by show _ <= 16777216; omega
 refine aX (d := f9) rfl rfl (by decide) ?_
 first|apply aa|apply aq
 obtain ⟨s', g1, g2⟩ := gF (ρ := [.val false (bj m ws), .val false (.int last), s2]) (k := 2) (e := ev (run Γ w (n + 3)) (.var 2)) rfl hs2
 simp [f9, -Aa, zj hs2 (show pl.length <= 1000 by omega), -cC, -bJ]
 refine ⟨fun c1 => ?_, fun c1 c2 => ?_⟩
 . first|apply aa|apply aq
   simp
   refine q false ⟨fun h => (by cases h), fun h => ?_⟩
   rcases c1 with ⟨x, hx, hz⟩ | hz
   . have := List.all_eq_true.mp h.ok x hx; rw [hz] at this; cases this
   . have := h.DY; rw [hz] at this; cases this
 simp [g1, hlim, -cC, -bJ]
 refine dY (ZF _ _ _) (Lk ws last) ⟨.aV, rfl, rfl⟩ ?_ ?_
 . rintro d hd _ ⟨s, rfl, hs⟩
   obtain ⟨x, _, rfl⟩ := List.mem_map.mp hd
   simp [hs]
   refine Ck ?_
   simp [Kq]
   exact ⟨_, rfl, rfl⟩
 rintro _ ⟨s, rfl, hs⟩
 have e1 : (pl.map Tr.d).map (Lk ws last) = (pl.map (mq ws last)).map D.bl := by rw [List.map_map, List.map_map]; rfl
 have e4 : (pl.map (mq ws last)).all id = pl.all (mq ws last) := by rw [List.all_map]; rfl
 rw [e1]
 simp only [List.take_succ_cons, List.take_zero]
 rw [g2 _ rfl]
 simp only [lC, mV, jU, Option.map_some, bU, bf, jr, e4]
 simp only [Aj, Ci, bU, List.set_cons_zero, List.set_cons_succ]
 cases hc : pl.all (mq ws last) with
 | false =>
   simp
   apply aa
   simp
   refine q false ⟨fun h => (by cases h), fun h => ?_⟩
   rw [List.all_eq_true.mpr fun x hx => o4.mpr (h.fit x hx)] at hc
   cases hc
 | true =>
   have hf : ∀ x ∈ pl, vK ws last x := fun x hx => o4.mp (List.all_eq_true.mp hc x hx)
   simp
   apply aa
   simp [show m <= 1000000000 by omega, show -1000000000 <= m by omega]
   refine ⟨fun _ => ?_, by omega⟩
   refine dY (ZF _ _ _) (vp ws pl) ⟨.aV, rfl, rfl⟩ ?_ ?_
   . rintro d hd _ ⟨s, rfl, hs⟩
     obtain ⟨k, _, rfl⟩ := List.mem_map.mp hd
     simp [hs, -Aa, CN hs2 (fun x hx => (hf x hx).1) hne hl, vp]
     exact ⟨_, rfl, rfl⟩
   rintro _ ⟨s, rfl, hs⟩
   generalize hL : (List.range (m.toNat - 1)).map (fun (k : Nat) => (1 + (k : Int))) = L
   have e2 : ((List.range (m.toNat - 1)).map fun (k : Nat) => D.int (1 + (k : Int))).map (vp ws pl) = (L.map (gQ ws pl)).map D.bl := by
    rw [<- hL, List.map_map, List.map_map, List.map_map]; rfl
   have e5 : (L.map (gQ ws pl)).all id = L.all (gQ ws pl) := by rw [List.all_map]; rfl
   rw [e2]
   simp only [lC, mV, jU, Option.map_some, bU, bf, jr, e5]
   simp
   refine q _ ?_
   rw [List.all_eq_true]
   constructor
   . intro h
     refine ⟨?_, ?_, hf, fun p h1 h2 => ?_⟩
     . rw [List.all_eq_true]; exact c1
     . exact c2
     . have : p ∈ L := by
        rw [<- hL, List.mem_map]
        exact ⟨(p - 1).toNat, by rw [List.mem_range]; omega, by omega⟩
       have := h p this
       unfold gQ at this; simpa using this
   . intro h p hp
     rw [<- hL, List.mem_map] at hp
     obtain ⟨k, hk, rfl⟩ := hp
     rw [List.mem_range] at hk
     unfold gQ
     simp only [decide_eq_true_eq]
     exact h.st _ (by omega) (by omega)
end T
end
section
namespace T
open HH
theorem tX {w n : Nat} {m : Int} {ws : List Wy} {x : Tr} {Q : R -> List Sl -> Prop} (h : lR ws x) (q : Q (.val (.int (cA ws x))) [.val false (bj m ws), .val false x.d]) :
 (run Γ w (n + 1) 20 [.val false (bj m ws), .val false x.d]).sat Q := by
 refine aX (d := Ug) rfl rfl (by decide) ?_
 first|apply aa|apply aq
 unfold cA at q
 simpa [Ug, uc, kh, (fP h.1 h.2).1, K9] using q
noncomputable def xn (ws : List Wy) (g : Wy -> Int) (p : Int) (d : D) : Option D := if g (wy ws (pF d).w) = p then some d else none
theorem jD {ws : List Wy} {g : Wy -> Int} {p : Int} {x : Tr} : xn ws g p x.d = if g (wy ws x.w) = p then some x.d else none := rfl
theorem oY {ws : List Wy} {g : Wy -> Int} {p : Int} : ∀ {pl : List Tr}, (pl.map Tr.d).filterMap (xn ws g p) = (pl.filter fun x => decide (g (wy ws x.w) = p)).map Tr.d
 | [] => rfl
 | x :: pl => by
   rw [List.map_cons, List.filterMap_cons, jD, List.filter_cons, oY]
   by_cases h : g (wy ws x.w) = p <;> simp [h]
noncomputable def ye (g : Tr -> Int) (t : Int) (d : D) : Option D := if g (pF d) <= t then some (.int (pF d).l) else none
theorem iM {g : Tr -> Int} {t : Int} {x : Tr} : ye g t x.d = if g x <= t then some (.int x.l) else none := rfl
theorem nG {g : Tr -> Int} {f : Wy -> Int} {ws : List Wy} {p t : Int} : ∀ {pl : List Tr}, ∃ ns : List Int, ((pl.filter fun x => decide (f (wy ws x.w) = p)).map Tr.d).filterMap (ye g t) = ns.map D.int /\ ns.sum = sm (fun x => if f (wy ws x.w) = p /\ dW t (g x) = true then x.l else 0) pl
 | [] => ⟨[], rfl, rfl⟩
 | x :: pl => by
   obtain ⟨ns, h1, h2⟩ := nG (g := g) (f := f) (ws := ws) (p := p) (t := t) (pl := pl)
   by_cases h : f (wy ws x.w) = p
   . by_cases c : g x <= t
     . exact ⟨x.l :: ns, by rw [List.filter_cons, if_pos (by simpa using h), List.map_cons, List.filterMap_cons, iM, if_pos c, h1]; rfl, by simp [h, c, h2, dW]⟩
     . exact ⟨ns, by rw [List.filter_cons, if_pos (by simpa using h), List.map_cons, List.filterMap_cons, iM, if_neg c, h1], by simp [h, c, h2, dW]⟩
   . exact ⟨ns, by rw [List.filter_cons, if_neg (by simpa using h), h1], by simp [h, h2]⟩
theorem Bm {w n : Nat} {m p t : Int} {ws : List Wy} {pl : List Tr} {s1 : Sl} {Q : R -> List Sl -> Prop} (hs : LT s1 (pl.map Tr.d)) (hw : ∀ x ∈ pl, lR ws x) (hl : pl.length <= 1000)
 (q : Q (.val (.int (come ws pl p t))) [.val false (bj m ws), s1, .val false (.int p), .val false (.int t)]) :
 (run Γ w (n + 2) 21 [.val false (bj m ws), s1, .val false (.int p), .val false (.int t)]).sat Q := by
 have hlim : pl.length <= lim := by show _ <= 16777216; omega
 refine aX (d := U5) rfl rfl (by decide) ?_
 first|apply aa|apply aq
 obtain ⟨s', e1, e2⟩ := sV (ρ := [.val false (bj m ws), s1, .val false (.int p), .val false (.int t), .aV]) (k := 1) (e := ev (run Γ w (n + 1)) (.var 1)) rfl hs
 simp [U5, -cC, -bJ, e1, hlim]
 refine dX (F5 _ _ _ _ _) (xn ws Wy.t p) ⟨.aV, rfl, rfl⟩ ?_ ?_
 . rintro d hd _ ⟨s, rfl, hs⟩
   obtain ⟨x, hx, rfl⟩ := List.mem_map.mp hd
   have hg := (fP (hw x hx).1 (hw x hx).2).1
   by_cases c : (wy ws x.w).t = p
   . simp [hs, kh, hg, yX, c, jD]
     exact ⟨_, rfl, rfl⟩
   . simp [hs, kh, hg, yX, c, jD]
     exact ⟨_, rfl, rfl⟩
 rintro _ ⟨s, rfl, hs⟩
 rw [oY]
 simp [-bJ]
 rw [e2 _ rfl]
 simp
 apply aa
 have hf : ((pl.filter fun x => decide ((wy ws x.w).t = p)).length) <= lim := Nat.le_trans (List.length_filter_le _ _) hlim
 simp [hf]
 refine dX (F5 _ _ _ _ _) (ye (cA ws) t) ⟨.aV, rfl, rfl⟩ ?_ ?_
 . rintro d hd _ ⟨s, rfl, hs⟩
   obtain ⟨x, hx, rfl⟩ := List.mem_map.mp hd
   have hx' := hw x (List.mem_filter.mp hx).1
   simp [hs]
   refine tX hx' ?_
   by_cases c : cA ws x <= t
   . simp [c, Cr, iM]
     exact ⟨_, rfl, rfl⟩
   . simp [c, iM]
     exact ⟨_, rfl, rfl⟩
 rintro _ ⟨s, rfl, hs⟩
 obtain ⟨ns, e3, e4⟩ := nG (g := cA ws) (f := Wy.t) (ws := ws) (p := p) (t := t) (pl := pl)
 rw [e3]
 simp
 rw [e4]
 exact q
theorem Cz {w n : Nat} {m p t : Int} {ws : List Wy} {pl : List Tr} {s1 : Sl} {Q : R -> List Sl -> Prop} (hs : LT s1 (pl.map Tr.d)) (hw : ∀ x ∈ pl, lR ws x) (hl : pl.length <= 1000)
 (q : Q (.val (.int (left ws pl p t))) [.val false (bj m ws), s1, .val false (.int p), .val false (.int t)]) :
 (run Γ w (n + 1) 22 [.val false (bj m ws), s1, .val false (.int p), .val false (.int t)]).sat Q := by
 have hlim : pl.length <= lim := by show _ <= 16777216; omega
 refine aX (d := Ud) rfl rfl (by decide) ?_
 first|apply aa|apply aq
 obtain ⟨s', e1, e2⟩ := sV (ρ := [.val false (bj m ws), s1, .val false (.int p), .val false (.int t), .aV]) (k := 1) (e := ev (run Γ w n) (.var 1)) rfl hs
 simp [Ud, -cC, -bJ, e1, hlim]
 refine dX (F5 _ _ _ _ _) (xn ws Wy.s p) ⟨.aV, rfl, rfl⟩ ?_ ?_
 . rintro d hd _ ⟨s, rfl, hs⟩
   obtain ⟨x, hx, rfl⟩ := List.mem_map.mp hd
   have hg := (fP (hw x hx).1 (hw x hx).2).1
   by_cases c : (wy ws x.w).s = p
   . simp [hs, kh, hg, qH, c, jD]
     exact ⟨_, rfl, rfl⟩
   . simp [hs, kh, hg, qH, c, jD]
     exact ⟨_, rfl, rfl⟩
 rintro _ ⟨s, rfl, hs⟩
 rw [oY]
 simp [-bJ]
 rw [e2 _ rfl]
 simp
 apply aa
 have hf : ((pl.filter fun x => decide ((wy ws x.w).s = p)).length) <= lim := Nat.le_trans (List.length_filter_le _ _) hlim
 simp [hf]
 refine dX (F5 _ _ _ _ _) (ye Tr.h t) ⟨.aV, rfl, rfl⟩ ?_ ?_
 . rintro d hd _ ⟨s, rfl, hs⟩
   obtain ⟨x, hx, rfl⟩ := List.mem_map.mp hd
   by_cases c : x.h <= t
   . simp [hs, uc, c, Cr, iM]
     exact ⟨_, rfl, rfl⟩
   . simp [hs, uc, c, iM]
     exact ⟨_, rfl, rfl⟩
 rintro _ ⟨s, rfl, hs⟩
 obtain ⟨ns, e3, e4⟩ := nG (g := Tr.h) (f := Wy.s) (ws := ws) (p := p) (t := t) (pl := pl)
 rw [e3]
 simp
 rw [e4]
 exact q
end T
end
section
namespace T
open HH
noncomputable def Wu (ws : List Wy) (pl : List Tr) : Prop := ∀ p, 1 <= p -> ∀ t, left ws pl p t <= come ws pl p t
structure Pl (last : Int) (ws : List Wy) (pl : List Tr) : Prop where
 ok : ∀ x ∈ pl, 0 <= x.h /\ 1 <= x.l /\ vK ws last x
 DY : bR pl = true
 MJ : Wu ws pl
theorem Pl.Ab {last : Int} {ws : List Wy} {pl : List Tr} (h : Pl last ws pl) : ∀ x ∈ pl, lR ws x := fun x hx => (h.ok x hx).2.2.1
theorem Pl.right {m last : Int} {ws : List Wy} {pl : List Tr} (h : Pl last ws pl) : oX m ws last pl := by
 refine ⟨?_, h.DY, fun x hx => (h.ok x hx).2.2, fun p h1 _ t => ?_⟩
 . rw [List.all_eq_true]; intro x hx; have := h.ok x hx; simp [wR, this]
 . rw [oV]; have := h.MJ p h1 t; omega
theorem yM {ws : List Wy} {pl : List Tr} {p t u : Int} (hl : ∀ x ∈ pl, 0 <= x.l) (h : t <= u) : come ws pl p t <= come ws pl p u := by
 refine HX fun x hx => ?_
 have := hl x hx
 unfold uZ dW
 simp only [decide_eq_true_eq]
 split <;> split <;> omega
theorem zx {ws : List Wy} {pl : List Tr} {p t u : Int} (hh : ∀ x ∈ pl, x.h <= t) (h : t <= u) : left ws pl p u = left ws pl p t := by
 refine cP fun x hx => ?_
 have := hh x hx
 unfold vI dW
 simp only [decide_eq_true_eq, show x.h <= u by omega, this]
theorem FJ {ws : List Wy} {pl : List Tr} {y : Tr} (hb : Wu ws pl) (hl : ∀ x ∈ pl, 0 <= x.l) (hh : ∀ x ∈ pl, x.h <= y.h) (h0 : 0 <= y.l) (hs : 1 <= (wy ws y.w).s -> y.l <= come ws pl (wy ws y.w).s y.h - left ws pl (wy ws y.w).s y.h) : Wu ws (pl ++ [y]) := by
 intro p hp t
 have b := hb p hp t
 have e1 : left ws (pl ++ [y]) p t = left ws pl p t + vI ws p (dW t) y := by unfold left; rw [vq]; simp
 have e2 : come ws (pl ++ [y]) p t = come ws pl p t + uZ ws p (dW t) y := by unfold come; rw [vq]; simp
 have e3 : 0 <= uZ ws p (dW t) y := by unfold uZ; split <;> omega
 rw [e1, e2]
 unfold vI
 split
 . rename_i c
   obtain ⟨c1, c2⟩ := c
   simp only [dW, decide_eq_true_eq] at c2
   subst c1
   have := hs hp
   have := yM (ws := ws) (p := (wy ws y.w).s) hl c2
   have := zx (ws := ws) (p := (wy ws y.w).s) hh c2
   omega
 . omega
theorem qd {y : Tr} : ∀ {pl : List Tr}, bR pl = true -> (∀ x ∈ pl, bz [x.h, x.w] [y.h, y.w] = true) -> bR (pl ++ [y]) = true
 | [], _, _ => rfl
 | [a], _, h => by simp only [List.cons_append, List.nil_append, bR, Bool.and_true]; exact h a (by simp)
 | a :: b :: r, h1, h2 => by
   simp only [List.cons_append, bR, Bool.and_eq_true] at h1 ⊢
   exact ⟨h1.1, qd (pl := b :: r) h1.2 fun x hx => h2 x (by simp [hx])⟩
noncomputable def R6 (hr wn : Int) (pl : List Tr) : Prop := ∀ x ∈ pl, x.h < hr \/ x.h = hr /\ x.w < wn
inductive JPi (y m last most hr : Int) (ws : List Wy) (i : Nat) (ρ : List Sl) : Prop where
 | mk (x z : Int) (pl : List Tr) (s6 s7 s8 s9 je qj s12 rm : Sl) (q0 : ρ = [.own true [.int x, .int y, .int z], .val false (bj m ws), .val false (.int last), .val false (.int most), .own false (pl.map Tr.d), .val false (.int hr), s6, s7, s8, s9, je, qj, s12, rm]) (q1 : A8 (fr s6 = true) (fr s7 = true) (fr s8 = true) (fr s9 = true) (fr je = true) (fr qj = true) (fr s12 = true) (fr rm = true)) (q2 : Pl last ws pl) (q3 : R6 hr i pl) (q4 : (pl.length : Int) <= most)
inductive JPo (y m last most : Int) (ws : List Wy) (i : Nat) (ρ : List Sl) : Prop where
 | mk (x z : Int) (pl : List Tr) (s5 s6 s7 s8 s9 je qj s12 rm : Sl) (q0 : ρ = [.own true [.int x, .int y, .int z], .val false (bj m ws), .val false (.int last), .val false (.int most), .own false (pl.map Tr.d), s5, s6, s7, s8, s9, je, qj, s12, rm]) (q1 : A9 (fr s5 = true) (fr s6 = true) (fr s7 = true) (fr s8 = true) (fr s9 = true) (fr je = true) (fr qj = true) (fr s12 = true) (fr rm = true)) (q2 : Pl last ws pl) (q3 : R6 i 0 pl) (q4 : (pl.length : Int) <= most)
theorem J7 {last hr l : Int} {ws : List Wy} {pl : List Tr} {i : Nat} (h : Pl last ws pl) (hb : R6 hr i pl) (h0 : 0 <= hr) (hi : i < ws.length) (l0 : 1 <= l) (l1 : l <= (wy ws i).r) (ho : hr + (wy ws i).h <= last) (hs : 1 <= (wy ws i).s -> l <= come ws pl (wy ws i).s hr - left ws pl (wy ws i).s hr) :
 Pl last ws (pl ++ [⟨hr, i, l⟩]) /\ R6 hr (i + 1 : Nat) (pl ++ [⟨hr, i, l⟩]) := by
 refine ⟨⟨fun x hx => ?_, qd h.DY fun x hx => ?_, FJ h.MJ (fun x hx => ?_) (fun x hx => ?_) (by show 0 <= l; omega) hs⟩, fun x hx => ?_⟩
 . rcases List.mem_append.mp hx with hx | hx
   . exact h.ok x hx
   . rw [List.mem_singleton.mp hx]
     exact ⟨h0, l0, ⟨by show 0 <= (i : Int); omega, by show (i : Int) < _; omega⟩, l1, ho⟩
 . have := hb x hx
   simp [bz]; omega
 . have := h.ok x hx; omega
 . have := hb x hx; show x.h <= hr; omega
 . rcases List.mem_append.mp hx with hx | hx
   . have := hb x hx; omega
   . rw [List.mem_singleton.mp hx]; exact .inr ⟨rfl, by show (i : Int) < _; omega⟩
theorem qm {w n : Nat} {x y z m last most : Int} {ws : List Wy} {Q : R -> List Sl -> Prop} (hk : iD m ws) (l0 : 0 <= last) (l1 : last <= 1000) (k0 : 0 <= most) (k1 : most <= 1000)
 (q : ∀ (pl : List Tr) (x z : Int), Pl last ws pl -> (pl.length : Int) <= most -> Q (.own (pl.map Tr.d)) [.own true [.int x, .int y, .int z], .val false (bj m ws), .val false (.int last), .val false (.int most)]) :
 (run Γ w (n + 3) 23 [.own true [.int x, .int y, .int z], .val false (bj m ws), .val false (.int last), .val false (.int most)]).sat Q := by
 have hlen := hk.len
 refine aX (d := TY) rfl rfl (by decide) ?_
 first|apply aa|apply aq
 simp [TY]
 apply aa
 simp
 refine ⟨by omega, ?_⟩
 refine eZ (JPo y m last most ws) ?_ ?_ ⟨x, z, [], .aV, .aV, .aV, .aV, .aV, .aV, .aV, .aV, .aV, rfl, ⟨rfl, rfl, rfl, rfl, rfl, rfl, rfl, rfl, rfl⟩, ⟨by simp, rfl, fun p hp t => by simp [left, come]⟩, by simp [R6], by simpa using k0⟩
 . rintro i _ hi ⟨x, z, pl, s5, s6, s7, s8, s9, je, qj, s12, rm, rfl, ⟨h5, h6, h7, h8, h9, h10, h11, h12, h13⟩, hp, hb, hn⟩
   simp [h5]
   apply aa
   simp
   refine ⟨by omega, ?_⟩
   refine eZ (JPi y m last most i ws) ?_ ?_ ⟨x, z, pl, s6, s7, s8, s9, je, qj, s12, rm, rfl, ⟨h6, h7, h8, h9, h10, h11, h12, h13⟩, hp, hb, hn⟩
   . rintro j _ hj ⟨x, z, pl, s6, s7, s8, s9, je, qj, s12, rm, rfl, ⟨h6, h7, h8, h9, h10, h11, h12, h13⟩, hp, hb, hn⟩
     obtain ⟨hg, hmem⟩ := fP (ws := ws) (k := (j : Int)) (by omega) (by omega)
     have hv := hk.ok _ hmem
     have Tt := hp.Ab
     generalize Zi : wy ws (j : Int) = v at *
     simp [h6]
     apply aa
     simp [hg, Wy.d, h7, h8, h9, h10]
     apply aa
     simp [h11]
     have hr0 := hv.r0
     have hr1 := hv.r1
     refine iT (fun ρ => ∃ (free : Int) (s12 : Sl), ρ = [.own true [.int x, .int y, .int z], .val false (bj m ws), .val false (.int last), .val false (.int most), .own false (pl.map Tr.d), .val false (.int i), .val false (.int j), .val false (.int v.s), .val false (.int v.t), .val false (.int v.r), .val false (.int v.h), .val false (.int free), s12, rm] /\ fr s12 = true /\ free <= v.r /\ (1 <= v.s -> free <= come ws pl v.s i - left ws pl v.s i)) ?_ ?_
     . by_cases c : 0 < v.s
       . simp [c]
         first|apply aa|apply aq
         simp
         refine Bm (.inl (.inl ⟨_, rfl⟩)) Tt (by omega) ?_
         simp [h12]
         apply aa
         simp
         refine Cz (.inl (.inl ⟨_, rfl⟩)) Tt (by omega) ?_
         simp
         apply aa
         simp
         refine ⟨_, _, ⟨rfl, rfl⟩, rfl, ?_, fun _ => ?_⟩
         . split <;> omega
         . split <;> omega
       . simp [c]
         exact ⟨_, _, ⟨rfl, rfl⟩, h12, Int.le_refl _, fun h => absurd h (by omega)⟩
     rintro _ ⟨free, s12, rfl, h12, f1, f2⟩
     refine iT (fun ρ => ∃ (free : Int), ρ = [.own true [.int x, .int y, .int z], .val false (bj m ws), .val false (.int last), .val false (.int most), .own false (pl.map Tr.d), .val false (.int i), .val false (.int j), .val false (.int v.s), .val false (.int v.t), .val false (.int v.r), .val false (.int v.h), .val false (.int free), s12, rm] /\ free <= v.r /\ (1 <= v.s -> 0 < free -> free <= come ws pl v.s i - left ws pl v.s i) /\ (0 < free -> (i : Int) + v.h <= last /\ (pl.length : Int) + 1 <= most)) ?_ ?_
     . by_cases c1 : last < (i : Int) + v.h
       . simp [c1]
         first|apply aa|apply aq
         simp
         exact hr0
       . by_cases c2 : (pl.length : Int) = most
         . simp [c1, c2]
           first|apply aa|apply aq
           simp
           exact hr0
         . simp [c1, c2]
           exact ⟨f1, fun h _ => f2 h, fun _ => ⟨by omega, by omega⟩⟩
     rintro _ ⟨free, rfl, f1, f2, f3⟩
     first|apply aa|apply aq
     by_cases c : 0 < free
     . simp [c]
       refine bw (by decide) (by decide) fun d x z d0 d1 => ?_
       by_cases c3 : 0 < d
       . simp [c3]
         first|apply aa|apply aq
         simp
         refine bw (by decide) (by decide) fun a x z a0 a1 => ?_
         simp
         refine bw c (wj (by omega)) fun e x z e0 e1 => ?_
         simp [show -18446744073709551616 < a by omega, show a < 18446744073709551616 by omega, h13]
         have hae : 0 <= a * e /\ a * e <= e := by
          have : a = 0 \/ a = 1 := by omega
          rcases this with rfl | rfl
          . simp; omega
          . simp; omega
         first|apply aa|apply aq
         obtain ⟨f4, f5⟩ := f3 c
         simp [show pl.length < lim by show _ < 16777216; omega]
         obtain ⟨g1, g2⟩ := J7 (l := free - a * e) hp hb (by omega) hj (by omega) (by rw [Zi]; omega) (by rw [Zi]; omega) (by rw [Zi]; intro h; have := f2 h c; omega)
         exact ⟨x, z, pl ++ [⟨i, j, free - a * e⟩], .val false (.int j), .val false (.int v.s), .val false (.int v.t), .val false (.int v.r), .val false (.int v.h), .val false (.int free), s12, .val false (.int (a * e)), by simp [Tr.d], ⟨rfl, rfl, rfl, rfl, rfl, rfl, h12, rfl⟩, g1, g2, by simp; omega⟩
       . simp [c3]
         exact ⟨x, z, pl, _, _, _, _, _, _, _, _, rfl, ⟨rfl, rfl, rfl, rfl, rfl, rfl, h12, h13⟩, hp, fun x hx => by have := hb x hx; omega, hn⟩
     . simp [c]
       exact ⟨x, z, pl, _, _, _, _, _, _, _, _, rfl, ⟨rfl, rfl, rfl, rfl, rfl, rfl, h12, h13⟩, hp, fun x hx => by have := hb x hx; omega, hn⟩
   . rintro _ ⟨x, z, pl, s6, s7, s8, s9, je, qj, s12, rm, rfl, ⟨h6, h7, h8, h9, h10, h11, h12, h13⟩, hp, hb, hn⟩
     simp
     exact ⟨x, z, pl, _, _, _, _, _, _, _, _, _, rfl, ⟨rfl, h6, h7, h8, h9, h10, h11, h12, h13⟩, hp, fun x hx => by have := hb x hx; omega, hn⟩
 . rintro _ ⟨x, z, pl, s5, s6, s7, s8, s9, je, qj, s12, rm, rfl, _, hp, hb, hn⟩
   first|apply aa|apply aq
   simp
   exact q pl x z hp hn
end T
end
section
namespace T
open HH
noncomputable def su (a b : Int) (v : Wy) : Wy := ⟨v.s, v.t, v.r * b, v.h * a⟩
noncomputable def wZ (a b : Int) (x : Tr) : Tr := ⟨x.h * a, x.w, x.l * b⟩
theorem wO {a b k : Int} {ws : List Wy} : wy (ws.map (su a b)) k = su a b (wy ws k) := by
 unfold wy
 rw [List.getElem?_map]
 cases ws[k.toNat]? with
 | none => simp [su]
 | some v => rfl
theorem Dh {a b : Int} {ws : List Wy} {x : Tr} : cA (ws.map (su a b)) (wZ a b x) = cA ws x * a := by
 unfold cA
 show x.h * a + (wy (ws.map (su a b)) x.w).h = _
 rw [wO]
 show x.h * a + (wy ws x.w).h * a = _
 rw [Int.add_mul]
theorem Hz {a t k : Int} (h : 0 < a) : dW t (k * a) = dW (t / a) k := by
 unfold dW
 rw [decide_eq_decide]
 exact (Int.le_ediv_iff_mul_le h).symm
theorem Fb {a b p t : Int} {ws : List Wy} {pl : List Tr} (h : 0 < a) : come (ws.map (su a b)) (pl.map (wZ a b)) p t = come ws pl p (t / a) * b := by
 unfold come
 rw [qZ, <- Ax]
 refine cP fun x _ => ?_
 have e1 : (wy (ws.map (su a b)) (wZ a b x).w).t = (wy ws x.w).t := by show (wy _ x.w).t = _; rw [wO]; rfl
 have e2 : dW t (cA (ws.map (su a b)) (wZ a b x)) = dW (t / a) (cA ws x) := by rw [Dh, Hz h]
 unfold uZ
 by_cases c : (wy ws x.w).t = p /\ dW (t / a) (cA ws x) = true
 . rw [if_pos c, if_pos (by rw [e1, e2]; exact c)]; rfl
 . rw [if_neg c, if_neg (by rw [e1, e2]; exact c)]; simp
theorem G9 {a b p t : Int} {ws : List Wy} {pl : List Tr} (h : 0 < a) : left (ws.map (su a b)) (pl.map (wZ a b)) p t = left ws pl p (t / a) * b := by
 unfold left
 rw [qZ, <- Ax]
 refine cP fun x _ => ?_
 have e1 : (wy (ws.map (su a b)) (wZ a b x).w).s = (wy ws x.w).s := by show (wy _ x.w).s = _; rw [wO]; rfl
 have e2 : dW t (wZ a b x).h = dW (t / a) x.h := Hz h
 unfold vI
 by_cases c : (wy ws x.w).s = p /\ dW (t / a) x.h = true
 . rw [if_pos c, if_pos (by rw [e1, e2]; exact c)]; rfl
 . rw [if_neg c, if_neg (by rw [e1, e2]; exact c)]; simp
theorem Hh {a x y : Int} (h : 0 < a) : x * a < y * a ↔ x < y := Int.mul_lt_mul_right h
theorem Gj {a x y : Int} (h : 0 < a) : x * a = y * a ↔ x = y := Int.mul_eq_mul_right_iff (by omega)
theorem uB {a b : Int} (h : 0 < a) : ∀ {pl : List Tr}, bR (pl.map (wZ a b)) = bR pl
 | [] => rfl
 | [_] => rfl
 | x :: y :: r => by
   have ih := uB (a := a) (b := b) h (pl := y :: r)
   simp only [List.map_cons] at ih ⊢
   simp only [bR, ih]
   congr 1
   show bz [x.h * a, x.w] [y.h * a, y.w] = bz [x.h, x.w] [y.h, y.w]
   rw [Bool.eq_iff_iff]; simp [bz, Hh h, Gj h]
theorem Q7 {a b last : Int} {ws : List Wy} {pl : List Tr} (ha : 0 < a) (hb : 0 < b) (h : Pl last ws pl) : Pl (last * a) (ws.map (su a b)) (pl.map (wZ a b)) := by
 refine ⟨fun x hx => ?_, by rw [uB ha]; exact h.DY, fun p hp t => ?_⟩
 . obtain ⟨y, hy, rfl⟩ := List.mem_map.mp hx
   obtain ⟨h1, h2, ⟨h3, h3'⟩, h4, h5⟩ := h.ok y hy
   refine ⟨Int.mul_nonneg h1 (by omega), ?_, ⟨h3, by show y.w < ((ws.map _).length : Int); simpa using h3'⟩, ?_, ?_⟩
   . show 1 <= y.l * b
     have := Int.mul_le_mul h2 (show 1 <= b by omega) (by decide) (by omega)
     omega
   . show y.l * b <= (wy (ws.map (su a b)) y.w).r
     rw [wO]
     exact Int.mul_le_mul_of_nonneg_right h4 (by omega)
   . rw [Dh]; exact Int.mul_le_mul_of_nonneg_right h5 (by omega)
 . rw [Fb ha, G9 ha]
   exact Int.mul_le_mul_of_nonneg_right (h.MJ p hp _) (by omega)
theorem JL {a b m : Int} {ws : List Wy} (ha : 1 <= a) (ha2 : a <= 250000) (hb : 1 <= b) (hb2 : b <= 100000000) (h : iD m ws) (hs : ∀ v ∈ ws, v.r <= 9 /\ v.h <= 4) : iD m (ws.map (su a b)) := by
 refine ⟨h.m0, h.m1, by simpa using h.len, fun v hv => ?_⟩
 obtain ⟨u, hu, rfl⟩ := List.mem_map.mp hv
 have hok := h.ok u hu
 have := hs u hu
 have r0 := hok.r0
 have h0 := hok.h0
 have e1 : u.r * b <= 9 * b := Int.mul_le_mul_of_nonneg_right this.1 (by omega)
 have e2 : 0 <= u.r * b := Int.mul_nonneg r0 (by omega)
 have e3 : u.h * a <= 4 * a := Int.mul_le_mul_of_nonneg_right this.2 (by omega)
 have e4 : 1 * a <= u.h * a := Int.mul_le_mul_of_nonneg_right h0 (by omega)
 exact ⟨hok.s0, hok.s1, hok.t0, hok.t1, hok.ne, e2, by show u.r * b <= _; omega, by show 1 <= u.h * a; omega, by show u.h * a <= _; omega⟩
noncomputable def Sc (last : Int) (ws : List Wy) (pl : List Tr) (o9 : Int) (ws' : List Wy) (Pn : List Tr) : Prop := ∃ a b, 1 <= a /\ 1 <= b /\ ws' = ws.map (su a b) /\ Pn = pl.map (wZ a b) /\ o9 = last * a
theorem Jk {last : Int} {ws : List Wy} {pl : List Tr} : Sc last ws pl last ws pl := by
 refine ⟨1, 1, by decide, by decide, ?_, ?_, by simp⟩
 . exact (List.map_id'' (fun v => by simp [su]) ws).symm
 . exact (List.map_id'' (fun v => by simp [wZ]) pl).symm
inductive JG1 (a b : Int) (a0 a1 a2 a3 a4 a5 : Sl) (ws : List Wy) (r : List D) (ρ : List Sl) : Prop where
 | mk (us vs : List Wy) (s7 s8 s9 je : Sl) (q0 : ρ = [a0, a1, a2, a3, a4, a5, .own false ((vs.map (su a b)).map Wy.d), s7, s8, s9, je, .aV, .aV, .aV, .aV]) (q1 : A4 (fr s7 = true) (fr s8 = true) (fr s9 = true) (fr je = true)) (q2 : r = us.map Wy.d) (q3 : ws = vs ++ us)
inductive JG2 (a b : Int) (a0 a1 a2 a3 a4 a5 a6 a7 a8 a9 a10 : Sl) (pl : List Tr) (r : List D) (ρ : List Sl) : Prop where
 | mk (us vs : List Tr) (s12 rm NQ : Sl) (q0 : ρ = [a0, a1, a2, a3, a4, a5, a6, a7, a8, a9, a10, .own false ((vs.map (wZ a b)).map Tr.d), s12, rm, NQ]) (q1 : A3 (fr s12 = true) (fr rm = true) (fr NQ = true)) (q2 : r = us.map Tr.d) (q3 : pl = vs ++ us)
theorem yw {w n : Nat} {x y z m last : Int} {ws : List Wy} {pl : List Tr} {Q : R -> List Sl -> Prop} (hk : iD m ws) (hs : ∀ v ∈ ws, v.r <= 9 /\ v.h <= 4) (hp : Pl last ws pl) (hl : pl.length <= 45) (l0 : 1 <= last) (l1 : last <= 8)
 (q : ∀ (x z o9 : Int) (ws' : List Wy) (Pn : List Tr) (s2 : Sl), iD m ws' -> Pl o9 ws' Pn -> Pn.length = pl.length -> 1 <= o9 -> o9 <= 2000000 -> ((s2 = .own true (pl.map Tr.d)) \/ s2 = .val true (.lst (pl.map Tr.d))) -> Sc last ws pl o9 ws' Pn -> Q (.val (.tup [bj m ws', .lst (Pn.map Tr.d), .int o9])) [.own true [.int x, .int y, .int z], .val false (bj m ws), s2, .val false (.int last)]) :
 (run Γ w (n + 2) 24 [.own true [.int x, .int y, .int z], .val false (bj m ws), .own true (pl.map Tr.d), .val false (.int last)]).sat Q := by
 have hlen := hk.len
 refine aX (d := UJ) rfl rfl (by decide) ?_
 first|apply aa|apply aq
 simp [UJ]
 refine bw (by decide) (by decide) fun d x z d0 d1 => ?_
 simp
 refine ⟨fun _ => ?_, fun _ => ?_⟩
 . first|apply aa|apply aq
   simp
   exact q x z last ws pl _ hk hp rfl l0 (by omega) (.inr rfl) Jk
 first|apply aa|apply aq
 simp
 refine bw (by decide) (by decide) fun a0 x z a1 a2 => ?_
 simp
 apply aa
 simp
 refine bw (by decide) (by decide) fun b0 x z b1 b2 => ?_
 simp
 obtain ⟨a, ea, a3, a4⟩ : ∃ a, a = 1 + a0 /\ 1 <= a /\ a <= 250000 := ⟨_, rfl, by omega, by omega⟩
 obtain ⟨b, eb, b3, b4⟩ : ∃ b, b = 1 + b0 /\ 1 <= b /\ b <= 100000000 := ⟨_, rfl, by omega, by omega⟩
 rw [<- ea, <- eb]
 first|apply aa|apply aq
 simp
 apply aa
 simp
 refine cY (JG1 a b _ _ _ _ _ _ ws) ?_ ?_ ⟨ws, [], .aV, .aV, .aV, .aV, rfl, ⟨rfl, rfl, rfl, rfl⟩, rfl, rfl⟩
 . rintro d r _ ⟨us, vs, s7, s8, s9, je, rfl, ⟨h7, h8, h9, h10⟩, hr, hw⟩
   cases us with
   | nil => cases hr
   | cons v us =>
     obtain ⟨rfl, rfl⟩ : d = v.d /\ r = us.map Wy.d := by simpa using hr
     have hl2 : vs.length <= 12 := by have := congrArg List.length hw; simp at this; omega
     simp [Wy.d, h7, h8, h9, h10]
     apply aa
     simp [show -18446744073709551616 < b by omega, show b < 18446744073709551616 by omega, show -18446744073709551616 < a by omega, show a < 18446744073709551616 by omega, show vs.length < lim by show _ < 16777216; omega]
     exact ⟨us, vs ++ [v], _, _, _, _, by simp [Wy.d, su]; exact ⟨rfl, rfl, rfl, rfl⟩, ⟨rfl, rfl, rfl, rfl⟩, rfl, by simp [hw]⟩
 rintro _ ⟨us, vs, s7, s8, s9, je, rfl, _, hr, hw⟩
 have hr' : us = [] := by cases us with | nil => rfl | cons _ _ => cases hr
 subst hr'
 simp at hw
 subst hw
 first|apply aa|apply aq
 simp
 apply aa
 simp
 refine cY (JG2 a b _ _ _ _ _ _ _ _ _ _ _ pl) ?_ ?_ ⟨pl, [], .aV, .aV, .aV, rfl, ⟨rfl, rfl, rfl⟩, rfl, rfl⟩
 . rintro d r _ ⟨us, vs, s7, s8, s9, rfl, ⟨h7, h8, h9⟩, hr, hw⟩
   cases us with
   | nil => cases hr
   | cons v us =>
     obtain ⟨rfl, rfl⟩ : d = v.d /\ r = us.map Tr.d := by simpa using hr
     have hl2 : vs.length <= 45 := by have := congrArg List.length hw; simp at this; omega
     simp [Tr.d, h7, h8, h9]
     apply aa
     simp [show -18446744073709551616 < b by omega, show b < 18446744073709551616 by omega, show -18446744073709551616 < a by omega, show a < 18446744073709551616 by omega, show vs.length < lim by show _ < 16777216; omega]
     exact ⟨us, vs ++ [v], _, _, _, by simp [Tr.d, wZ]; exact ⟨rfl, rfl, rfl⟩, ⟨rfl, rfl, rfl⟩, rfl, by simp [hw]⟩
 rintro _ ⟨us, vs, s7, s8, s9, rfl, _, hr, hw⟩
 have hr' : us = [] := by cases us with | nil => rfl | cons _ _ => cases hr
 subst hr'
 simp at hw
 subst hw
 first|apply aa|apply aq
 simp [show -18446744073709551616 < a by omega, show a < 18446744073709551616 by omega]
 have hla : last * a <= 8 * a := Int.mul_le_mul_of_nonneg_right l1 (by omega)
 have hla2 : 1 * a <= last * a := Int.mul_le_mul_of_nonneg_right l0 (by omega)
 have := q x z (last * a) (ws.map (su a b)) (pl.map (wZ a b)) _ (JL a3 a4 b3 b4 hk hs) (Q7 (by omega) (by omega) hp) (by simp) (by omega) (by omega) (.inl rfl) ⟨a, b, a3, b3, rfl, rfl, rfl⟩
 simpa [bj] using this
end T
end
section
namespace T
open HH
noncomputable def zq (a b : Tr) : Prop := a.h < b.h \/ a.h = b.h /\ a.w < b.w
theorem qX {a b : Tr} : bz [a.h, a.w] [b.h, b.w] = true ↔ zq a b := by simp [bz, zq]
theorem dw : ∀ {pl : List Tr}, bR pl = true ↔ pl.Pairwise zq
 | [] => by simp [bR]
 | [a] => by simp [bR]
 | a :: b :: r => by
   have ih := dw (pl := b :: r)
   simp only [bR, Bool.and_eq_true, qX, ih]
   rw [List.pairwise_cons (a := a)]
   refine ⟨fun ⟨h1, h2⟩ => ⟨fun c hc => ?_, h2⟩, fun ⟨h1, h2⟩ => ⟨h1 b (by simp), h2⟩⟩
   rcases List.mem_cons.mp hc with rfl | hc
   . exact h1
   . have := (List.pairwise_cons.mp h2).1 c hc
     unfold zq at *; omega
noncomputable def neT (a b : Tr) : Prop := ¬ (a.h = b.h /\ a.w = b.w)
theorem Uo {pl : List Tr} : ∃ ks : List Tr, iQ (pl.map Tr.d) = ks.map Tr.d /\ ks.Perm pl /\ (pl.Pairwise neT -> bR ks = true) := by
 have hp := iC (pl.map Tr.d)
 have hs := gY (pl.map Tr.d)
 let g : D -> Tr := fun d => match d with | .tup [.int h, .int w, .int l] => ⟨h, w, l⟩ | _ => ⟨0, 0, 0⟩
 have hg : ∀ x : Tr, g x.d = x := fun x => rfl
 have e : iQ (pl.map Tr.d) = ((iQ (pl.map Tr.d)).map g).map Tr.d := by
  rw [List.map_map]
  refine ((List.map_congr_left fun d hd => ?_).trans (List.map_id _)).symm
  obtain ⟨i, _, rfl⟩ := List.mem_map.mp (hp.mem_iff.mp hd)
  rfl
 have hp2 : ((iQ (pl.map Tr.d)).map g).Perm pl := by
  have := hp.map g
  rw [List.map_map] at this
  exact this.trans (.of_eq ((List.map_congr_left fun d _ => rfl).trans (List.map_id _)))
 refine ⟨_, e, hp2, fun hn => ?_⟩
 rw [dw]
 have hn2 : ((iQ (pl.map Tr.d)).map g).Pairwise neT := (hp2.pairwise_iff (fun {a b} h => by unfold neT at *; omega)).mpr hn
 have hs2 : ((iQ (pl.map Tr.d)).map g).Pairwise fun a b => iI a.d b.d = true := by
  rw [e, List.pairwise_map] at hs
  exact hs
 refine (hs2.and hn2).imp fun {a b} ⟨h1, h2⟩ => ?_
 simp [iI, cX, Tr.d, dj, bz] at h1
 unfold neT at h2
 unfold zq
 omega
theorem jK {pl : List Tr} (h : pl.length < 64) : sortable (pl.map Tr.d) = true := by
 simp [sortable, h, lW, di, Tr.d]
end T
end
section
namespace T
open HH
theorem BJ {w n : Nat} {m k : Int} {ws : List Wy} {v : Wy} (h0 : 0 <= k) (h1 : k < (ws.length : Int)) (hv : at' (ws.map Wy.d) k = some v.d) :
 run Γ w (n + 1) 13 [.val false (bj m ws), .val false (.int k)] = .ok (.val v.d) [.val false (bj m ws), .val false (.int k)] := by
 rw [nR (d := Ue) rfl]
 unfold enter
 simp [Ue, ZJ, jg, h0, h1, hv]
end T
end
section
namespace T
open HH
theorem Hg {c : Call} {x : Nat} {ks : List P} {d : P} {ρ : List Sl} : ev c (.DN x ks d) ρ = match ρ[x]? with
 | some (.fc _) => (evs c ks ρ).bind fun pI ρ => (fj (isVar d) (ev c d) ρ).bind fun dd ρ => match ρ[x]? with
   | some (.fc m) => lift ((m.u6 pI).bind fun o => (oh dd).map fun v => .val (.int (o.getD v))) ρ
   | _ => .stuck
 | _ => .stuck := by rw [ev] <;> rfl
theorem Ma {c : Call} {x : Nat} {ks : List P} {ρ : List Sl} : ev c (.Te x ks) ρ = (lift (pk ρ x) ρ).bind fun _ ρ => (evs c ks ρ).bind fun pI ρ => (lift (pk ρ x) ρ).bind fun dd ρ => lift (xM dd pI) ρ := by rw [ev] <;> rfl
theorem QZ {c : Call} {x : Nat} {ρ : List Sl} : ev c (.vw x) ρ = match ρ[x]? with
 | some (.fc m) => .ok (.val (.cQ m)) (ρ.set x (.val false (.cQ m)))
 | _ => .stuck := by rw [ev] <;> rfl
theorem Bo {c : Call} {n x : Nat} {ρ : List Sl} : ex c n (.wG x true) ρ = match ρ[x]? with
 | some .aV => .ok .next (ρ.set x (.fc (.t [])))
 | _ => .stuck := by rw [ex] <;> rfl
theorem Dm {c : Call} {n x : Nat} {ks : List P} {e : P} {ρ : List Sl} : ex c n (.yt x ks e) ρ = (ev c e ρ).bind fun r ρ => match ρ[x]? with
 | some (.fc _) => (evs c ks ρ).bind fun pI ρ => match ρ[x]?, r with
   | some (.fc m), .val (.int v) => match m.Mj pI v with
     | some m' => .ok .next (ρ.set x (.fc m'))
     | none => .stuck
   | _, _ => .stuck
 | _ => .stuck := by rw [ex] <;> rfl
@[simp] theorem La {x : Nat} {ks : List P} {d : P} : isVar (.DN x ks d) = none := rfl
@[simp] theorem Ox {x : Nat} {ks : List P} : isVar (.Te x ks) = none := rfl
@[simp] theorem Q5 {x : Nat} : isVar (.vw x) = none := rfl
theorem xY {kvs : List (List Int × Int)} {a b : Int} : Dc.u6 (.t kvs) [.int a, .int b] = some ((kvs.find? fun kv => decide (kv.1 = [a, b])).map (·.2)) := rfl
theorem K1 {kvs : List (List Int × Int)} {a b v : Int} (h : kvs.length < lim) : Dc.Mj (.t kvs) [.int a, .int b] v = some (.t (putD kvs [a, b] v)) := by
 show (if _ then _ else _) = _
 rw [if_pos ⟨rfl, h⟩]; rfl
noncomputable def Tr.kz (x : Tr) : List Int := [x.h, x.w]
noncomputable def wl (P : List Int -> Bool) (x : Tr) : Int := if P x.kz = true then x.l else 0
inductive JLd (all : List Tr) (a0 a1 : Sl) (r : List D) (ρ : List Sl) : Prop where
 | mk (rest : List Tr) (kvs : List (List Int × Int)) (s3 s4 s5 : Sl) (q0 : ρ = [a0, a1, .fc (.t kvs), s3, s4, s5]) (q1 : A3 (fr s3 = true) (fr s4 = true) (fr s5 = true)) (q2 : r = rest.map Tr.d) (q3 : (kvs.map (·.1)).Nodup) (q4 : kvs.length + rest.length <= all.length) (q5 : (∀ k ∈ kvs.map (·.1), ∃ x ∈ all, k = x.kz)) (q6 : (∀ x ∈ rest, x ∈ all)) (q7 : ∀ P, qJ P kvs + sm (wl P) rest = sm (wl P) all)
theorem tR {k : List Int} : ∀ {r : List (List Int × Int)}, k ∈ r.map (·.1) -> (r.find? fun kv => decide (kv.1 = k)).map (·.2) = some (gv r k)
 | [], h => by simp at h
 | (a, b) :: r, h => by
   by_cases e : a = k
   . simp [gv, e]
   . simp at h
     have ih := tR (k := k) (r := r) (by rcases h with h | h; exact absurd h.symm e; simpa using h)
     simp [gv, e] at ih ⊢
     exact ih
noncomputable def Rz (kvs : List (List Int × Int)) (k : List Int) : Tr := ⟨k.headD 0, k.tail.headD 0, gv kvs k⟩
inductive F6l (a0 a1 a2 a3 a4 a5 : Sl) (ρ : List Sl) : Prop where
 | mk (s : Sl) (t : Sl) (q0 : ρ = [a0, a1, a2, a3, a4, a5, s, t]) (q1 : fr s = true) (q2 : fr t = true)
noncomputable def keyOf : D -> List Int
 | .tup ds => ds.map dj
 | _ => []
theorem Wl {kvs : List (List Int × Int)} {k : List Int} (h : (kvs.map (·.1)).Nodup) : gv kvs k = qJ (fun j => decide (j = k)) kvs := by
 induction kvs with
 | nil => rfl
 | cons p kvs ih =>
   obtain ⟨a, b⟩ := p
   simp only [List.map_cons, List.nodup_cons] at h
   rw [iV]
   unfold qJ at ih ⊢
   rw [bD]
   by_cases e : a = k
   . subst e
     have : sm (fun kv : List Int × Int => if decide (kv.1 = a) = true then kv.2 else 0) kvs = 0 := m6 fun kv hkv => by
      rw [if_neg]; intro z
      exact h.1 (List.mem_map.mpr ⟨kv, hkv, of_decide_eq_true z⟩)
     rw [if_pos rfl, this]; simp
   . rw [if_neg e, ih h.2, if_neg (by simpa using e)]; omega
theorem X8 {a b : Tr} : bz a.kz b.kz = true ↔ zq a b := qX
theorem u9 {kvs : List (List Int × Int)} (h : kvs.length < 64) (hk : ∀ k ∈ kvs.map (·.1), ∃ x : Tr, k = x.kz) : blt .o7 [.cQ (.t kvs)] = some (.own (iQ (kvs.map fun p => .tup (p.1.map D.int)))) := by
 show (if _ then _ else _) = _
 rw [if_pos]
 simp only [sortable, List.length_map, h, decide_true, Bool.true_and, Bool.or_eq_true]
 right
 rw [List.all_eq_true]
 intro d hd
 obtain ⟨p, hp, rfl⟩ := List.mem_map.mp hd
 obtain ⟨x, e⟩ := hk p.1 (List.mem_map.mpr ⟨p, hp, rfl⟩)
 rw [e]; rfl
theorem Bv {kvs : List (List Int × Int)} (hn : (kvs.map (·.1)).Nodup) (hk : ∀ k ∈ kvs.map (·.1), ∃ x : Tr, k = x.kz) :
 ∃ ks : List Tr, (iQ (kvs.map fun p => .tup (p.1.map D.int))) = ks.map (fun y => D.tup [.int y.h, .int y.w]) /\ (ks.map Tr.kz).Perm (kvs.map (·.1)) /\ (∀ y ∈ ks, y.l = gv kvs y.kz) /\ bR ks = true := by
 have hp := iC (kvs.map fun p => D.tup (p.1.map D.int))
 have hs := gY (kvs.map fun p => D.tup (p.1.map D.int))
 have hmem : ∀ d ∈ iQ (kvs.map fun p => D.tup (p.1.map D.int)), ∃ x : Tr, x.kz ∈ kvs.map (·.1) /\ d = .tup [.int x.h, .int x.w] := fun d hd => by
  obtain ⟨p, hp, rfl⟩ := List.mem_map.mp (hp.mem_iff.mp hd)
  have h1 : p.1 ∈ kvs.map (·.1) := List.mem_map.mpr ⟨p, hp, rfl⟩
  obtain ⟨x, e⟩ := hk p.1 h1
  exact ⟨x, by rw [<- e]; exact h1, by rw [e]; rfl⟩
 have e1 : iQ (kvs.map fun p => D.tup (p.1.map D.int)) = ((iQ (kvs.map fun p => D.tup (p.1.map D.int))).map fun d => Rz kvs (keyOf d)).map fun y => D.tup [.int y.h, .int y.w] := by
  rw [List.map_map]
  refine ((List.map_congr_left fun d hd => ?_).trans (List.map_id _)).symm
  obtain ⟨x, _, rfl⟩ := hmem d hd
  rfl
 have e2 : ((iQ (kvs.map fun p => D.tup (p.1.map D.int))).map fun d => Rz kvs (keyOf d)).map Tr.kz = (iQ (kvs.map fun p => D.tup (p.1.map D.int))).map keyOf := by
  rw [List.map_map]
  refine List.map_congr_left fun d hd => ?_
  obtain ⟨x, _, rfl⟩ := hmem d hd
  rfl
 have pk : ((iQ (kvs.map fun p => D.tup (p.1.map D.int))).map keyOf).Perm (kvs.map (·.1)) := by
  have := hp.map keyOf
  rw [List.map_map] at this
  refine this.trans (.of_eq (List.map_congr_left fun p hp => ?_))
  obtain ⟨x, e⟩ := hk p.1 (List.mem_map.mpr ⟨p, hp, rfl⟩)
  show keyOf (.tup (p.1.map D.int)) = p.1
  rw [e]; rfl
 refine ⟨_, e1, by rw [e2]; exact pk, fun y hy => ?_, ?_⟩
 . obtain ⟨d, hd, rfl⟩ := List.mem_map.mp hy
   obtain ⟨x, _, rfl⟩ := hmem d hd
   rfl
 . rw [dw, List.pairwise_map]
   have hnd : (iQ (kvs.map fun p => D.tup (p.1.map D.int))).Pairwise fun a b => keyOf a ≠ keyOf b := by
    have := pk.nodup_iff.mpr hn
    rw [List.Nodup, List.pairwise_map] at this
    exact this
   refine (hs.and hnd).imp_of_mem fun {a b} ha hb ⟨h1, h2⟩ => ?_
   obtain ⟨x, _, rfl⟩ := hmem a ha
   obtain ⟨y, _, rfl⟩ := hmem b hb
   have h2' : ¬ (x.h = y.h /\ x.w = y.w) := fun ⟨z1, z2⟩ => h2 (by show [x.h, x.w] = [y.h, y.w]; rw [z1, z2])
   have h1' : ¬ (bz [y.h, y.w] [x.h, x.w] = true) := by simpa [iI, cX] using h1
   rw [show (bz [y.h, y.w] [x.h, x.w] = true) = zq y x from propext qX] at h1'
   show zq x y
   unfold zq at h1' ⊢
   omega
theorem CK {w n : Nat} {s0 s1 : Sl} {one other : List Tr} {Q : R -> List Sl -> Prop} (h0 : LS s0 (one.map Tr.d)) (h1 : LS s1 (other.map Tr.d)) (hl : one.length + other.length < 64)
 (q : ∀ ks : List Tr, bR ks = true -> ks.length <= one.length + other.length -> (∀ P, sm (wl P) ks = sm (wl P) one + sm (wl P) other) -> (∀ y ∈ ks, ∃ x ∈ one ++ other, y.kz = x.kz) -> Q (.own (ks.map Tr.d)) [s0, s1]) :
 (run Γ w (n + 1) 0 [s0, s1]).sat Q := by
 have hp0 : pk [s0, s1, .fc (.t []), .aV, .aV, .aV] 0 = some (.lst (one.map Tr.d)) := by rcases h0 with ⟨b, rfl⟩ | ⟨b, rfl⟩ <;> rfl
 have hp1 : pk [s0, s1, .fc (.t []), .aV, .aV, .aV] 1 = some (.lst (other.map Tr.d)) := by rcases h1 with ⟨b, rfl⟩ | ⟨b, rfl⟩ <;> rfl
 have hlim : one.length + other.length <= lim := by show _ <= 16777216; omega
 refine aX (d := f0) rfl rfl (by decide) ?_
 first|apply aa|apply aq
 simp [f0, Bo]
 apply aa
 simp [hp0, hp1, hlim]
 rw [<- List.map_append]
 refine cY (JLd (one ++ other) s0 s1) ?_ ?_ ⟨one ++ other, [], .aV, .aV, .aV, rfl, ⟨rfl, rfl, rfl⟩, rfl, by simp, by simp, by simp, fun _ h => h, fun P => by simp [qJ]⟩
 . rintro d r _ ⟨rest, kvs, s3, s4, s5, rfl, ⟨h3, h4, h5⟩, hr, hn, hk, hm, hi, hd⟩
   cases rest with
   | nil => cases hr
   | cons x rest =>
     obtain ⟨rfl, rfl⟩ : d = x.d /\ r = rest.map Tr.d := by simpa using hr
     simp at hk
     have Tu : kvs.length < lim := by show _ < 16777216; omega
     obtain ⟨p1, p2, p3, p4⟩ := lB (k := x.kz) (v := gv kvs x.kz + x.l) hn
     simp [Tr.d, h3, h4, h5]
     apply aa
     simp [Dm, Hg, xY]
     rw [show (Option.map (fun x => x.snd) (List.find? (fun kv => decide (kv.fst = [x.h, x.w])) kvs)).getD 0 = gv kvs x.kz from rfl, K1 Tu]
     simp
     refine ⟨rest, putD kvs x.kz (gv kvs x.kz + x.l), _, _, _, rfl, ⟨rfl, rfl, rfl⟩, rfl, p1, by simp; omega, fun k hk => ?_, fun y hy => hi y (by simp [hy]), fun P => ?_⟩
     . rcases p3 k hk with rfl | z
       . exact ⟨x, hi x (by simp), rfl⟩
       . exact hm k z
     . have := hd P
       rw [p4 P]
       simp only [bD, wl] at this ⊢
       split <;> split at this <;> simp_all <;> omega
 . rintro _ ⟨rest, kvs, s3, s4, s5, rfl, ⟨h3, h4, h5⟩, hr, hn, hk, hm, hi, hd⟩
   have hr' : rest = [] := by cases rest with | nil => rfl | cons _ _ => cases hr
   subst hr'
   simp at hk
   have hk' : ∀ k ∈ kvs.map (·.1), ∃ x : Tr, k = x.kz := fun k hk => by obtain ⟨x, _, e⟩ := hm k hk; exact ⟨x, e⟩
   obtain ⟨ks, g1, g2, g3, g4⟩ := Bv hn hk'
   have hlk : ks.length = kvs.length := by have := g2.length_eq; simpa using this
   apply aa
   simp [QZ, u9 (show kvs.length < 64 by omega) hk', g1]
   refine ⟨fun _ => ?_, by show _ <= 16777216; omega⟩
   refine dY (F6l _ _ _ _ _ _) (fun d => (Rz kvs (keyOf d)).d) ⟨.aV, .aV, rfl, rfl, rfl⟩ ?_ ?_
   . rintro d hd' _ ⟨s, t, rfl, hs, ht⟩
     obtain ⟨y, hy, rfl⟩ := List.mem_map.mp hd'
     have hky : y.kz ∈ kvs.map (·.1) := g2.mem_iff.mp (List.mem_map.mpr ⟨y, hy, rfl⟩)
     have hgt : xM (.cQ (.t kvs)) [.int y.h, .int y.w] = some (.val (.int (gv kvs y.kz))) := by
      rw [show xM (.cQ (.t kvs)) [.int y.h, .int y.w] = (Dc.u6 (.t kvs) [.int y.h, .int y.w]).bind (fun o => o.map fun v => R.val (.int v)) from rfl, xY, Option.bind_some]
      have z := tR hky
      rw [show y.kz = [y.h, y.w] from rfl] at z ⊢
      rw [z]; rfl
     simp [hs, ht, Ma, hgt, keyOf, Rz, Tr.d]
     exact ⟨rfl, _, _, rfl, rfl, rfl⟩
   . rintro _ ⟨s, t, rfl, hs, ht⟩
     have e : (ks.map (fun y => D.tup [.int y.h, .int y.w])).map (fun d => (Rz kvs (keyOf d)).d) = ks.map Tr.d := by
      rw [List.map_map]
      refine List.map_congr_left fun y hy => ?_
      show (Tr.mk y.h y.w (gv kvs y.kz)).d = y.d
      rw [<- g3 y hy]
     rw [e]
     simp
     refine q ks g4 (by omega) (fun P => ?_) fun y hy => ?_
     . have h1 := hd P
       rw [vq] at h1
       simp at h1
       rw [<- h1, iz hn, <- yp g2, qZ]
       refine cP fun y hy => ?_
       unfold wl
       rw [g3 y hy]
     . obtain ⟨x, hx, e⟩ := hm _ (g2.mem_iff.mp (List.mem_map.mpr ⟨y, hy, rfl⟩))
       exact ⟨x, hx, e⟩
end T
end
section
namespace T
open HH
noncomputable def dbl (v : Wy) : Wy := ⟨v.s, v.t, 2 * v.r, v.h⟩
theorem wu {ws : List Wy} {k : Int} : wy (ws.map dbl) k = dbl (wy ws k) := by
 unfold wy
 rw [List.getElem?_map]
 cases ws[k.toNat]? <;> rfl
theorem Ku {ws : List Wy} {p : Int} {P : Int -> Bool} {x : Tr} : KP (ws.map dbl) p P x = KP ws p P x := by
 unfold KP uZ vI cA
 rw [wu]; rfl
theorem jl {ws : List Wy} {p : Int} {P : Int -> Bool} {pl : List Tr} : stP (ws.map dbl) pl p P = stP ws pl p P := cP fun x _ => Ku
theorem qP {ws : List Wy} {pl : List Tr} (h : ∀ x ∈ pl, lR ws x) : ∀ x ∈ pl, lR (ws.map dbl) x := fun x hx => by
 have := h x hx
 unfold lR at this ⊢
 simpa using this
theorem qD {ws : List Wy} {p : Int} {P : Int -> Bool} {ks one other : List Tr} (h : ∀ P, sm (wl P) ks = sm (wl P) one + sm (wl P) other) : stP ws ks p P = stP ws one p P + stP ws other p P := by
 have e : ∀ pl : List Tr, stP ws pl p P = sm (wl fun k => decide ((wy ws (k.tail.headD 0)).t = p) && P (k.headD 0 + (wy ws (k.tail.headD 0)).h)) pl - sm (wl fun k => decide ((wy ws (k.tail.headD 0)).s = p) && P (k.headD 0)) pl := fun pl => by
  unfold stP
  rw [Bc]
  congr 1
  . refine cP fun x _ => ?_
    unfold uZ wl cA Tr.kz
    simp
  . refine cP fun x _ => ?_
    unfold vI wl Tr.kz
    simp
 rw [e, e, e, h, h]
 omega
theorem Hx {a b : Tr} (h : zq a b) : a.kz ≠ b.kz := fun e => by
 unfold Tr.kz at e
 injection e with e1 e2
 injection e2 with e2
 unfold zq at h
 omega
theorem sI {k : List Int} {pl : List Tr} (h : ∀ x ∈ pl, x.kz ≠ k) : sm (wl fun j => decide (j = k)) pl = 0 := m6 fun x hx => by
 unfold wl
 rw [if_neg]
 simpa using h x hx
theorem mQ {y : Tr} : ∀ {pl : List Tr}, bR pl = true -> y ∈ pl -> sm (wl fun j => decide (j = y.kz)) pl = y.l
 | [], _, h => by cases h
 | a :: pl, hr, h => by
   rw [dw, List.pairwise_cons, <- dw] at hr
   rw [bD]
   rcases List.mem_cons.mp h with rfl | h
   . rw [sI fun x hx e => Hx (hr.1 x hx) e.symm]
     simp [wl]
   . rw [mQ hr.2 h]
     have : a.kz ≠ y.kz := Hx (hr.1 y h)
     simp [wl, this]
theorem zZ {last : Int} {ws : List Wy} {pl : List Tr} {k : List Int} (h : Pl last ws pl) (hk : 0 <= (wy ws (k.tail.headD 0)).r) : 0 <= sm (wl fun j => decide (j = k)) pl /\ sm (wl fun j => decide (j = k)) pl <= (wy ws (k.tail.headD 0)).r := by
 by_cases c : ∃ x ∈ pl, x.kz = k
 . obtain ⟨x, hx, rfl⟩ := c
   have := h.ok x hx
   rw [mQ h.DY hx]
   have h2 := this.2.2.2.1
   exact ⟨by omega, h2⟩
 . rw [sI fun x hx e => c ⟨x, hx, e⟩]
   omega
theorem Cv {last : Int} {ws : List Wy} {pl : List Tr} {x : Tr} (h : Pl last ws pl) (hx : x ∈ pl) : 1 <= sm (wl fun j => decide (j = x.kz)) pl := by
 rw [mQ h.DY hx]; exact (h.ok x hx).2.1
theorem wC {m last : Int} {ws : List Wy} {ks one other : List Tr} (hk : iD m ws) (h1 : Pl last ws one) (h2 : Pl last ws other) (hr : bR ks = true) (hs : ∀ P, sm (wl P) ks = sm (wl P) one + sm (wl P) other) (hm : ∀ y ∈ ks, ∃ x ∈ one ++ other, y.kz = x.kz) : oX m (ws.map dbl) last ks := by
 have hx : ∀ y ∈ ks, 0 <= y.h /\ 1 <= y.l /\ lR ws y /\ y.l <= 2 * (wy ws y.w).r /\ cA ws y <= last := fun y hy => by
  obtain ⟨x, hx, e⟩ := hm y hy
  have hP : 0 <= x.h /\ vK ws last x := by
   rcases List.mem_append.mp hx with hx | hx
   . exact ⟨(h1.ok x hx).1, (h1.ok x hx).2.2⟩
   . exact ⟨(h2.ok x hx).1, (h2.ok x hx).2.2⟩
  obtain ⟨e1, e2⟩ : y.h = x.h /\ y.w = x.w := by
   unfold Tr.kz at e
   injection e with e1 e2
   injection e2 with e2
   exact ⟨e1, e2⟩
  have hw : 0 <= (wy ws y.w).r := by rw [e2]; exact (hk.ok _ (fP hP.2.1.1 hP.2.1.2).2).r0
  have s1 := hs fun j => decide (j = y.kz)
  rw [mQ hr hy] at s1
  have a1 := zZ (k := y.kz) h1 hw
  have a2 := zZ (k := y.kz) h2 hw
  have a1' : sm (wl fun j => decide (j = y.kz)) one <= (wy ws y.w).r := a1.2
  have a2' : sm (wl fun j => decide (j = y.kz)) other <= (wy ws y.w).r := a2.2
  have a3 : 1 <= sm (wl fun j => decide (j = y.kz)) one \/ 1 <= sm (wl fun j => decide (j = y.kz)) other := by
   rw [e]
   rcases List.mem_append.mp hx with hx | hx
   . exact .inl (Cv h1 hx)
   . exact .inr (Cv h2 hx)
  refine ⟨by rw [e1]; exact hP.1, by omega, ?_, by omega, ?_⟩
  . unfold lR; rw [e2]; exact hP.2.1
  . unfold cA; rw [e1, e2]; exact hP.2.2.2
 refine ⟨?_, hr, fun y hy => ?_, fun p p1 p2 t => ?_⟩
 . rw [List.all_eq_true]; intro y hy; have := hx y hy; simp [wR, this]
 . have := hx y hy
   refine ⟨?_, ?_, ?_⟩
   . have z := this.2.2.1; unfold lR at z ⊢; simpa using z
   . rw [wu]; exact this.2.2.2.1
   . unfold cA; rw [wu]; exact this.2.2.2.2
 . rw [jl, qD hs, oV, oV]
   have := h1.MJ p p1 t
   have := h2.MJ p p1 t
   omega
end T
end
section
namespace T
open HH
theorem GP {α : Type} {xs : List α} {k : Int} (h0 : 0 <= k) (h1 : k < (xs.length : Int)) : cut xs none (some k) = xs.take k.toNat := by
 unfold cut cN
 simp [h0]
 try rw [Nat.min_eq_left (by omega)]
theorem Gs {α : Type} {xs : List α} {k : Int} (h0 : 0 <= k) (h1 : k < (xs.length : Int)) : cut xs (some (k + 1)) none = xs.drop (k.toNat + 1) := by
 unfold cut cN
 have e : (k + 1).toNat = k.toNat + 1 := by omega
 simp [show 0 <= k + 1 by omega, e]
 try rw [Nat.min_eq_left (by omega)]
 try rw [List.take_of_length_le (by simp)]
noncomputable def um (ws : List Wy) (k : Int) (v : Wy) (r : Int) : List Wy := ws.take k.toNat ++ { v with r := r } :: ws.drop (k.toNat + 1)
theorem GC {w n : Nat} {m k r : Int} {ws : List Wy} {v : Wy} (hl : ws.length <= 12) (h0 : 0 <= k) (h1 : k < (ws.length : Int)) (ha : at' (ws.map Wy.d) k = some v.d) :
 run Γ w (n + 2) 14 [.val false (bj m ws), .val false (.int k), .val false (.int r)] = .ok (.val (bj m (um ws k v r))) [.val false (bj m ws), .val false (.int k), .val false (.int r)] := by
 rw [nR (d := Vm) rfl]
 unfold enter
 have c1 := GP (xs := ws.map Wy.d) h0 (by simpa using h1)
 have c2 := Gs (xs := ws.map Wy.d) h0 (by simpa using h1)
 have e : bj m (um ws k v r) = .tup [.int m, .tup ((ws.map Wy.d).take k.toNat ++ [D.tup [.int v.s, .int v.t, .int r, .int v.h]] ++ (ws.map Wy.d).drop (k.toNat + 1))] := by simp [bj, um, Wy.d]
 have h2 : ((ws.map Wy.d).take k.toNat).length + 1 <= lim := by simp; show _ <= 16777216; omega
 have h3 : ((ws.map Wy.d).take k.toNat).length + 1 + ((ws.map Wy.d).drop (k.toNat + 1)).length <= lim := by simp; show _ <= 16777216; omega
 rw [e]
 simp [Vm, b14, jg, jq, bG, cG, dU, aW, BJ h0 h1 ha, JD, part, Br, c1, c2, qH, yX, K9]
 simp at h2 h3
 simp [c2, h2, h3]
end T
end
section
namespace T
open HH
noncomputable def qU (ws : List Wy) (i : Nat) : List Wy := (ws.take i).map dbl ++ ws.drop i
theorem Cu {ws : List Wy} {i : Nat} (h : i < ws.length) : at' ((qU ws i).map Wy.d) (i : Int) = some (wy ws i).d /\ um (qU ws i) (i : Int) (wy ws i) (2 * (wy ws i).r) = qU ws (i + 1) := by
 have e : ws[i]? = some ws[i] := by simp [h]
 have ew : wy ws (i : Int) = ws[i] := by unfold wy; simp [h]
 have hl : ((ws.take i).map dbl).length = i := by simp; omega
 have e2 : (qU ws i)[i]? = some ws[i] := by
  unfold qU
  rw [List.getElem?_append_right (by omega), hl]; simp [h]
 constructor
 . rw [ew]
   unfold at' jx
   have hlen : ((qU ws i).map Wy.d).length = ws.length := by unfold qU; simp; omega
   rw [hlen, if_pos (by omega), if_pos (by omega)]
   simp [e2]
 . rw [ew]
   unfold um
   rw [show (i : Int).toNat = i by omega]
   have t1 : (qU ws i).take i = (ws.take i).map dbl := by unfold qU; rw [List.take_append_of_le_length (by omega), List.take_of_length_le (by omega)]
   have t2 : (qU ws i).drop (i + 1) = ws.drop (i + 1) := by
    unfold qU
    rw [List.drop_append, List.drop_eq_nil_of_le (by omega), hl]
    simp
   rw [t1, t2]
   unfold qU
   rw [List.take_succ, e, List.map_append, List.append_assoc]
   rfl
theorem xj {ws : List Wy} {i : Nat} (h : i <= ws.length) : (qU ws i).length = ws.length := by unfold qU; simp; omega
noncomputable def A4 (m : Int) (ws : List Wy) (one other : List Tr) (last : Int) : List Sl := [.val false (bj m ws), .own true (one.map Tr.d), .own true (other.map Tr.d), .val false (.int last)]
inductive JWd (m : Int) (ws : List Wy) (one other : List Tr) (last : Int) (i : Nat) (ρ : List Sl) : Prop where
 | mk (s5 : Sl) (q0 : ρ = [.val false (bj m ws), .own true (one.map Tr.d), .own true (other.map Tr.d), .val false (.int last), .val false (bj m (qU ws i)), s5, .aV, .aV, .aV, .aV]) (q1 : fr s5 = true)
inductive JBo (m : Int) (ws : List Wy) (one other ks : List Tr) (last : Int) (a5 : Sl) (_ : Nat) (ρ : List Sl) : Prop where
 | mk (s7 s8 s9 : Sl) (q0 : ρ = [.val false (bj m ws), .own true (one.map Tr.d), .own true (other.map Tr.d), .val false (.int last), .val false (bj m (ws.map dbl)), a5, .own false (ks.map Tr.d), s7, s8, s9]) (q1 : A3 (fr s7 = true) (fr s8 = true) (fr s9 = true))
theorem pH {w n : Nat} {m last : Int} {ws : List Wy} {one other : List Tr} {Q : R -> List Sl -> Prop} (hk : iD m ws) (h1 : Pl last ws one) (h2 : Pl last ws other) (l1 : one.length <= 30) (l2 : other.length <= 30)
 (q : Q (.val (.bl true)) (A4 m ws one other last)) : (run Γ w (n + 5) 28 (A4 m ws one other last)).sat Q := by
 have hlen := hk.len
 have m0 := hk.m0
 have m1 := hk.m1
 have hne : ∀ v ∈ ws.map dbl, v.s ≠ v.t := fun v hv => by
  obtain ⟨u, hu, rfl⟩ := List.mem_map.mp hv
  exact (hk.ok u hu).ne
 refine aX (d := Ve) rfl rfl (by decide) ?_
 first|apply aa|apply aq
 simp [Ve, A4]
 apply aa
 simp
 refine ⟨by omega, ?_⟩
 refine eZ (JWd m ws one other last) ?_ ?_ ⟨.aV, by simp [qU], rfl⟩
 . rintro i _ hi ⟨s5, rfl, h5⟩
   obtain ⟨hg, hmem⟩ := fP (ws := ws) (k := (i : Int)) (by omega) (by omega)
   obtain ⟨g1, g2⟩ := Cu hi
   have hro := fun r => GC (w := w) (n := n + 2) (m := m) (k := (i : Int)) (r := r) (ws := qU ws i) (v := wy ws i) (by rw [xj (by omega)]; omega) (by omega) (by rw [xj (by omega)]; omega) g1
   generalize hj : (i : Int) = j at *
   simp [h5]
   apply aa
   simp [hg, Mq, hro, g2]
   exact ⟨.val false (.int j), rfl, rfl⟩
 rintro _ ⟨s5, rfl, h5⟩
 have ew : qU ws ws.length = ws.map dbl := by unfold qU; simp
 rw [ew]
 first|apply aa|apply aq
 simp
 refine CK (.inl ⟨_, rfl⟩) (.inl ⟨_, rfl⟩) (by omega) fun ks g1 g2 g3 g4 => ?_
 have hR := wC hk h1 h2 g1 g3 g4
 have hin : ∀ x ∈ ks, lR (ws.map dbl) x := fun x hx => (hR.fit x hx).1
 simp
 apply aa
 simp
 refine gn (.inl ⟨_, rfl⟩) ⟨by omega, by omega⟩ hne (by omega) fun r hr => ?_
 have hr1 : r = true := hr.mpr hR
 subst hr1
 simp
 apply aa
 simp
 refine eZ (N := 10) (g := fun (i : Nat) => D.int (-1 + (i : Int))) (JBo m ws one other ks last s5) ?_ ?_ ⟨.aV, .aV, .aV, rfl, rfl, rfl, rfl⟩
 . rintro i _ hi ⟨s7, s8, s9, rfl, h7, h8, h9⟩
   simp [h7]
   apply aa
   simp [show -18446744073709551616 < -1 + (i : Int) by omega, show -1 + (i : Int) < 18446744073709551616 by omega, h8]
   generalize (if -1 < (-1 + (i : Int)) * last / 8 then (-1 + (i : Int)) * last / 8 else -1) = a
   first|apply aa|apply aq
   simp
   refine cR (.inl ⟨_, rfl⟩) (qP h1.Ab) hne (by omega) ?_
   simp
   refine cR (.inl ⟨_, rfl⟩) (qP h2.Ab) hne (by omega) ?_
   simp [h9]
   apply aa
   simp
   refine cR (.inl ⟨_, rfl⟩) hin hne (by omega) ?_
   rw [jl, jl, jl, qD g3]
   simp
   apply aa
   simp
   refine iy (.inl ⟨_, rfl⟩) (qP h1.Ab) hne (by omega) ?_
   simp
   refine iy (.inl ⟨_, rfl⟩) (qP h2.Ab) hne (by omega) ?_
   simp
   apply aa
   simp
   refine iy (.inl ⟨_, rfl⟩) hin hne (by omega) ?_
   rw [jl, jl, jl, qD g3, Int.neg_add]
   simp
   exact ⟨_, _, _, rfl, rfl, rfl, rfl⟩
 . rintro _ ⟨s7, s8, s9, rfl, _⟩
   first|apply aa|apply aq
   simp
   exact q
end T
end
section
namespace T
open HH
theorem yU {pl : List Tr} (hr : bR pl = true) (hl : pl.length < 64) : iQ (pl.map Tr.d) = pl.map Tr.d := by
 refine (oF (jK hl) (.refl _) ?_).symm
 rw [List.pairwise_map]
 rw [dw] at hr
 refine hr.imp fun {a b} h => ?_
 unfold zq at h
 simp [iI, cX, Tr.d, dj, bz]
 omega
theorem n6 {pl : List Tr} (hr : bR pl = true) (hl : pl.length < 64) : blt .sorted [.lst (pl.map Tr.d)] = some (.own (pl.map Tr.d)) := by
 show (if _ then _ else _) = _
 rw [if_pos (jK hl), yU hr hl]
noncomputable def fC (ws : List Wy) (t : Int) (pl : List Tr) : List Tr := pl.filter fun x => decide (cA ws x <= t)
theorem oJ {ws : List Wy} {t : Int} {pl : List Tr} (h : bR pl = true) : bR (fC ws t pl) = true := by
 rw [dw] at h ⊢
 exact h.filter _
theorem nH {ws : List Wy} {t : Int} {pl : List Tr} {x : Tr} (h : x ∈ fC ws t pl) : x ∈ pl /\ cA ws x <= t := by
 unfold fC at h
 rw [List.mem_filter] at h
 exact ⟨h.1, of_decide_eq_true h.2⟩
theorem sU {ws : List Wy} {t : Int} {pl : List Tr} : (fC ws t pl).length <= pl.length := List.length_filter_le _ _
noncomputable def pR (ws : List Wy) (t : Int) (d : D) : Option D := if cA ws (pF d) <= t then some d else none
theorem sW {ws : List Wy} {t : Int} : ∀ {pl : List Tr}, (pl.map Tr.d).filterMap (pR ws t) = (fC ws t pl).map Tr.d
 | [] => rfl
 | x :: pl => by
   have ih := sW (ws := ws) (t := t) (pl := pl)
   unfold fC at ih ⊢
   rw [List.map_cons, List.filterMap_cons, List.filter_cons]
   by_cases c : cA ws x <= t
   . simp [pR, c, ih]
   . simp [pR, c, ih]
inductive F3t (a0 a1 a2 : Sl) (ρ : List Sl) : Prop where
 | mk (s : Sl) (q0 : ρ = [a0, a1, a2, s]) (q1 : fr s = true)
theorem Bl {w n : Nat} {m t : Int} {s1 : Sl} {ws : List Wy} {pl : List Tr} {Q : R -> List Sl -> Prop} (hs1 : LS s1 (pl.map Tr.d)) (hw : ∀ x ∈ pl, lR ws x) (hr : bR pl = true) (hl : pl.length < 64)
 (q : Q (.own ((fC ws t pl).map Tr.d)) [.val false (bj m ws), s1, .val false (.int t)]) :
 (run Γ w (n + 2) 3 [.val false (bj m ws), s1, .val false (.int t)]).sat Q := by
 have hlim : pl.length <= lim := by show _ <= 16777216; omega
 refine aX (d := f3) rfl rfl (by decide) ?_
 first|apply aa|apply aq
 obtain ⟨s', g1, g2⟩ := gF (ρ := [.val false (bj m ws), s1, .val false (.int t)]) (k := 1) (e := ev (run Γ w (n + 1)) (.var 1)) rfl hs1
 simp [f3, g1, hlim, -cC, -bJ]
 refine dX (F3t _ _ _) (pR ws t) ⟨.aV, rfl, rfl⟩ ?_ ?_
 . rintro d hd _ ⟨s, rfl, hs⟩
   obtain ⟨x, hx, rfl⟩ := List.mem_map.mp hd
   have hi := hw x hx
   simp [hs, uc, kh]
   refine iG hi.1 hi.2 ?_
   by_cases c : cA ws x <= t
   . have c' : x.h + (wy ws x.w).h <= t := c
     simp [pR, c, c']
     exact ⟨_, rfl, rfl⟩
   . have c' : ¬ x.h + (wy ws x.w).h <= t := c
     simp [pR, c, c']
     exact ⟨_, rfl, rfl⟩
 rintro _ ⟨s, rfl, hs⟩
 rw [sW]
 simp only [List.take_succ_cons, List.take_zero]
 rw [g2 _ rfl]
 have hb := n6 (oJ (ws := ws) (t := t) hr) (Nat.lt_of_le_of_lt sU hl)
 simp only [lC, hb, bU, List.set_cons_zero, List.set_cons_succ, bf, jr]
 exact q
noncomputable def sh (b : Int) (x : Tr) : Tr := ⟨x.h + b, x.w, x.l⟩
noncomputable def Wi (b : Int) (d : D) : D := (sh b (pF d)).d
theorem uo {b : Int} {pl : List Tr} (h : bR pl = true) : bR (pl.map (sh b)) = true := by
 rw [dw] at h ⊢
 rw [List.pairwise_map]
 refine h.imp fun {x y} h => ?_
 unfold zq sh at *
 simp only
 omega
inductive F5s (a0 a1 : Sl) (ρ : List Sl) : Prop where
 | mk (s t u : Sl) (q0 : ρ = [a0, a1, s, t, u]) (q1 : fr s = true) (q2 : fr t = true) (q3 : fr u = true)
theorem yF {w n : Nat} {b : Int} {s0 : Sl} {pl : List Tr} {Q : R -> List Sl -> Prop} (hs0 : LS s0 (pl.map Tr.d)) (hr : bR pl = true) (hl : pl.length < 64)
 (q : Q (.own ((pl.map (sh b)).map Tr.d)) [s0, .val false (.int b)]) : (run Γ w (n + 1) 1 [s0, .val false (.int b)]).sat Q := by
 have hlim : pl.length <= lim := by show _ <= 16777216; omega
 refine aX (d := f1) rfl rfl (by decide) ?_
 first|apply aa|apply aq
 obtain ⟨s', g1, g2⟩ := gF (ρ := [s0, .val false (.int b)]) (k := 0) (e := ev (run Γ w n) (.var 0)) rfl hs0
 simp [f1, g1, hlim, -cC, -bJ]
 refine dY (F5s _ _) (Wi b) ⟨.aV, .aV, .aV, rfl, rfl, rfl, rfl⟩ ?_ ?_
 . rintro d hd _ ⟨s, t, u, rfl, hs, ht, hu⟩
   obtain ⟨x, hx, rfl⟩ := List.mem_map.mp hd
   simp [hs, ht, hu, Tr.d, Wi, sh]
   first | exact ⟨_, _, _, rfl, rfl, rfl, rfl⟩ | exact ⟨rfl, _, _, _, rfl, rfl, rfl, rfl⟩
 rintro _ ⟨s, t, u, rfl, hs, ht, hu⟩
 have e : (pl.map Tr.d).map (Wi b) = (pl.map (sh b)).map Tr.d := by rw [List.map_map, List.map_map]; rfl
 rw [e]
 simp only [List.take_succ_cons, List.take_zero]
 rw [g2 _ rfl]
 have hb := n6 (uo (b := b) hr) (by simpa using hl)
 simp only [lC, hb, bU, List.set_cons_zero, List.set_cons_succ, bf, jr]
 exact q
theorem Bw {ws : List Wy} {pl : List Tr} {p b : Int} {P : Int -> Bool} : stP ws (pl.map (sh b)) p P = stP ws pl p (fun k => P (k + b)) := by
 unfold stP
 rw [qZ]
 refine cP fun x _ => ?_
 unfold uZ vI cA sh
 simp only
 rw [show x.h + b + (wy ws x.w).h = x.h + (wy ws x.w).h + b by omega]
theorem Ro {t b : Int} : (fun k => dW (t + b) (k + b)) = dW t := by
 funext k; unfold dW; exact decide_eq_decide.mpr (by omega)
theorem JF {t b : Int} : (fun k => dW t (k + b)) = dW (t - b) := by
 funext k; unfold dW; exact decide_eq_decide.mpr (by omega)
theorem PX {t b : Int} : (fun k => GK (t + b) (k + b)) = GK t := by
 funext k; unfold GK; exact decide_eq_decide.mpr (by omega)
theorem Cp {m last b : Int} {ws : List Wy} {pl : List Tr} (hb : 0 <= b) (h : Pl last ws pl) : oX m ws (last + b) (pl.map (sh b)) := by
 refine ⟨?_, uo h.DY, fun y hy => ?_, fun p p1 p2 t => ?_⟩
 . rw [List.all_eq_true]; intro y hy
   obtain ⟨x, hx, rfl⟩ := List.mem_map.mp hy
   have h1 := (h.ok x hx).1
   have h2 := (h.ok x hx).2.1
   simp only [wR, Bool.and_eq_true, decide_eq_true_eq]
   exact ⟨by show 0 <= x.h + b; omega, h2⟩
 . obtain ⟨x, hx, rfl⟩ := List.mem_map.mp hy
   have := (h.ok x hx).2.2
   refine ⟨this.1, this.2.1, ?_⟩
   have z := this.2.2
   unfold cA sh at *
   simp only
   omega
 . rw [Bw, JF, oV]
   have := h.MJ p p1 (t - b)
   omega
noncomputable def gone (ws : List Wy) (m u t : Int) (x : Tr) : Int := if (wy ws x.w).s = m - 1 /\ x.h <= u /\ t < cA ws x then x.l else 0
theorem mO {ws : List Wy} {t : Int} {f : Tr -> Int} : ∀ {pl : List Tr}, sm f (fC ws t pl) = sm (fun x => if cA ws x <= t then f x else 0) pl
 | [] => rfl
 | x :: pl => by
   have ih := mO (ws := ws) (t := t) (f := f) (pl := pl)
   unfold fC at ih ⊢
   rw [List.filter_cons, bD]
   by_cases c : cA ws x <= t
   . simp [c, ih]
   . simp [c, ih]
theorem Gf {ws : List Wy} {m u t : Int} {pl : List Tr} (h : u <= t) : stP ws (fC ws t pl) (m - 1) (dW u) = stP ws pl (m - 1) (dW u) + sm (gone ws m u t) pl := by
 unfold stP
 rw [mO, <- JV]
 refine cP fun x _ => ?_
 unfold uZ vI gone dW
 simp only [decide_eq_true_eq]
 by_cases c1 : cA ws x <= t
 . rw [if_pos c1, if_neg (c := (wy ws x.w).s = m - 1 /\ x.h <= u /\ t < cA ws x) (by omega)]; omega
 . rw [if_neg c1, if_neg (c := (wy ws x.w).t = m - 1 /\ cA ws x <= u) (by omega)]
   by_cases c2 : (wy ws x.w).s = m - 1 /\ x.h <= u
   . rw [if_pos c2, if_pos ⟨c2.1, c2.2, by omega⟩]; omega
   . rw [if_neg c2, if_neg (fun z => c2 ⟨z.1, z.2.1⟩)]; omega
theorem v8 {m last t : Int} {ws : List Wy} {pl : List Tr} (hk : iD m ws) (h : Pl last ws pl) : oX m ws t (fC ws t pl) := by
 refine ⟨?_, oJ h.DY, fun y hy => ?_, fun p p1 p2 u => ?_⟩
 . rw [List.all_eq_true]; intro y hy; have := h.ok y (nH hy).1; simp [wR, this]
 . obtain ⟨hy, ho⟩ := nH hy
   have := (h.ok y hy).2.2
   exact ⟨this.1, this.2.1, ho⟩
 . have hb : left ws pl p (min u t) <= come ws pl p (min u t) := h.MJ p p1 (min u t)
   rw [oV]
   have e1 : come ws (fC ws t pl) p u = come ws pl p (min u t) := by
    unfold come
    rw [mO]
    refine cP fun x _ => ?_
    unfold uZ dW
    simp only [decide_eq_true_eq]
    by_cases c1 : cA ws x <= t
    . rw [if_pos c1]
      by_cases c2 : (wy ws x.w).t = p /\ cA ws x <= u
      . rw [if_pos c2, if_pos ⟨c2.1, by omega⟩]
      . rw [if_neg c2, if_neg (fun z => c2 ⟨z.1, by omega⟩)]
    . rw [if_neg c1, if_neg (by omega)]
   have e2 : left ws (fC ws t pl) p u <= left ws pl p (min u t) := by
    unfold left
    rw [mO]
    refine HX fun x hx => ?_
    have h1 := h.ok x hx
    have h2 := (hk.ok _ (fP h1.2.2.1.1 h1.2.2.1.2).2).h0
    unfold vI dW
    simp only [decide_eq_true_eq]
    by_cases c1 : cA ws x <= t
    . rw [if_pos c1]
      have : x.h + (wy ws x.w).h <= t := c1
      by_cases c2 : (wy ws x.w).s = p /\ x.h <= u
      . rw [if_pos c2, if_pos ⟨c2.1, by omega⟩]; omega
      . rw [if_neg c2]; split <;> omega
    . rw [if_neg c1]; split <;> omega
   omega
end T
end
section
namespace T
open HH
noncomputable def LV (pl : List Tr) : Sl := .val false (.lst (pl.map Tr.d))
theorem Wn {n : Nat} (h : n <= 1000) : n <= lim := Nat.le_trans h (by show 1000 <= 16777216; decide)
theorem BR {b : Bool} : blt .int [.bl b] = some (.val (.int (if b then 1 else 0))) := rfl
inductive JGo (m : Int) (ws : List Wy) (pl : List Tr) (u t : Int) (r : List D) (ρ : List Sl) : Prop where
 | mk (rest : List Tr) (f : Int) (s5 : Sl) (q0 : ρ = [.val false (bj m ws), LV pl, .val false (.int u), .val false (.int t), .val false (.int f), s5]) (q1 : fr s5 = true) (q2 : r = rest.map Tr.d) (q3 : (∀ x ∈ rest, lR ws x)) (q4 : f + sm (gone ws m u t) rest = sm (gone ws m u t) pl)
theorem vM {w n : Nat} {m u t : Int} {ws : List Wy} {pl : List Tr} {Q : R -> List Sl -> Prop} (hw : ∀ x ∈ pl, lR ws x) (q : Q (.val (.int (sm (gone ws m u t) pl))) [.val false (bj m ws), LV pl, .val false (.int u), .val false (.int t)]) :
 (run Γ w (n + 2) 25 [.val false (bj m ws), LV pl, .val false (.int u), .val false (.int t)]).sat Q := by
 refine aX (d := Vc) rfl rfl (by decide) ?_
 first|apply aa|apply aq
 simp [Vc, LV]
 apply aa
 simp
 refine cY (JGo m ws pl u t) ?_ ?_ ⟨pl, 0, .aV, by simp [LV], rfl, rfl, hw, by omega⟩
 . rintro d r _ ⟨rest, f, s5, rfl, h5, hr, hi, hf⟩
   cases rest with
   | nil => cases hr
   | cons x rest =>
     obtain ⟨rfl, rfl⟩ : d = x.d /\ r = rest.map Tr.d := by simpa using hr
     have hx := hi x (by simp)
     have hi' : ∀ y ∈ rest, lR ws y := fun y hy => hi y (by simp [hy])
     obtain ⟨hg, hmem⟩ := fP hx.1 hx.2
     rw [bD] at hf
     simp [h5, LV]
     apply aa
     by_cases c1 : (wy ws x.w).s = m - 1
     . by_cases c2 : x.h <= u
       . simp [uc, kh, hg, qH, c1, c2]
         first|apply aa|apply aq
         simp [Cr]
         refine tX hx ?_
         by_cases c3 : t < cA ws x
         . simp [c3, BR]
           exact ⟨rest, f + x.l, _, by simp [LV]; rfl, rfl, rfl, hi', by rw [<- hf]; simp [gone, c1, c2, c3]; omega⟩
         . simp [c3, BR]
           exact ⟨rest, f, _, by simp [LV]; rfl, rfl, rfl, hi', by rw [<- hf]; simp [gone, c3]⟩
       . simp [uc, kh, hg, qH, c1, c2]
         exact ⟨rest, f, _, by simp [LV]; rfl, rfl, rfl, hi', by rw [<- hf]; simp [gone, c2]⟩
     . simp [uc, kh, hg, qH, c1]
       exact ⟨rest, f, _, by simp [LV]; rfl, rfl, rfl, hi', by rw [<- hf]; simp [gone, c1]⟩
 . rintro _ ⟨rest, f, s5, rfl, h5, hr, hi, hf⟩
   have hr' : rest = [] := by cases rest with | nil => rfl | cons _ _ => cases hr
   subst hr'
   simp at hf
   subst hf
   simp [LV]
   apply aa
   simp
   exact q
noncomputable def B4 (m : Int) (ws : List Wy) (pl : List Tr) (last t : Int) : List Sl := [.val false (bj m ws), LV pl, .val false (.int last), .val false (.int t)]
inductive JPa (m : Int) (ws : List Wy) (pl : List Tr) (last t : Int) (_ : Nat) (ρ : List Sl) : Prop where
 | mk (s5 s6 s7 : Sl) (q0 : ρ = [.val false (bj m ws), LV pl, .val false (.int last), .val false (.int t), .own false ((fC ws t pl).map Tr.d), s5, s6, s7]) (q1 : fr s5 = true) (q2 : fr s6 = true) (q3 : fr s7 = true)
theorem pC {w n : Nat} {m last t : Int} {ws : List Wy} {pl : List Tr} {Q : R -> List Sl -> Prop} (hk : iD m ws) (hp : Pl last ws pl) (hl : pl.length <= 30) (q : Q (.val (.bl true)) (B4 m ws pl last t)) :
 (run Γ w (n + 5) 26 (B4 m ws pl last t)).sat Q := by
 have m0 := hk.m0
 have m1 := hk.m1
 have hne : ∀ v ∈ ws, v.s ≠ v.t := fun v hv => (hk.ok v hv).ne
 have hlt : (fC ws t pl).length <= 30 := Nat.le_trans sU hl
 have hin : ∀ x ∈ fC ws t pl, lR ws x := fun x hx => hp.Ab x (nH hx).1
 refine aX (d := Vd) rfl rfl (by decide) ?_
 first|apply aa|apply aq
 simp [Vd, B4, LV]
 refine Bl (.inr ⟨_, rfl⟩) hp.Ab hp.DY (by omega) ?_
 simp
 apply aa
 simp
 refine gn (.inl ⟨_, rfl⟩) ⟨by omega, by omega⟩ hne (by omega) fun r hr => ?_
 have hr1 : r = true := hr.mpr (v8 hk hp)
 subst hr1
 simp
 apply aa
 simp
 refine eZ (N := 10) (g := fun (i : Nat) => D.int (-1 + (i : Int))) (JPa m ws pl last t) ?_ ?_ ⟨.aV, .aV, .aV, rfl, rfl, rfl, rfl⟩
 . rintro i _ hi ⟨s5, s6, s7, rfl, h5, h6, h7⟩
   simp [h5, LV]
   apply aa
   simp [show -18446744073709551616 < -1 + (i : Int) by omega, show -1 + (i : Int) < 18446744073709551616 by omega, h6]
   generalize (if -1 < (-1 + (i : Int)) * last / 8 then (-1 + (i : Int)) * last / 8 else -1) = a
   obtain ⟨u, hu, hut⟩ : ∃ u, (if a < t then a else t) = u /\ u <= t := ⟨_, rfl, by split <;> omega⟩
   rw [hu]
   first|apply aa|apply aq
   simp
   refine cR (.inr ⟨_, rfl⟩) hp.Ab hne (by omega) ?_
   simp
   refine vM hp.Ab ?_
   simp [h7, LV]
   apply aa
   simp
   refine cR (.inl ⟨_, rfl⟩) hin hne (by omega) ?_
   rw [Gf hut]
   simp
   exact ⟨_, _, _, rfl, rfl, rfl, rfl⟩
 . rintro _ ⟨s5, s6, s7, rfl, _⟩
   simp [LV]
   apply aa
   simp
   exact q
inductive JLa (m : Int) (ws : List Wy) (pl : List Tr) (last b : Int) (_ : Nat) (ρ : List Sl) : Prop where
 | mk (s5 s6 : Sl) (q0 : ρ = [.val false (bj m ws), LV pl, .val false (.int last), .val false (.int b), .own false ((pl.map (sh b)).map Tr.d), s5, s6]) (q1 : fr s5 = true) (q2 : fr s6 = true)
theorem o5 {w n : Nat} {m last b : Int} {ws : List Wy} {pl : List Tr} {Q : R -> List Sl -> Prop} (hk : iD m ws) (hp : Pl last ws pl) (hl : pl.length <= 30) (hb : 0 <= b) (q : Q (.val (.bl true)) (B4 m ws pl last b)) :
 (run Γ w (n + 5) 27 (B4 m ws pl last b)).sat Q := by
 have m0 := hk.m0
 have m1 := hk.m1
 have hne : ∀ v ∈ ws, v.s ≠ v.t := fun v hv => (hk.ok v hv).ne
 have hlt : (pl.map (sh b)).length <= 30 := by simpa using hl
 have hR := Cp (m := m) hb hp
 have hin : ∀ x ∈ pl.map (sh b), lR ws x := fun x hx => (hR.fit x hx).1
 refine aX (d := T9) rfl rfl (by decide) ?_
 first|apply aa|apply aq
 simp only [T9, B4, LV]
 simp
 refine yF (.inr ⟨_, rfl⟩) hp.DY (by omega) ?_
 generalize hks : pl.map (sh b) = ks at *
 simp
 apply aa
 simp
 refine gn (.inl ⟨_, rfl⟩) ⟨by omega, by omega⟩ hne (by omega) fun r hr => ?_
 have hr1 : r = true := hr.mpr hR
 subst hr1
 simp
 apply aa
 simp
 refine eZ (N := 10) (g := fun (i : Nat) => D.int (-1 + (i : Int))) (JLa m ws pl last b) ?_ ?_ ⟨.aV, .aV, by rw [hks]; rfl, rfl, rfl⟩
 . rintro i _ hi ⟨s5, s6, rfl, h5, h6⟩
   rw [hks]
   simp [h5, LV]
   apply aa
   simp [show -18446744073709551616 < -1 + (i : Int) by omega, show -1 + (i : Int) < 18446744073709551616 by omega, h6]
   generalize (if -1 < (-1 + (i : Int)) * last / 8 then (-1 + (i : Int)) * last / 8 else -1) = a
   first|apply aa|apply aq
   simp
   refine cR (.inl ⟨_, rfl⟩) hin hne (by omega) ?_
   simp
   refine cR (.inr ⟨_, rfl⟩) hp.Ab hne (by omega) ?_
   rw [<- hks, Bw, Ro, hks]
   simp
   apply aa
   simp
   refine iy (.inl ⟨_, rfl⟩) hin hne (by omega) ?_
   simp
   refine iy (.inr ⟨_, rfl⟩) hp.Ab hne (by omega) ?_
   rw [<- hks, Bw, PX, hks]
   simp
   exact ⟨_, _, by rw [hks]; rfl, rfl, rfl⟩
 . rintro _ ⟨s5, s6, rfl, _⟩
   simp [LV]
   apply aa
   simp
   exact q
inductive JLw (v : Sl) (r : List D) (ρ : List Sl) : Prop where
 | mk (s1 : Sl) (s2 : Sl) (s3 : Sl) (s4 : Sl) (s5 : Sl) (s6 : Sl) (s7 : Sl) (s8 : Sl) (s9 : Sl) (je : Sl) (qj : Sl) (q0 : ρ = [v, s1, s2, s3, s4, s5, s6, s7, s8, s9, je, qj]) (q1 : A6 (fr s1 = true) (fr s2 = true) (fr s3 = true) (fr s4 = true) (fr s5 = true) (fr s6 = true)) (q2 : A5 (fr s7 = true) (fr s8 = true) (fr s9 = true) (fr je = true) (fr qj = true)) (q3 : ∀ d ∈ r, ∃ i, d = D.int i)
inductive JPt (a0 a1 a2 a3 a4 a5 a6 a7 a8 a9 a11 : Sl) (_ : Nat) (ρ : List Sl) : Prop where
 | mk (je : Sl) (q0 : ρ = [a0, a1, a2, a3, a4, a5, a6, a7, a8, a9, je, a11]) (q1 : fr je = true)
set_option maxHeartbeats 4000000 in
theorem Hb (ns : List Int) (hn : ns.length <= 63) : ∃ as, run Γ 1000 40 29 [.val false (.lst (ns.map D.int))] = .ok (.val (.bl true)) as := by
 suffices h : ∀ w, (run Γ w 40 29 [.val false (.lst (ns.map D.int))]).sat fun r _ => r = .val (.bl true) by
  obtain ⟨a, ρ, e, rfl⟩ := sat_iff.mp (h 1000)
  exact ⟨ρ, e⟩
 intro w
 refine aX (d := UG) rfl rfl (by decide) ?_
 first|apply aa|apply aq
 simp [UG]
 refine vy (m := 8) (by rfl) (by decide) (by decide) hn fun cs hcl => ?_
 have hl : 1 + cs.length <= lim := by show _ <= 16777216; omega
 simp [hl]
 refine cY (JLw (.val false (.lst (ns.map D.int)))) ?_ ?_ ?_
 . rintro d r _ ⟨s1, s2, s3, s4, s5, s6, s7, s8, s9, je, qj, rfl, ⟨h1, h2, h3, h4, h5, h6⟩, ⟨h7, h8, h9, h10, h11⟩, hd⟩
   obtain ⟨x, rfl⟩ := hd d (by simp)
   simp [h1]
   apply aa
   simp
   refine Ak fun a b c => ?_
   simp [h2]
   apply aa
   simp
   refine Ft fun m ws x z hk0 hsm => ?_
   simp [h3]
   apply aa
   simp
   refine bw (by decide) (by decide) fun d x z d0 d1 => ?_
   simp [h4]
   obtain ⟨aaL, e0, l0, l1⟩ : ∃ l, l = 1 + d /\ 1 <= l /\ l <= 8 := ⟨_, rfl, by omega, by omega⟩
   rw [<- e0]
   first|apply aa|apply aq
   simp
   refine qm hk0 (by omega) (by omega) (by decide) (by decide) fun one x z hp1 hn1 => ?_
   simp [h5]
   apply aa
   simp
   refine qm hk0 (by omega) (by omega) (by decide) (by decide) fun other x z hp2 hn2 => ?_
   simp [h6]
   apply aa
   simp
   refine pH hk0 hp1 hp2 (by omega) (by omega) ?_
   simp [A4]
   apply aa
   simp
   refine yw hk0 hsm hp1 (by omega) l0 l1 fun x z last ws pl s2 hk hp hpl l2 l3 hs2 _ => ?_
   have hs5 : ∃ s5, dU (.own false (one.map Tr.d)) (some s2) = s5 /\ fr s5 = true := by
    rcases hs2 with rfl | rfl
    . exact ⟨_, rfl, rfl⟩
    . exact ⟨_, rfl, rfl⟩
   obtain ⟨s5', e5, h5'⟩ := hs5
   simp [e5, h5', h7, h8, h9]
   have Jf : pl.length <= 30 := by omega
   first|apply aa|apply aq
   simp
   refine eZ (N := 9) (g := fun (i : Nat) => D.int (i : Int)) (JPt _ _ _ _ _ _ _ _ _ _ _) ?_ ?_ ⟨je, rfl, h10⟩
   . rintro i _ hi ⟨je, rfl, h10⟩
     obtain ⟨j, hj, j0, j1⟩ : ∃ j : Int, (i : Int) = j /\ -18446744073709551616 < j /\ j < 18446744073709551616 := ⟨_, rfl, by omega, by omega⟩
     rw [hj]
     simp [h10]
     apply aa
     simp [j0, j1]
     generalize j * last / 8 = t
     refine pC (pl := pl) hk hp Jf ?_
     simp [B4, LV]
     exact ⟨_, rfl, rfl⟩
   rintro _ ⟨je, rfl, h10⟩
   first|apply aa|apply aq
   simp
   refine bw (by decide) (by decide) fun d1 x z Xg Zr => ?_
   simp
   refine bw (by decide) (by decide) fun d2 x z Xq d21 => ?_
   simp
   refine bw (by decide) (by decide) fun d3 x z d30 d31 => ?_
   obtain ⟨b, eb, b0⟩ : ∃ b, at' [D.int d1, .int d2] d3 = some (.int b) /\ 0 <= b := by
    by_cases c : d3 = 0
    . exact ⟨d1, by rw [c]; rfl, Xg⟩
    . exact ⟨d2, by rw [show d3 = 1 by omega]; rfl, Xq⟩
   simp [eb, h11]
   apply aa
   simp
   refine o5 (pl := pl) hk hp Jf b0 ?_
   simp [B4, LV]
   exact ⟨_, _, _, _, _, _, _, _, _, _, _, rfl, ⟨rfl, rfl, rfl, rfl, h5', rfl⟩, ⟨rfl, rfl, rfl, h10, rfl⟩, fun d hd' => hd d (by simp [hd'])⟩
 . rintro _ ⟨s1, s2, s3, s4, s5, s6, s7, s8, s9, je, qj, rfl, _⟩
   first|apply aa|apply aq
   simp
 . exact ⟨.aV, .aV, .aV, .aV, .aV, .aV, .aV, .aV, .aV, .aV, .aV, rfl, ⟨rfl, rfl, rfl, rfl, rfl, rfl⟩, ⟨rfl, rfl, rfl, rfl, rfl⟩, fun d hd => by
    rcases List.mem_cons.mp hd with rfl | hd
    . exact ⟨0, rfl⟩
    . obtain ⟨i, _, rfl⟩ := List.mem_map.mp hd; exact ⟨i, rfl⟩⟩
end T
end
namespace PySem.W.Fast
theorem tw16796344947172022102 : True := ⟨⟩
theorem tw2211381049852028234 : True := ⟨⟩
theorem tw3261224334515119757 : True := ⟨⟩
theorem tw2888849781596568140 : True := ⟨⟩
theorem tw17816458846105102448 : True := ⟨⟩
theorem tw9264396519145426000 : True := ⟨⟩
theorem tw3458602500276869146 : True := ⟨⟩
theorem tw8016273967622972130 : True := ⟨⟩
theorem tw7374342132544329502 : True := ⟨⟩
theorem tw15955872782132940881 : True := ⟨⟩
theorem tw7339685385564187606 : True := ⟨⟩
theorem tw9584896855790514881 : True := ⟨⟩
theorem tw6925626090463601556 : True := ⟨⟩
theorem tw7609804334155543601 : True := ⟨⟩
theorem tw13102917953867557662 : True := ⟨⟩
theorem tw6915657247273198848 : True := ⟨⟩
theorem tw15735957025483050863 : True := ⟨⟩
theorem tw13328065277737445729 : True := ⟨⟩
end PySem.W.Fast
namespace T
open PySem L2 PySem.Spec PyProof.Rows HH
structure Txt (K : PySem.W.Frag) : Prop where
 D0 : bN K "laid_plans" s0
 D1 : bN K "later_plan" s1
 D2 : bN K "hour_out" s2
 D3 : bN K "plan_till" s3
 D4 : bN K "is_rising" s4
 D5 : bN K "is_plan" s5
 D6 : bN K "triple_fits" s6
 D7 : bN K "changes_at" s7
 D8 : bN K "never_short" s8
 D9 : bN K "plan_right" s9
 D10 : bN K "stands_at" je
 D11 : bN K "brought_by" qj
 D12 : bN K "sent_from" s12
 D13 : bN K "known_way" rm
 D14 : bN K "with_room" NQ
 D15 : bN K "_law_pool" V7
 D16 : bN K "_law_next" V1
 D17 : bN K "_law_cells" Yb
 D18 : bN K "_law_way" W9
 D19 : bN K "_law_net" XF
 D20 : bN K "_law_out" Xa
 D21 : bN K "_law_come" V9
 D22 : bN K "_law_left" XM
 D23 : bN K "_law_plan" Ym
 D24 : bN K "_law_grown" XR
 D25 : bN K "_law_gone_on" WY
 D26 : bN K "_law_part_right" Ws
 D27 : bN K "_law_later_right" Ww
 D28 : bN K "_law_both_right" Yu
 D29 : bN K "law" Ye
 ji : PySem.W.nsIn K mainGlobals "all" = some none
 DX : PySem.W.nsIn K mainGlobals "int" = some none
 fG : PySem.W.nsIn K mainGlobals "len" = some none
 wL : PySem.W.nsIn K mainGlobals "list" = some none
 ir : PySem.W.nsIn K mainGlobals "max" = some none
 qz : PySem.W.nsIn K mainGlobals "min" = some none
 aZ : PySem.W.nsIn K mainGlobals "range" = some none
 cH : PySem.W.nsIn K mainGlobals "sorted" = some none
 il : PySem.W.nsIn K mainGlobals "sum" = some none
 iW : PySem.W.nsIn K mainGlobals "tuple" = some none
 DW : PySem.W.nsIn K mainGlobals "zip" = some none
noncomputable def jb {K : PySem.W.Frag} (T : Txt K) : Nat -> Addr := fun k => 0
structure Oks (Pg : Program) (w : World) (K : PySem.W.Frag) (mg : Str -> Option Value) (base : Heap) (cl : Nat -> Addr) (n : Nat) : Prop where
 c0 : az Pg w K mg base n (run Γ 1000 n) 0 "laid_plans" 2
 c1 : az Pg w K mg base n (run Γ 1000 n) 1 "later_plan" 2
 c2 : az Pg w K mg base n (run Γ 1000 n) 2 "hour_out" 3
 c3 : az Pg w K mg base n (run Γ 1000 n) 3 "plan_till" 3
 c4 : az Pg w K mg base n (run Γ 1000 n) 4 "is_rising" 1
 c5 : az Pg w K mg base n (run Γ 1000 n) 5 "is_plan" 1
 c6 : az Pg w K mg base n (run Γ 1000 n) 6 "triple_fits" 3
 c7 : az Pg w K mg base n (run Γ 1000 n) 7 "changes_at" 3
 c8 : az Pg w K mg base n (run Γ 1000 n) 8 "never_short" 3
 c9 : az Pg w K mg base n (run Γ 1000 n) 9 "plan_right" 3
 Zj : az Pg w K mg base n (run Γ 1000 n) 10 "stands_at" 4
 Tv : az Pg w K mg base n (run Γ 1000 n) 11 "brought_by" 3
 c12 : az Pg w K mg base n (run Γ 1000 n) 12 "sent_from" 3
 Zk : az Pg w K mg base n (run Γ 1000 n) 13 "known_way" 2
 Zm : az Pg w K mg base n (run Γ 1000 n) 14 "with_room" 3
 VF : az Pg w K mg base n (run Γ 1000 n) 15 "_law_pool" 1
 c16 : az Pg w K mg base n (run Γ 1000 n) 16 "_law_next" 2
 VG : az Pg w K mg base n (run Γ 1000 n) 17 "_law_cells" 2
 Zn : az Pg w K mg base n (run Γ 1000 n) 18 "_law_way" 3
 VH : az Pg w K mg base n (run Γ 1000 n) 19 "_law_net" 1
 VJ : az Pg w K mg base n (run Γ 1000 n) 20 "_law_out" 2
 c21 : az Pg w K mg base n (run Γ 1000 n) 21 "_law_come" 4
 Zo : az Pg w K mg base n (run Γ 1000 n) 22 "_law_left" 4
 VL : az Pg w K mg base n (run Γ 1000 n) 23 "_law_plan" 4
 VM : az Pg w K mg base n (run Γ 1000 n) 24 "_law_grown" 4
 Zq : az Pg w K mg base n (run Γ 1000 n) 25 "_law_gone_on" 4
 VN : az Pg w K mg base n (run Γ 1000 n) 26 "_law_part_right" 4
 VP : az Pg w K mg base n (run Γ 1000 n) 27 "_law_later_right" 4
 VR : az Pg w K mg base n (run Γ 1000 n) 28 "_law_both_right" 4
 c29 : az Pg w K mg base n (run Γ 1000 n) 29 "law" 1
set_option maxHeartbeats 0 in
theorem Bx {Pg : Program} {w : World} {K : PySem.W.Frag} {mg : Str -> Option Value} {base : Heap} (T : Txt K) (X : K.In base) (G : base.Ns mainGlobals mg) : ∀ n, Oks Pg w K mg base (jb T) n
 | 0 => {
   c0 := bY (ps := ["one", "other"]) X G T.D0 rfl (fun _ _ _ _ _ _ us hl => match us, hl with | [_, _], _ => rfl)
   c1 := bY (ps := ["plan", "hours"]) X G T.D1 rfl (fun _ _ _ _ _ _ us hl => match us, hl with | [_, _], _ => rfl)
   c2 := bY (ps := ["net", "hour", "way"]) X G T.D2 rfl (fun _ _ _ _ _ _ us hl => match us, hl with | [_, _, _], _ => rfl)
   c3 := bY (ps := ["net", "plan", "hour"]) X G T.D3 rfl (fun _ _ _ _ _ _ us hl => match us, hl with | [_, _, _], _ => rfl)
   c4 := bY (ps := ["things"]) X G T.D4 rfl (fun _ _ _ _ _ _ us hl => match us, hl with | [_], _ => rfl)
   c5 := bY (ps := ["triples"]) X G T.D5 rfl (fun _ _ _ _ _ _ us hl => match us, hl with | [_], _ => rfl)
   c6 := bY (ps := ["net", "last", "triple"]) X G T.D6 rfl (fun _ _ _ _ _ _ us hl => match us, hl with | [_, _, _], _ => rfl)
   c7 := bY (ps := ["net", "plan", "place"]) X G T.D7 rfl (fun _ _ _ _ _ _ us hl => match us, hl with | [_, _, _], _ => rfl)
   c8 := bY (ps := ["net", "plan", "place"]) X G T.D8 rfl (fun _ _ _ _ _ _ us hl => match us, hl with | [_, _, _], _ => rfl)
   c9 := bY (ps := ["net", "last", "plan"]) X G T.D9 rfl (fun _ _ _ _ _ _ us hl => match us, hl with | [_, _, _], _ => rfl)
   Zj := bY (ps := ["net", "plan", "place", "hour"]) X G T.D10 rfl (fun _ _ _ _ _ _ us hl => match us, hl with | [_, _, _, _], _ => rfl)
   Tv := bY (ps := ["net", "plan", "hour"]) X G T.D11 rfl (fun _ _ _ _ _ _ us hl => match us, hl with | [_, _, _], _ => rfl)
   c12 := bY (ps := ["net", "plan", "hour"]) X G T.D12 rfl (fun _ _ _ _ _ _ us hl => match us, hl with | [_, _, _], _ => rfl)
   Zk := bY (ps := ["net", "number"]) X G T.D13 rfl (fun _ _ _ _ _ _ us hl => match us, hl with | [_, _], _ => rfl)
   Zm := bY (ps := ["net", "number", "room"]) X G T.D14 rfl (fun _ _ _ _ _ _ us hl => match us, hl with | [_, _, _], _ => rfl)
   VF := bY (ps := ["cell"]) X G T.D15 rfl (fun _ _ _ _ _ _ us hl => match us, hl with | [_], _ => rfl)
   c16 := bY (ps := ["pool", "base"]) X G T.D16 rfl (fun _ _ _ _ _ _ us hl => match us, hl with | [_, _], _ => rfl)
   VG := bY (ps := ["script", "most"]) X G T.D17 rfl (fun _ _ _ _ _ _ us hl => match us, hl with | [_, _], _ => rfl)
   Zn := bY (ps := ["pool", "many", "k"]) X G T.D18 rfl (fun _ _ _ _ _ _ us hl => match us, hl with | [_, _, _], _ => rfl)
   VH := bY (ps := ["pool"]) X G T.D19 rfl (fun _ _ _ _ _ _ us hl => match us, hl with | [_], _ => rfl)
   VJ := bY (ps := ["net", "triple"]) X G T.D20 rfl (fun _ _ _ _ _ _ us hl => match us, hl with | [_, _], _ => rfl)
   c21 := bY (ps := ["net", "plan", "place", "hour"]) X G T.D21 rfl (fun _ _ _ _ _ _ us hl => match us, hl with | [_, _, _, _], _ => rfl)
   Zo := bY (ps := ["net", "plan", "place", "hour"]) X G T.D22 rfl (fun _ _ _ _ _ _ us hl => match us, hl with | [_, _, _, _], _ => rfl)
   VL := bY (ps := ["pool", "net", "last", "most"]) X G T.D23 rfl (fun _ _ _ _ _ _ us hl => match us, hl with | [_, _, _, _], _ => rfl)
   VM := bY (ps := ["pool", "net", "plan", "last"]) X G T.D24 rfl (fun _ _ _ _ _ _ us hl => match us, hl with | [_, _, _, _], _ => rfl)
   Zq := bY (ps := ["net", "plan", "at", "hour"]) X G T.D25 rfl (fun _ _ _ _ _ _ us hl => match us, hl with | [_, _, _, _], _ => rfl)
   VN := bY (ps := ["net", "plan", "last", "hour"]) X G T.D26 rfl (fun _ _ _ _ _ _ us hl => match us, hl with | [_, _, _, _], _ => rfl)
   VP := bY (ps := ["net", "plan", "last", "by"]) X G T.D27 rfl (fun _ _ _ _ _ _ us hl => match us, hl with | [_, _, _, _], _ => rfl)
   VR := bY (ps := ["net", "one", "other", "last"]) X G T.D28 rfl (fun _ _ _ _ _ _ us hl => match us, hl with | [_, _, _, _], _ => rfl)
   c29 := bY (ps := ["script"]) X G T.D29 rfl (fun _ _ _ _ _ _ us hl => match us, hl with | [_], _ => rfl)
 }
 | n + 1 =>
   have ih := Bx (Pg := Pg) (w := w) (base := base) T X G n
   {
    c0 := bV (ps := ["one", "other"]) X G T.D0 rfl rfl (fun _ _ _ _ _ _ us hl => match us, hl with | [_, _], _ => rfl) fun _ _ F => d0 (cl := jb T) F (PySem.W.mg_none_of X G T.cH)
    c1 := bV (ps := ["plan", "hours"]) X G T.D1 rfl rfl (fun _ _ _ _ _ _ us hl => match us, hl with | [_, _], _ => rfl) fun _ _ F => d1 (cl := jb T) F (PySem.W.mg_none_of X G T.cH)
    c2 := bV (ps := ["net", "hour", "way"]) X G T.D2 rfl rfl (fun _ _ _ _ _ _ us hl => match us, hl with | [_, _, _], _ => rfl) fun _ _ F => d2 (cl := jb T) F
    c3 := bV (ps := ["net", "plan", "hour"]) X G T.D3 rfl rfl (fun _ _ _ _ _ _ us hl => match us, hl with | [_, _, _], _ => rfl) fun _ _ F => d3 (cl := jb T) F (PySem.W.mg_none_of X G T.cH) ih.c2
    c4 := bV (ps := ["things"]) X G T.D4 rfl rfl (fun _ _ _ _ _ _ us hl => match us, hl with | [_], _ => rfl) fun _ _ F => d4 (cl := jb T) F (PySem.W.mg_none_of X G T.ji) (PySem.W.mg_none_of X G T.DW)
    c5 := bV (ps := ["triples"]) X G T.D5 rfl rfl (fun _ _ _ _ _ _ us hl => match us, hl with | [_], _ => rfl) fun _ _ F => d5 (cl := jb T) F (PySem.W.mg_none_of X G T.ji) ih.c4
    c6 := bV (ps := ["net", "last", "triple"]) X G T.D6 rfl rfl (fun _ _ _ _ _ _ us hl => match us, hl with | [_, _, _], _ => rfl) fun _ _ F => d6 (cl := jb T) F (PySem.W.mg_none_of X G T.fG) ih.c2
    c7 := bV (ps := ["net", "plan", "place"]) X G T.D7 rfl rfl (fun _ _ _ _ _ _ us hl => match us, hl with | [_, _, _], _ => rfl) fun _ _ F => d7 (cl := jb T) F ih.c2
    c8 := bV (ps := ["net", "plan", "place"]) X G T.D8 rfl rfl (fun _ _ _ _ _ _ us hl => match us, hl with | [_, _, _], _ => rfl) fun _ _ F => d8 (cl := jb T) F (PySem.W.mg_none_of X G T.cH) ih.c7
    c9 := bV (ps := ["net", "last", "plan"]) X G T.D9 rfl rfl (fun _ _ _ _ _ _ us hl => match us, hl with | [_, _, _], _ => rfl) fun _ _ F => d9 (cl := jb T) F (PySem.W.mg_none_of X G T.ji) (PySem.W.mg_none_of X G T.aZ) ih.c5 ih.c8 ih.c6
    Zj := bV (ps := ["net", "plan", "place", "hour"]) X G T.D10 rfl rfl (fun _ _ _ _ _ _ us hl => match us, hl with | [_, _, _, _], _ => rfl) fun _ _ F => Xg (cl := jb T) F (PySem.W.mg_none_of X G T.il) ih.c7
    Tv := bV (ps := ["net", "plan", "hour"]) X G T.D11 rfl rfl (fun _ _ _ _ _ _ us hl => match us, hl with | [_, _, _], _ => rfl) fun _ _ F => Zr (cl := jb T) F ih.Zj
    c12 := bV (ps := ["net", "plan", "hour"]) X G T.D12 rfl rfl (fun _ _ _ _ _ _ us hl => match us, hl with | [_, _, _], _ => rfl) fun _ _ F => d12 (cl := jb T) F (PySem.W.mg_none_of X G T.il) ih.c7
    Zk := bV (ps := ["net", "number"]) X G T.D13 rfl rfl (fun _ _ _ _ _ _ us hl => match us, hl with | [_, _], _ => rfl) fun _ _ F => d13 (cl := jb T) F (PySem.W.mg_none_of X G T.fG)
    Zm := bV (ps := ["net", "number", "room"]) X G T.D14 rfl rfl (fun _ _ _ _ _ _ us hl => match us, hl with | [_, _, _], _ => rfl) fun _ _ F => d14 (cl := jb T) F ih.Zk
    VF := bV (ps := ["cell"]) X G T.D15 rfl rfl (fun _ _ _ _ _ _ us hl => match us, hl with | [_], _ => rfl) fun _ _ F => d15 (cl := jb T) F (PySem.W.mg_none_of X G T.ir)
    c16 := bV (ps := ["pool", "base"]) X G T.D16 rfl rfl (fun _ _ _ _ _ _ us hl => match us, hl with | [_, _], _ => rfl) fun _ _ F => d16 (cl := jb T) F
    VG := bV (ps := ["script", "most"]) X G T.D17 rfl rfl (fun _ _ _ _ _ _ us hl => match us, hl with | [_, _], _ => rfl) fun _ _ F => d17 (cl := jb T) F (PySem.W.mg_none_of X G T.fG) (PySem.W.mg_none_of X G T.wL) (PySem.W.mg_none_of X G T.aZ)
    Zn := bV (ps := ["pool", "many", "k"]) X G T.D18 rfl rfl (fun _ _ _ _ _ _ us hl => match us, hl with | [_, _, _], _ => rfl) fun _ _ F => d18 (cl := jb T) F ih.c16
    VH := bV (ps := ["pool"]) X G T.D19 rfl rfl (fun _ _ _ _ _ _ us hl => match us, hl with | [_], _ => rfl) fun _ _ F => d19 (cl := jb T) F (PySem.W.mg_none_of X G T.aZ) (PySem.W.mg_none_of X G T.iW) ih.c16 ih.Zn
    VJ := bV (ps := ["net", "triple"]) X G T.D20 rfl rfl (fun _ _ _ _ _ _ us hl => match us, hl with | [_, _], _ => rfl) fun _ _ F => Xq (cl := jb T) F
    c21 := bV (ps := ["net", "plan", "place", "hour"]) X G T.D21 rfl rfl (fun _ _ _ _ _ _ us hl => match us, hl with | [_, _, _, _], _ => rfl) fun _ _ F => d21 (cl := jb T) F (PySem.W.mg_none_of X G T.il) ih.VJ
    Zo := bV (ps := ["net", "plan", "place", "hour"]) X G T.D22 rfl rfl (fun _ _ _ _ _ _ us hl => match us, hl with | [_, _, _, _], _ => rfl) fun _ _ F => d22 (cl := jb T) F (PySem.W.mg_none_of X G T.il)
    VL := bV (ps := ["pool", "net", "last", "most"]) X G T.D23 rfl rfl (fun _ _ _ _ _ _ us hl => match us, hl with | [_, _, _, _], _ => rfl) fun _ _ F => d23 (cl := jb T) F (PySem.W.mg_none_of X G T.fG) (PySem.W.mg_none_of X G T.qz) (PySem.W.mg_none_of X G T.aZ) ih.c21 ih.Zo ih.c16
    VM := bV (ps := ["pool", "net", "plan", "last"]) X G T.D24 rfl rfl (fun _ _ _ _ _ _ us hl => match us, hl with | [_, _, _, _], _ => rfl) fun _ _ F => d24 (cl := jb T) F (PySem.W.mg_none_of X G T.iW) ih.c16
    Zq := bV (ps := ["net", "plan", "at", "hour"]) X G T.D25 rfl rfl (fun _ _ _ _ _ _ us hl => match us, hl with | [_, _, _, _], _ => rfl) fun _ _ F => d25 (cl := jb T) F (PySem.W.mg_none_of X G T.DX) ih.VJ
    VN := bV (ps := ["net", "plan", "last", "hour"]) X G T.D26 rfl rfl (fun _ _ _ _ _ _ us hl => match us, hl with | [_, _, _, _], _ => rfl) fun _ _ F => d26 (cl := jb T) F (PySem.W.mg_none_of X G T.ir) (PySem.W.mg_none_of X G T.qz) (PySem.W.mg_none_of X G T.aZ) ih.Zq ih.Tv ih.c9 ih.c3
    VP := bV (ps := ["net", "plan", "last", "by"]) X G T.D27 rfl rfl (fun _ _ _ _ _ _ us hl => match us, hl with | [_, _, _, _], _ => rfl) fun _ _ F => d27 (cl := jb T) F (PySem.W.mg_none_of X G T.ir) (PySem.W.mg_none_of X G T.aZ) ih.Tv ih.c1 ih.c9 ih.c12
    VR := bV (ps := ["net", "one", "other", "last"]) X G T.D28 rfl rfl (fun _ _ _ _ _ _ us hl => match us, hl with | [_, _, _, _], _ => rfl) fun _ _ F => d28 (cl := jb T) F (PySem.W.mg_none_of X G T.fG) (PySem.W.mg_none_of X G T.ir) (PySem.W.mg_none_of X G T.aZ) ih.Tv ih.c0 ih.c9 ih.c12 ih.Zm
    c29 := bV (ps := ["script"]) X G T.D29 rfl rfl (fun _ _ _ _ _ _ us hl => match us, hl with | [_], _ => rfl) fun _ _ F => Zy (cl := jb T) F (PySem.W.mg_none_of X G T.aZ) ih.VR ih.VG ih.VM ih.VP ih.VH ih.c16 ih.VN ih.VL ih.VF
   }
theorem gin {K : PySem.W.Frag} {x : Str} {i : Int} {t : Tok} (a : PySem.W.nsIn K mainGlobals x = some (some (Value.int i t))) : ∃ t, PySem.W.nsIn K mainGlobals x = some (some (Value.int i t)) := ⟨t, a⟩
set_option maxHeartbeats 0 in
theorem Lp {Pg : Program} {w : World} {K : PySem.W.Frag} {mg : Str -> Option Value} {h : Heap} {fa : Addr} (T : Txt K) (X : K.In h) (G : h.Ns mainGlobals mg) (hmg : mg "law" = some (.ref fa)) :
 ∃ fd : FuncData, (∀ (s : Shared) (u : Value), BindsTo s fd ⟨[u], []⟩ [("script", u)]) /\ ∀ base : Heap, K.In base -> base.Ns mainGlobals mg -> cj Pg w K mg base gG 40 fa fd ["script"] (ik K 1 (run Γ 1000 40 29)) := by
 obtain ⟨f, fd, a, F⟩ := T.D29.ex
 have e := hmg.symm.trans (PySem.W.mg_of X G a)
 cases e
 refine ⟨fd, fun s u => ?_, fun base kb nb => ?_⟩
 . obtain ⟨oc, od, kV, doc, pm, an, cdv, ct, osl, rfl, lk, hcd⟩ := F.ex
   exact .of_eq rfl
 . have ih := Bx (Pg := Pg) (w := w) (base := base) T kb nb 39
   exact Zy (cl := jb T) (k := 39) (n := 1000) (c := run Γ 1000 39) F (PySem.W.mg_none_of X G T.aZ) ih.VR ih.VG ih.VM ih.VP ih.VH ih.c16 ih.VN ih.VL ih.VF
end T
open PySem PySem.W PyProof.Rows
set_option maxRecDepth 100000 in
set_option maxHeartbeats 0 in
theorem PySem.Challenge.cw_hourhaul_k18_whole_parts_of_right_plans_holds : PySem.Challenge.rw_hourhaul_k18_whole_parts_of_right_plans.Holds := by
 w_on; o_law; k_head; (case hw => w_witness2)
 k_fill
 refine L2.Be (l := PySem.Challenge.rw_hourhaul_k18_whole_parts_of_right_plans) (n := 63) (k := 40) (x := "script") (CX := L2.gG) (sp := fun K => HH.ik K 1 (HH.run T.Γ 1000 40 29)) rfl (by decide) rfl ⟨rfl, by decide, by decide⟩ (fun w h Y => PySem.W.kIn_of Y) ?F ?S ?C
 case F =>
  intro w mg fa h KX G hmg
  refine T.Lp ?T KX G hmg
  constructor
  . refine' HH.bA ?a ?l ?c ?k; case a | l | c | k => k_is
  . refine' HH.bA ?a ?l ?c ?k; case a | l | c | k => k_is
  . refine' HH.bA ?a ?l ?c ?k; case a | l | c | k => k_is
  . refine' HH.bA ?a ?l ?c ?k; case a | l | c | k => k_is
  . refine' HH.bA ?a ?l ?c ?k; case a | l | c | k => k_is
  . refine' HH.bA ?a ?l ?c ?k; case a | l | c | k => k_is
  . refine' HH.bA ?a ?l ?c ?k; case a | l | c | k => k_is
  . refine' HH.bA ?a ?l ?c ?k; case a | l | c | k => k_is
  . refine' HH.bA ?a ?l ?c ?k; case a | l | c | k => k_is
  . refine' HH.bA ?a ?l ?c ?k; case a | l | c | k => k_is
  . refine' HH.bA ?a ?l ?c ?k; case a | l | c | k => k_is
  . refine' HH.bA ?a ?l ?c ?k; case a | l | c | k => k_is
  . refine' HH.bA ?a ?l ?c ?k; case a | l | c | k => k_is
  . refine' HH.bA ?a ?l ?c ?k; case a | l | c | k => k_is
  . refine' HH.bA ?a ?l ?c ?k; case a | l | c | k => k_is
  . refine' HH.bA ?a ?l ?c ?k; case a | l | c | k => k_is
  . refine' HH.bA ?a ?l ?c ?k; case a | l | c | k => k_is
  . refine' HH.bA ?a ?l ?c ?k; case a | l | c | k => k_is
  . refine' HH.bA ?a ?l ?c ?k; case a | l | c | k => k_is
  . refine' HH.bA ?a ?l ?c ?k; case a | l | c | k => k_is
  . refine' HH.bA ?a ?l ?c ?k; case a | l | c | k => k_is
  . refine' HH.bA ?a ?l ?c ?k; case a | l | c | k => k_is
  . refine' HH.bA ?a ?l ?c ?k; case a | l | c | k => k_is
  . refine' HH.bA ?a ?l ?c ?k; case a | l | c | k => k_is
  . refine' HH.bA ?a ?l ?c ?k; case a | l | c | k => k_is
  . refine' HH.bA ?a ?l ?c ?k; case a | l | c | k => k_is
  . refine' HH.bA ?a ?l ?c ?k; case a | l | c | k => k_is
  . refine' HH.bA ?a ?l ?c ?k; case a | l | c | k => k_is
  . refine' HH.bA ?a ?l ?c ?k; case a | l | c | k => k_is
  . refine' HH.bA ?a ?l ?c ?k; case a | l | c | k => k_is
  . k_is
  . k_is
  . k_is
  . k_is
  . k_is
  . k_is
  . k_is
  . k_is
  . k_is
  . k_is
  . k_is
 case S =>
  intro K H a ns hl hO hS
  obtain ⟨as, e⟩ := T.Hb ns hl
  exact HH.zy hS e
 case C => exact fun H s e s' z => z
