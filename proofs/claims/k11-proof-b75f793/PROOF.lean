import PyProof.Rows.All
import Wide.All
import OpenK.AllK
import Wide.FinOn
import HandS.ForMost
import HandS.Wide
import HandS.WideBits
import HandS.Defaults
import HandS.IsInst
import HandS.Gcd
import HandS.Flow
import KE.KDictKeyed
import KE.KMathGC
import HandS.Flt
import HandS.MakeKwOnly
import HandS.Codes
import PySem.Challenge.RW_holdsalltrees_k11_sizes_and_bounds
set_option Elab.async false
set_option linter.all false
set_option maxRecDepth 100000
set_option maxHeartbeats 4000000
/-! ### dicts whose keys are tuples of ints, texts and None; a table of right answers -/
namespace K11
open PySem PySem.Spec PyProof.Rows L2
def lV : Leaf → V
  | .none => .non
  | .num i => .int i
  | .text x => .str x
theorem lV_is {k : Leaf} {u : Value} (r : RelV (lV k) u) : Leaf.isOf k u = true := by
  cases k with
  | none =>
    have e : u = Value.none := r
    rw [e]
    rfl
  | num i =>
    obtain ⟨t, e⟩ := (show ∃ t, u = Value.int i t from r)
    rw [e]
    exact decide_eq_true rfl
  | text x =>
    obtain ⟨t, e⟩ := (show ∃ t, u = Value.str x t from r)
    rw [e]
    exact keyIs_str x t
abbrev LK (P : Program) (w : World) := tupleKind (leafKind P w)
theorem leaves_are {P : Program} {w : World} : ∀ {ks : List Leaf} {us : List Value}, Vals (ks.map lV) us → PySem.ItemsAre (leafKind P w) ks us := by
  intro ks
  induction ks with
  | nil =>
    intro us r
    cases us with
    | nil => exact .nil
    | cons a l => exact nomatch (show Vals [] (a :: l) from r)
  | cons k ks ih =>
    intro us r
    cases us with
    | nil => exact nomatch (show Vals (lV k :: ks.map lV) [] from r)
    | cons a l =>
      have r' : Vals (lV k :: ks.map lV) (a :: l) := r
      cases r' with
      | cons h t => exact .cons (lV_is h) (ih t)
theorem leaf_key {P : Program} {w : World} {H : Hp} {h : Heap} {b : Addr} {ks : List Leaf} (ok : HOk P w H h) (e : H b = some (.tup (ks.map lV))) : (LK P w).is h ks b := by
  have q : ObjOk P w H h b (.tup (ks.map lV)) := ok b _ e
  obtain ⟨_, its, rv, o, e1, e2, m, e3⟩ := q
  refine ⟨o, its.toArray, m, e1, e2, e3, ?_⟩
  have l := leaves_are (P := P) (w := w) rv
  simpa using l
/-- the dict at a has these entries -/
def RawD (P : Program) (w : World) (a : Addr) (xs : List (List Leaf × Addr × Value)) (h : Heap) : Prop :=
  (a == sysModules) = false ∧ ∃ o es ep, h.get? a = some o ∧ o.ExactDict ∧ o.data = .dict es ep ∧
    es.toList = xs.map (entryOfKey (LK P w)) ∧ (xs.map fun x => x.1).Nodup
theorem rawD_stays {P : Program} {w : World} {a : Addr} {xs : List (List Leaf × Addr × Value)} : ∀ h1 h2 : Heap, RawD P w a xs h1 →
    (∀ o, h1.get? a = some o → h2.get? a = some o) → RawD P w a xs h2 := by
  intro h1 h2 q st
  obtain ⟨q0, o, es, ep, e, r⟩ := q
  exact ⟨q0, o, es, ep, st o e, r⟩
/-- a table at a: its keys ks; each value is what S says of its key -/
def Tab (P : Program) (w : World) (S : List Leaf → V → Prop) (H : Hp) (a : Addr) (ks : List (List Leaf)) : Prop :=
  ∃ xs : List (List Leaf × Addr × Value), (xs.map fun x => x.1) = ks ∧ ks.Nodup ∧
    (∀ x ∈ xs, H x.2.1 = some (.tup (x.1.map lV)) ∧ ∃ v, RelV v x.2.2 ∧ S x.1 v) ∧ H a = some (.ext (RawD P w a xs))
/-- nothing but a is changed -/
def But (a : Addr) (H H' : Hp) : Prop := ∀ b o, b ≠ a → H b = some o → H' b = some o
theorem But.refl (a : Addr) (H : Hp) : But a H H := fun _ _ _ e => e
theorem But.trans {a : Addr} {H H1 H2 : Hp} (p : But a H H1) (q : But a H1 H2) : But a H H2 := fun b o n e => q b o n (p b o n e)
theorem But.same {a : Addr} {H H' : Hp} (p : Same H H') : But a H H' := fun b o _ e => p b o e
section
variable {P : Program} {w : World} {S : List Leaf → V → Prop} {H H' : Hp} {a : Addr} {ks : List (List Leaf)}
theorem Tab.keep (T : Tab P w S H a ks) (s : Same H H') : Tab P w S H' a ks := by
  obtain ⟨xs, e1, e2, e3, e4⟩ := T
  exact ⟨xs, e1, e2, fun x hx => ⟨s _ _ (e3 x hx).1, (e3 x hx).2⟩, s _ _ e4⟩
theorem Tab.holds (T : Tab P w S H a ks) : ∃ φ, H a = some (.ext φ) := let ⟨xs, _, _, _, e⟩ := T; ⟨_, e⟩
theorem Tab.all (T : Tab P w S H a ks) : ∀ k ∈ ks, ∃ v, S k v := by
  obtain ⟨xs, e1, e2, e3, e4⟩ := T
  intro k hk
  rw [← e1] at hk
  obtain ⟨x, hx, rfl⟩ := List.mem_map.mp hk
  obtain ⟨v, _, q⟩ := (e3 x hx).2
  exact ⟨v, q⟩
theorem Tab.nodup (T : Tab P w S H a ks) : ks.Nodup := let ⟨_, _, e, _⟩ := T; e
theorem Tab.dict {h : Heap} (ok : HOk P w H h) {xs : List (List Leaf × Addr × Value)}
    (e3 : ∀ x ∈ xs, H x.2.1 = some (.tup (x.1.map lV)) ∧ ∃ v, RelV v x.2.2 ∧ S x.1 v) (e4 : H a = some (.ext (RawD P w a xs))) :
    (a == sysModules) = false ∧ h.DictOfH (LK P w) a xs := by
  have q : ObjOk P w H h a (.ext (RawD P w a xs)) := ok a _ e4
  obtain ⟨⟨q0, o, es, ep, g1, g2, g3, g4, g5⟩, _⟩ := q
  exact ⟨q0, o, es, ep, g1, g2, g3, g4, fun x hx => leaf_key ok (e3 x hx).1, g5⟩
end
theorem atKey_some {xs : List (List Leaf × Addr × Value)} {k : List Leaf} : (atKey xs k).isSome = decide (k ∈ xs.map fun x => x.1) := by
  induction xs with
  | nil => simp [atKey]
  | cons x xs ih =>
    by_cases e : x.1 = k
    · have q : atKey (x :: xs) k = some x.2 := by simp [atKey, e]
      rw [q]; simp [e]
    · have q : atKey (x :: xs) k = atKey xs k := by simp [atKey, e]
      rw [q, ih]
      have e' : ¬ k = x.1 := fun z => e z.symm
      simp [e']
theorem atKey_mem {xs : List (List Leaf × Addr × Value)} {k : List Leaf} {p : Addr × Value} (h : atKey xs k = some p) : (k, p) ∈ xs := by
  unfold atKey at h
  obtain ⟨x, hx, rfl⟩ := Option.map_eq_some_iff.mp h
  have m := List.mem_of_find?_eq_some hx
  have e := List.find?_some hx
  have e' : x.1 = k := of_decide_eq_true e
  rw [← e']
  exact m
theorem stored_keys (xs : List (List Leaf × Addr × Value)) (k : List Leaf) (b : Addr) (v : Value) :
    ((storedH xs k b v).map fun x => x.1) = if k ∈ xs.map (fun x => x.1) then xs.map (fun x => x.1) else xs.map (fun x => x.1) ++ [k] := by
  unfold storedH
  have e := atKey_some (xs := xs) (k := k)
  by_cases h : k ∈ xs.map (fun x => x.1)
  · rw [decide_eq_true h] at e
    rw [if_pos e, if_pos h, List.map_map]
    refine List.map_congr_left fun x _ => ?_
    by_cases q : x.1 = k <;> simp [putAt, q]
  · rw [decide_eq_false h] at e
    rw [if_neg (by rw [e]; decide), if_neg h, List.map_append]
    rfl
theorem stored_mem {xs : List (List Leaf × Addr × Value)} {k : List Leaf} {b : Addr} {v : Value} {x : List Leaf × Addr × Value} (h : x ∈ storedH xs k b v) :
    x ∈ xs ∨ x = (k, b, v) ∨ ∃ y ∈ xs, y.1 = k ∧ x = (y.1, y.2.1, v) := by
  unfold storedH at h
  by_cases q : (atKey xs k).isSome = true
  · rw [if_pos q] at h
    obtain ⟨y, hy, rfl⟩ := List.mem_map.mp h
    by_cases e : y.1 = k
    · exact .inr (.inr ⟨y, hy, e, by simp [putAt, e]⟩)
    · left
      have z : putAt k v y = y := by simp [putAt, e]
      rw [z]; exact hy
  · rw [if_neg q] at h
    rcases List.mem_append.mp h with h | h
    · exact .inl h
    · right; left; simpa using h
/-! ### the rules -/
def tTNotIn (P : Program) (w : World) (ty td : TE) : TE := fun σ H Q => ty σ H fun y H1 => td σ H1 fun x H2 =>
  ∃ (S : List Leaf → V → Prop) (a b : Addr) (ks : List (List Leaf)) (k : List Leaf), x = .ref a ∧ y = .ref b ∧ Tab P w S H2 a ks ∧ H2 b = some (.tup (k.map lV)) ∧ Q (.bl (!decide (k ∈ ks))) H2
def tTGet (P : Program) (w : World) (td ty : TE) : TE := fun σ H Q => td σ H fun x H1 => ty σ H1 fun y H2 =>
  ∃ (S : List Leaf → V → Prop) (a b : Addr) (ks : List (List Leaf)) (k : List Leaf), x = .ref a ∧ y = .ref b ∧ Tab P w S H2 a ks ∧ H2 b = some (.tup (k.map lV)) ∧ k ∈ ks ∧ ∀ v, S k v → Q v H2
def sTPut (P : Program) (w : World) (td ty tv : TE) : TS := fun D σ H => tv σ H fun v H1 => td σ H1 fun x H2 => ty σ H2 fun y H3 =>
  ∃ (S : List Leaf → V → Prop) (a b : Addr) (ks : List (List Leaf)) (k : List Leaf), x = .ref a ∧ y = .ref b ∧ Tab P w S H3 a ks ∧ H3 b = some (.tup (k.map lV)) ∧ S k v ∧ ks.length < sizeLine ∧
    ∀ H4, But a H3 H4 → Tab P w S H4 a (if k ∈ ks then ks else ks ++ [k]) → D.nx σ H4
section
variable {X : Cx} {o i value : Expr} {pos pos' : Pos} {td ty tv : TE}
theorem pc_tnotin (hu : X.A.units + 1 < cLine) (hi : PE X i ty) (ho : PE X o td) : PC X .NotIn i o (tTNotIn X.prog X.w ty td) := by
  constructor
  intro pins s σ H Q I h
  refine thn (hi.run pins s σ H _ I h) fun iv s1 R1 => ?_
  obtain ⟨y, H1, I1, ry, q1⟩ := R1
  refine thn (ho.run pins s1 σ H1 _ I1 q1) fun u s2 R2 => ?_
  obtain ⟨x, H2, I2, rx, S, a, b, ks, k, ex, ey, T, eb, q2⟩ := R2
  subst ex ey
  have e1 : u = Value.ref a := rx
  have e2 : iv = Value.ref b := ry
  subst e1 e2
  obtain ⟨xs, g1, g2, g3, g4⟩ := T
  obtain ⟨hd, dd⟩ := Tab.dict I2.hok g3 g4
  refine wpAny_notIn_heap (tupleKind_room_in1 hu) (leaf_key I2.hok eb) hd dd ?_
  rw [atKey_some, g1]
  exact ⟨.bl (!decide (k ∈ ks)), H2, I2.tok _, rfl, q2⟩
theorem pe_tget (hu : X.A.units + 1 < cLine) (ho : PE X o td) (hi : PE X i ty) (hs : NoSl i) : PE X (.Subscript o i pos) (tTGet X.prog X.w td ty) := by
  constructor
  intro pins s σ H Q I h
  refine subD_of PySem.F.slot_dict_getitem.lookup hs ?_
  refine thn (ho.run pins s σ H _ I h) fun u s1 R1 => ?_
  obtain ⟨x, H1, I1, rx, q1⟩ := R1
  refine thn (hi.run pins s1 σ H1 _ I1 q1) fun iv s2 R2 => ?_
  obtain ⟨y, H2, I2, ry, S, a, b, ks, k, ex, ey, T, eb, hk, q2⟩ := R2
  subst ex ey
  have e1 : u = Value.ref a := rx
  have e2 : iv = Value.ref b := ry
  subst e1 e2
  obtain ⟨xs, g1, g2, g3, g4⟩ := T
  obtain ⟨hd, dd⟩ := Tab.dict I2.hok g3 g4
  refine ⟨dd.typeIs, ?_⟩
  have hsome : (atKey xs k).isSome = true := by rw [atKey_some, g1]; exact decide_eq_true hk
  obtain ⟨p, hp⟩ := Option.isSome_iff_exists.mp hsome
  obtain ⟨v, rv, sv⟩ := (g3 _ (atKey_mem hp)).2
  exact wpAny_getItem_heap (tupleKind_room_in1 hu) (leaf_key I2.hok eb) dd hp ⟨v, H2, I2.tok _, rv, q2 v sv⟩
theorem ps_tput (hu : X.A.units + 1 < cLine) (ho : PE X o td) (hi : PE X i ty) (hv : PE X value tv)
    (hs : swapsWith value (some (.Subscript o i pos')) pos.line X.env = pure false) : PS X (.Assign [.Subscript o i pos'] value pos) (sTPut X.prog X.w td ty tv) := by
  constructor
  intro pins s σ H D I h
  refine wpAny_Assign_Subscript ?_ hs
  refine thn (hv.run pins s σ H _ I h) fun r s1 R1 => ?_
  obtain ⟨v, H1, I1, rv, q1⟩ := R1
  refine thn (ho.run pins s1 σ H1 _ I1 q1) fun u s2 R2 => ?_
  obtain ⟨x, H2, I2, rx, q2⟩ := R2
  refine thn (hi.run pins s2 σ H2 _ I2 q2) fun iv s3 R3 => ?_
  obtain ⟨y, H3, I3, ry, S, a, b, ks, k, ex, ey, T, eb, sv, hl, q3⟩ := R3
  subst ex ey
  have e1 : u = Value.ref a := rx
  have e2 : iv = Value.ref b := ry
  subst e1 e2
  obtain ⟨xs, g1, g2, g3, g4⟩ := T
  obtain ⟨hd, dd⟩ := Tab.dict I3.hok g3 g4
  have hlen : xs.length = ks.length := by rw [← g1, List.length_map]
  refine wpAny_setItem_heap (hsz := by rw [hlen]; exact Nat.le_of_lt hl) (tupleKind_room_in1 hu) (leaf_key I3.hok eb) dd fun h' dd' sb => ?_
  obtain ⟨ob, es, ep, z1, z2, z3, z4, z5, z6⟩ := dd'
  have off : ∀ c, ∀ l, H3 c = some (.tup l) → c ≠ a := fun c l e => ne_of e g4 (fun z => nomatch z)
  have I4 : Inv X pins σ (upd H3 a (.ext (RawD X.prog X.w a (storedH xs k b r)))) { s3 with heap := h', toks := s3.toks + (LK X.prog X.w).draws k } := by
    refine d_write I3 (by rw [g4]; exact True.intro) sb ⟨ob, z1⟩ ?_
    exact ⟨⟨hd, ob, es, ep, z1, z2, z3, z4, z6⟩, ⟨ob, z1⟩, rawD_stays⟩
  refine ⟨σ, _, I4, ?_⟩
  refine q3 _ (fun c p n e => by rw [upd_ne n]; exact e) ?_
  refine ⟨storedH xs k b r, ?_, ?_, ?_, upd_same⟩
  · rw [stored_keys, g1]
  · rw [← g1, ← stored_keys xs k b r]
    exact z6
  · intro x hx
    rcases stored_mem hx with hx | rfl | ⟨y, hy, e, rfl⟩
    · obtain ⟨t1, t2⟩ := g3 x hx
      exact ⟨by rw [upd_ne (off _ _ t1)]; exact t1, t2⟩
    · exact ⟨by show upd H3 a _ b = _; rw [upd_ne (off _ _ eb)]; exact eb, v, rv, sv⟩
    · obtain ⟨t1, t2⟩ := g3 y hy
      refine ⟨by show upd H3 a _ y.2.1 = _; rw [upd_ne (off _ _ t1)]; exact t1, v, rv, ?_⟩
      show S y.1 v
      rw [e]; exact sv
/-- {}, to be such a table -/
def tTNew (P : Program) (w : World) : TE := fun _ H Q => ∀ p H', H p = none → Same H H' → (∀ S, Tab P w S H' p []) → Q (.ref p) H'
theorem pe_tnew : PE X (.Dict [] [] pos) (tTNew X.prog X.w) := by
  constructor
  intro pins s σ H Q I h
  have fr := I.hok.fresh (Nat.le_refl s.heap.objs.size)
  have nb : (s.heap.objs.size == sysModules) = false := beq_eq_false_iff_ne.mpr (Ne.symm (Nat.ne_of_lt I.big))
  have raw : RawD X.prog X.w s.heap.objs.size [] (s.heap.push { cls := .type "dict", data := .dict #[] }) :=
    ⟨nb, _, #[], 0, Heap.get?_push_size _ rfl, ⟨rfl, rfl, rfl⟩, rfl, rfl, List.nodup_nil⟩
  refine wpAny_Dict_empty ⟨.ref s.heap.objs.size, upd H s.heap.objs.size (.ext (RawD X.prog X.w s.heap.objs.size [])), ?_, rfl, ?_⟩
  · refine I.laid (t' := s.toks) (fun _ _ q => Heap.get?_push_of_some _ q) (Nat.le_refl _) ?_
    exact ⟨raw, ⟨_, Heap.get?_push_size _ rfl⟩, rawD_stays⟩
  · refine h _ _ fr (fun c o e => by rw [upd_ne (ne_of_none e fr)]; exact e) fun S => ?_
    exact ⟨[], rfl, List.nodup_nil, (fun x hx => by cases hx), upd_same⟩
end
/-! ### comb -/
def rComb : List V → Hp → VK → Prop := fun vs H Q => ∃ a b : Int, vs = [.int a, .int b] ∧ 0 ≤ a ∧ 0 ≤ b ∧ b ≤ 9000 ∧ a < 2 ^ 64 ∧ Q (.int (PySem.W.mcComb a b)) H
theorem cr_comb {X : Cx} : CallR X (.builtin "math.comb") rComb := by
  intro pins s σ H vs us Q I r h
  obtain ⟨a, b, rfl, ha, hb, hb2, ha2, q⟩ := h
  obtain ⟨t, u, rfl⟩ := Vals.int2 r
  exact PySem.W.mc_comb ha hb ha2 (.inl hb2) fun _ => ⟨.int _, H, I.tok _, ⟨_, rfl⟩, q⟩
end K11
set_option Elab.async false
set_option maxRecDepth 100000
namespace K11
/-! ### the mathematics: sizes of universal trees -/
/-- the sum of f over the halving row of m -/
def rowSum (f : Nat → Nat) (m : Nat) : Nat :=
  if m = 0 then 0 else rowSum f (m / 2) + f m + rowSum f ((m + 1) / 2 - 1)
termination_by m
decreasing_by all_goals omega
theorem rowSum_zero (f : Nat → Nat) : rowSum f 0 = 0 := by unfold rowSum; rfl
theorem rowSum_pos (f : Nat → Nat) {m : Nat} (h : m ≠ 0) : rowSum f m = rowSum f (m / 2) + f m + rowSum f ((m + 1) / 2 - 1) := by
  rw [rowSum, if_neg h]
/-- is the bound of the branching number without effect -/
def free (n h : Nat) : Option Nat → Bool
  | none => true
  | some b => decide (n < 2 ^ b) || decide (h < b)
/-- the number of leaves of U(n, h, k) -/
def usz : Nat → Option Nat → Nat → Nat
  | 0, _, _ => 1
  | h + 1, none, n => rowSum (usz h none) n
  | h + 1, some b, n => if free n (h + 1) (some b) = true then rowSum (usz h none) n
      else if b = 1 then usz h (some 1) n else 2 * rowSum (usz h (some (b - 1))) (n - 1) + usz h (some b) n
theorem usz_zero (k : Option Nat) (n : Nat) : usz 0 k n = 1 := by cases k <;> rfl
theorem usz_free {n h : Nat} {k : Option Nat} (hf : free n (h + 1) k = true) : usz (h + 1) k n = rowSum (usz h none) n := by
  cases k with
  | none => rfl
  | some b => show (if _ then _ else _) = _; rw [if_pos hf]
theorem usz_one {n h : Nat} (hf : free n (h + 1) (some 1) = false) : usz (h + 1) (some 1) n = usz h (some 1) n := by
  show (if _ then _ else _) = _
  rw [if_neg (by rw [hf]; decide), if_pos rfl]
theorem usz_heavy {n h b : Nat} (hf : free n (h + 1) (some b) = false) (hb : b ≠ 1) :
    usz (h + 1) (some b) n = 2 * rowSum (usz h (some (b - 1))) (n - 1) + usz h (some b) n := by
  show (if _ then _ else _) = _
  rw [if_neg (by rw [hf]; decide), if_neg hb]
/-- the plain form of a parameter -/
def plain (n h : Nat) (k : Option Nat) : Option Nat := if free n h k = true then none else k
theorem free_plain (n h : Nat) (k : Option Nat) : free n h (plain n h k) = free n h k := by
  unfold plain
  cases hf : free n h k with
  | true => rw [if_pos rfl]; rfl
  | false => rw [if_neg (by decide)]; exact hf
theorem usz_plain (h n : Nat) (k : Option Nat) : usz h (plain n h k) n = usz h k n := by
  unfold plain
  cases hf : free n h k with
  | false => rw [if_neg (by decide)]
  | true =>
    rw [if_pos rfl]
    cases h with
    | zero => rw [usz_zero, usz_zero]
    | succ h => rw [usz_free hf, usz_free (k := none) rfl]

/-! ### binomials -/
def adj (l : List Nat) : List Nat := (List.range (l.length - 1)).map fun j => l.getD j 0 + l.getD (j + 1) 0
def prow : Nat → List Nat
  | 0 => [1]
  | a + 1 => [1] ++ adj (prow a) ++ [1]
theorem prow_len : ∀ a, (prow a).length = a + 1
  | 0 => rfl
  | a + 1 => by
    show ([1] ++ adj (prow a) ++ [1]).length = _
    unfold adj
    rw [List.length_append, List.length_append, List.length_map, List.length_range, prow_len a]
    simp; omega
def chN (a b : Nat) : Nat := (prow a).getD b 0
/-- the factor of point 19's bound -/
def bco (h : Nat) (k : Option Nat) (e : Nat) : Nat :=
  match k with
  | none => chN (e + h - 1) (h - 1)
  | some b => 2 ^ (min (min b (h + 1)) (e + 1) - 1) * chN h (min (min b (h + 1)) (e + 1) - 1) * chN (e + (min (min b (h + 1)) (e + 1)) - 1) (min (min b (h + 1)) (e + 1) - 1)
def bnd (n h : Nat) (k : Option Nat) : Nat := if h = 0 then 1 else n * bco h k (Nat.log2 n)
def ix : Option Nat → Nat
  | none => 0
  | some b => b
def TT : List (List (List Nat)) := [
  [[1, 1, 1, 1, 1, 1, 1, 1, 1, 1, 1, 1, 1, 1, 1, 1, 1, 1, 1, 1],
   [1, 1, 1, 1, 1, 1, 1, 1, 1, 1, 1, 1, 1, 1, 1, 1, 1, 1, 1, 1],
   [1, 1, 1, 1, 1, 1, 1, 1, 1, 1, 1, 1, 1, 1, 1, 1, 1, 1, 1, 1],
   [1, 1, 1, 1, 1, 1, 1, 1, 1, 1, 1, 1, 1, 1, 1, 1, 1, 1, 1, 1],
   [1, 1, 1, 1, 1, 1, 1, 1, 1, 1, 1, 1, 1, 1, 1, 1, 1, 1, 1, 1],
   [1, 1, 1, 1, 1, 1, 1, 1, 1, 1, 1, 1, 1, 1, 1, 1, 1, 1, 1, 1],
   [1, 1, 1, 1, 1, 1, 1, 1, 1, 1, 1, 1, 1, 1, 1, 1, 1, 1, 1, 1],
   [1, 1, 1, 1, 1, 1, 1, 1, 1, 1, 1, 1, 1, 1, 1, 1, 1, 1, 1, 1],
   [1, 1, 1, 1, 1, 1, 1, 1, 1, 1, 1, 1, 1, 1, 1, 1, 1, 1, 1, 1],
   [1, 1, 1, 1, 1, 1, 1, 1, 1, 1, 1, 1, 1, 1, 1, 1, 1, 1, 1, 1],
   [1, 1, 1, 1, 1, 1, 1, 1, 1, 1, 1, 1, 1, 1, 1, 1, 1, 1, 1, 1],
   [1, 1, 1, 1, 1, 1, 1, 1, 1, 1, 1, 1, 1, 1, 1, 1, 1, 1, 1, 1],
   [1, 1, 1, 1, 1, 1, 1, 1, 1, 1, 1, 1, 1, 1, 1, 1, 1, 1, 1, 1]],
  [[1, 1, 1, 1, 1, 1, 1, 1, 1, 1, 1, 1, 1, 1, 1, 1, 1, 1, 1, 1],
   [1, 1, 1, 1, 1, 1, 1, 1, 1, 1, 1, 1, 1, 1, 1, 1, 1, 1, 1, 1],
   [1, 1, 1, 1, 1, 1, 1, 1, 1, 1, 1, 1, 1, 1, 1, 1, 1, 1, 1, 1],
   [1, 1, 1, 1, 1, 1, 1, 1, 1, 1, 1, 1, 1, 1, 1, 1, 1, 1, 1, 1],
   [1, 1, 1, 1, 1, 1, 1, 1, 1, 1, 1, 1, 1, 1, 1, 1, 1, 1, 1, 1],
   [1, 1, 1, 1, 1, 1, 1, 1, 1, 1, 1, 1, 1, 1, 1, 1, 1, 1, 1, 1],
   [1, 1, 1, 1, 1, 1, 1, 1, 1, 1, 1, 1, 1, 1, 1, 1, 1, 1, 1, 1],
   [1, 1, 1, 1, 1, 1, 1, 1, 1, 1, 1, 1, 1, 1, 1, 1, 1, 1, 1, 1],
   [1, 1, 1, 1, 1, 1, 1, 1, 1, 1, 1, 1, 1, 1, 1, 1, 1, 1, 1, 1],
   [1, 1, 1, 1, 1, 1, 1, 1, 1, 1, 1, 1, 1, 1, 1, 1, 1, 1, 1, 1],
   [1, 1, 1, 1, 1, 1, 1, 1, 1, 1, 1, 1, 1, 1, 1, 1, 1, 1, 1, 1],
   [1, 1, 1, 1, 1, 1, 1, 1, 1, 1, 1, 1, 1, 1, 1, 1, 1, 1, 1, 1],
   [1, 1, 1, 1, 1, 1, 1, 1, 1, 1, 1, 1, 1, 1, 1, 1, 1, 1, 1, 1]],
  [[1, 2, 3, 4, 5, 6, 7, 8, 9, 10, 11, 12, 13, 14, 15, 16, 17, 18, 19, 20],
   [1, 1, 1, 1, 1, 1, 1, 1, 1, 1, 1, 1, 1, 1, 1, 1, 1, 1, 1, 1],
   [1, 2, 7, 9, 11, 13, 15, 17, 19, 21, 23, 25, 27, 29, 31, 33, 35, 37, 39, 41],
   [1, 2, 3, 4, 5, 6, 7, 8, 9, 10, 11, 12, 13, 14, 15, 16, 17, 18, 19, 20],
   [1, 2, 3, 4, 5, 6, 7, 8, 9, 10, 11, 12, 13, 14, 15, 16, 17, 18, 19, 20],
   [1, 2, 3, 4, 5, 6, 7, 8, 9, 10, 11, 12, 13, 14, 15, 16, 17, 18, 19, 20],
   [1, 2, 3, 4, 5, 6, 7, 8, 9, 10, 11, 12, 13, 14, 15, 16, 17, 18, 19, 20],
   [1, 2, 3, 4, 5, 6, 7, 8, 9, 10, 11, 12, 13, 14, 15, 16, 17, 18, 19, 20],
   [1, 2, 3, 4, 5, 6, 7, 8, 9, 10, 11, 12, 13, 14, 15, 16, 17, 18, 19, 20],
   [1, 2, 3, 4, 5, 6, 7, 8, 9, 10, 11, 12, 13, 14, 15, 16, 17, 18, 19, 20],
   [1, 2, 3, 4, 5, 6, 7, 8, 9, 10, 11, 12, 13, 14, 15, 16, 17, 18, 19, 20],
   [1, 2, 3, 4, 5, 6, 7, 8, 9, 10, 11, 12, 13, 14, 15, 16, 17, 18, 19, 20],
   [1, 2, 3, 4, 5, 6, 7, 8, 9, 10, 11, 12, 13, 14, 15, 16, 17, 18, 19, 20]],
  [[1, 3, 6, 10, 15, 21, 28, 36, 45, 55, 66, 78, 91, 105, 120, 136, 153, 171, 190, 210],
   [1, 1, 1, 1, 1, 1, 1, 1, 1, 1, 1, 1, 1, 1, 1, 1, 1, 1, 1, 1],
   [1, 3, 13, 17, 21, 25, 29, 33, 37, 41, 45, 49, 53, 57, 61, 65, 69, 73, 77, 81],
   [1, 3, 6, 42, 65, 92, 123, 158, 197, 240, 287, 338, 393, 452, 515, 582, 653, 728, 807, 890],
   [1, 3, 6, 10, 15, 21, 28, 36, 45, 55, 66, 78, 91, 105, 120, 136, 153, 171, 190, 210],
   [1, 3, 6, 10, 15, 21, 28, 36, 45, 55, 66, 78, 91, 105, 120, 136, 153, 171, 190, 210],
   [1, 3, 6, 10, 15, 21, 28, 36, 45, 55, 66, 78, 91, 105, 120, 136, 153, 171, 190, 210],
   [1, 3, 6, 10, 15, 21, 28, 36, 45, 55, 66, 78, 91, 105, 120, 136, 153, 171, 190, 210],
   [1, 3, 6, 10, 15, 21, 28, 36, 45, 55, 66, 78, 91, 105, 120, 136, 153, 171, 190, 210],
   [1, 3, 6, 10, 15, 21, 28, 36, 45, 55, 66, 78, 91, 105, 120, 136, 153, 171, 190, 210],
   [1, 3, 6, 10, 15, 21, 28, 36, 45, 55, 66, 78, 91, 105, 120, 136, 153, 171, 190, 210],
   [1, 3, 6, 10, 15, 21, 28, 36, 45, 55, 66, 78, 91, 105, 120, 136, 153, 171, 190, 210],
   [1, 3, 6, 10, 15, 21, 28, 36, 45, 55, 66, 78, 91, 105, 120, 136, 153, 171, 190, 210]],
  [[1, 4, 10, 20, 35, 56, 84, 120, 165, 220, 286, 364, 455, 560, 680, 816, 969, 1140, 1330, 1540],
   [1, 1, 1, 1, 1, 1, 1, 1, 1, 1, 1, 1, 1, 1, 1, 1, 1, 1, 1, 1],
   [1, 4, 19, 25, 31, 37, 43, 49, 55, 61, 67, 73, 79, 85, 91, 97, 103, 109, 115, 121],
   [1, 4, 10, 110, 175, 252, 341, 442, 555, 680, 817, 966, 1127, 1300, 1485, 1682, 1891, 2112, 2345, 2590],
   [1, 4, 10, 20, 249, 439, 692, 1016, 1419, 1909, 2494, 3182, 3981, 4899, 5944, 7124, 8447, 9921, 11554, 13354],
   [1, 4, 10, 20, 35, 56, 84, 120, 165, 220, 286, 364, 455, 560, 680, 816, 969, 1140, 1330, 1540],
   [1, 4, 10, 20, 35, 56, 84, 120, 165, 220, 286, 364, 455, 560, 680, 816, 969, 1140, 1330, 1540],
   [1, 4, 10, 20, 35, 56, 84, 120, 165, 220, 286, 364, 455, 560, 680, 816, 969, 1140, 1330, 1540],
   [1, 4, 10, 20, 35, 56, 84, 120, 165, 220, 286, 364, 455, 560, 680, 816, 969, 1140, 1330, 1540],
   [1, 4, 10, 20, 35, 56, 84, 120, 165, 220, 286, 364, 455, 560, 680, 816, 969, 1140, 1330, 1540],
   [1, 4, 10, 20, 35, 56, 84, 120, 165, 220, 286, 364, 455, 560, 680, 816, 969, 1140, 1330, 1540],
   [1, 4, 10, 20, 35, 56, 84, 120, 165, 220, 286, 364, 455, 560, 680, 816, 969, 1140, 1330, 1540],
   [1, 4, 10, 20, 35, 56, 84, 120, 165, 220, 286, 364, 455, 560, 680, 816, 969, 1140, 1330, 1540]],
  [[1, 5, 15, 35, 70, 126, 210, 330, 495, 715, 1001, 1365, 1820, 2380, 3060, 3876, 4845, 5985, 7315, 8855],
   [1, 1, 1, 1, 1, 1, 1, 1, 1, 1, 1, 1, 1, 1, 1, 1, 1, 1, 1, 1],
   [1, 5, 25, 33, 41, 49, 57, 65, 73, 81, 89, 97, 105, 113, 121, 129, 137, 145, 153, 161],
   [1, 5, 15, 208, 335, 486, 661, 860, 1083, 1330, 1601, 1896, 2215, 2558, 2925, 3316, 3731, 4170, 4633, 5120],
   [1, 5, 15, 35, 849, 1543, 2478, 3686, 5199, 7049, 9268, 11888, 14941, 18459, 22474, 27018, 32123, 37821, 44144, 51124],
   [1, 5, 15, 35, 70, 1502, 2914, 4982, 7865, 11738, 16792, 23234, 31287, 41190, 53198, 67582, 84629, 104642, 127940, 154858],
   [1, 5, 15, 35, 70, 126, 210, 330, 495, 715, 1001, 1365, 1820, 2380, 3060, 3876, 4845, 5985, 7315, 8855],
   [1, 5, 15, 35, 70, 126, 210, 330, 495, 715, 1001, 1365, 1820, 2380, 3060, 3876, 4845, 5985, 7315, 8855],
   [1, 5, 15, 35, 70, 126, 210, 330, 495, 715, 1001, 1365, 1820, 2380, 3060, 3876, 4845, 5985, 7315, 8855],
   [1, 5, 15, 35, 70, 126, 210, 330, 495, 715, 1001, 1365, 1820, 2380, 3060, 3876, 4845, 5985, 7315, 8855],
   [1, 5, 15, 35, 70, 126, 210, 330, 495, 715, 1001, 1365, 1820, 2380, 3060, 3876, 4845, 5985, 7315, 8855],
   [1, 5, 15, 35, 70, 126, 210, 330, 495, 715, 1001, 1365, 1820, 2380, 3060, 3876, 4845, 5985, 7315, 8855],
   [1, 5, 15, 35, 70, 126, 210, 330, 495, 715, 1001, 1365, 1820, 2380, 3060, 3876, 4845, 5985, 7315, 8855]],
  [[1, 6, 21, 56, 126, 252, 462, 792, 1287, 2002, 3003, 4368, 6188, 8568, 11628, 15504, 20349, 26334, 33649, 42504],
   [1, 1, 1, 1, 1, 1, 1, 1, 1, 1, 1, 1, 1, 1, 1, 1, 1, 1, 1, 1],
   [1, 6, 31, 41, 51, 61, 71, 81, 91, 101, 111, 121, 131, 141, 151, 161, 171, 181, 191, 201],
   [1, 6, 21, 336, 545, 794, 1083, 1412, 1781, 2190, 2639, 3128, 3657, 4226, 4835, 5484, 6173, 6902, 7671, 8480],
   [1, 6, 21, 56, 1977, 3643, 5900, 8828, 12507, 17017, 22438, 28850, 36333, 44967, 54832, 66008, 78575, 92613, 108202, 125422],
   [1, 6, 21, 56, 126, 6398, 12766, 22206, 35487, 53458, 77048, 107266, 145201, 192022, 248978, 317398, 398691, 494346, 605932, 735098],
   [1, 6, 21, 56, 126, 252, 9294, 19378, 35273, 58969, 92839, 139671, 202700, 285640, 392716, 528696, 698923, 909347, 1166557, 1477813],
   [1, 6, 21, 56, 126, 252, 462, 792, 1287, 2002, 3003, 4368, 6188, 8568, 11628, 15504, 20349, 26334, 33649, 42504],
   [1, 6, 21, 56, 126, 252, 462, 792, 1287, 2002, 3003, 4368, 6188, 8568, 11628, 15504, 20349, 26334, 33649, 42504],
   [1, 6, 21, 56, 126, 252, 462, 792, 1287, 2002, 3003, 4368, 6188, 8568, 11628, 15504, 20349, 26334, 33649, 42504],
   [1, 6, 21, 56, 126, 252, 462, 792, 1287, 2002, 3003, 4368, 6188, 8568, 11628, 15504, 20349, 26334, 33649, 42504],
   [1, 6, 21, 56, 126, 252, 462, 792, 1287, 2002, 3003, 4368, 6188, 8568, 11628, 15504, 20349, 26334, 33649, 42504],
   [1, 6, 21, 56, 126, 252, 462, 792, 1287, 2002, 3003, 4368, 6188, 8568, 11628, 15504, 20349, 26334, 33649, 42504]],
  [[1, 7, 28, 84, 210, 462, 924, 1716, 3003, 5005, 8008, 12376, 18564, 27132, 38760, 54264, 74613, 100947, 134596, 177100],
   [1, 1, 1, 1, 1, 1, 1, 1, 1, 1, 1, 1, 1, 1, 1, 1, 1, 1, 1, 1],
   [1, 7, 37, 49, 61, 73, 85, 97, 109, 121, 133, 145, 157, 169, 181, 193, 205, 217, 229, 241],
   [1, 7, 28, 494, 805, 1176, 1607, 2098, 2649, 3260, 3931, 4662, 5453, 6304, 7215, 8186, 9217, 10308, 11459, 12670],
   [1, 7, 28, 84, 3795, 7049, 11472, 17224, 24465, 33355, 44054, 56722, 71519, 88605, 108140, 130284, 155197, 183039, 213970, 248150],
   [1, 7, 28, 84, 210, 17806, 35974, 63070, 101365, 153370, 221836, 309754, 420355, 557110, 723730, 924166, 1162609, 1443490, 1771480, 2151490],
   [1, 7, 28, 84, 210, 462, 48042, 102538, 189407, 320019, 507985, 769349, 1122780, 1589764, 2194796, 2965572, 3933181, 5132297, 6601371, 8382823],
   [1, 7, 28, 84, 210, 462, 924, 59060, 130101, 248754, 435433, 716140, 1123360, 1697020, 2485512, 3546780, 4949471, 6774150, 9114579, 12079060],
   [1, 7, 28, 84, 210, 462, 924, 1716, 3003, 5005, 8008, 12376, 18564, 27132, 38760, 54264, 74613, 100947, 134596, 177100],
   [1, 7, 28, 84, 210, 462, 924, 1716, 3003, 5005, 8008, 12376, 18564, 27132, 38760, 54264, 74613, 100947, 134596, 177100],
   [1, 7, 28, 84, 210, 462, 924, 1716, 3003, 5005, 8008, 12376, 18564, 27132, 38760, 54264, 74613, 100947, 134596, 177100],
   [1, 7, 28, 84, 210, 462, 924, 1716, 3003, 5005, 8008, 12376, 18564, 27132, 38760, 54264, 74613, 100947, 134596, 177100],
   [1, 7, 28, 84, 210, 462, 924, 1716, 3003, 5005, 8008, 12376, 18564, 27132, 38760, 54264, 74613, 100947, 134596, 177100]],
  [[1, 8, 36, 120, 330, 792, 1716, 3432, 6435, 11440, 19448, 31824, 50388, 77520, 116280, 170544, 245157, 346104, 480700, 657800],
   [1, 1, 1, 1, 1, 1, 1, 1, 1, 1, 1, 1, 1, 1, 1, 1, 1, 1, 1, 1],
   [1, 8, 43, 57, 71, 85, 99, 113, 127, 141, 155, 169, 183, 197, 211, 225, 239, 253, 267, 281],
   [1, 8, 36, 682, 1115, 1632, 2233, 2918, 3687, 4540, 5477, 6498, 7603, 8792, 10065, 11422, 12863, 14388, 15997, 17690],
   [1, 8, 36, 120, 6465, 12071, 19708, 29656, 42195, 57605, 76166, 98158, 123861, 153555, 187520, 226036, 269383, 317841, 371690, 431210],
   [1, 8, 36, 120, 330, 39734, 80846, 142390, 229615, 348330, 504904, 706266, 959905, 1273870, 1656770, 2117774, 2666611, 3313570, 4069500, 4945810],
   [1, 8, 36, 120, 330, 792, 156262, 336898, 626497, 1063849, 1695487, 2576359, 3770500, 5351704, 7404196, 10023304, 13316131, 17402227, 22414261, 28498693],
   [1, 8, 36, 120, 330, 792, 1716, 361804, 811659, 1570350, 2772999, 4592404, 7245184, 10998372, 16176456, 23168868, 32437921, 44527194, 60070365, 79800492],
   [1, 8, 36, 120, 330, 792, 1716, 3432, 384757, 884267, 1758136, 3194784, 5447692, 8850300, 13832952, 20942016, 30861307, 44435941, 62698748, 86899372],
   [1, 8, 36, 120, 330, 792, 1716, 3432, 6435, 11440, 19448, 31824, 50388, 77520, 116280, 170544, 245157, 346104, 480700, 657800],
   [1, 8, 36, 120, 330, 792, 1716, 3432, 6435, 11440, 19448, 31824, 50388, 77520, 116280, 170544, 245157, 346104, 480700, 657800],
   [1, 8, 36, 120, 330, 792, 1716, 3432, 6435, 11440, 19448, 31824, 50388, 77520, 116280, 170544, 245157, 346104, 480700, 657800],
   [1, 8, 36, 120, 330, 792, 1716, 3432, 6435, 11440, 19448, 31824, 50388, 77520, 116280, 170544, 245157, 346104, 480700, 657800]],
  [[1, 9, 45, 165, 495, 1287, 3003, 6435, 12870, 24310, 43758, 75582, 125970, 203490, 319770, 490314, 735471, 1081575, 1562275, 2220075],
   [1, 1, 1, 1, 1, 1, 1, 1, 1, 1, 1, 1, 1, 1, 1, 1, 1, 1, 1, 1],
   [1, 9, 49, 65, 81, 97, 113, 129, 145, 161, 177, 193, 209, 225, 241, 257, 273, 289, 305, 321],
   [1, 9, 45, 900, 1475, 2162, 2961, 3872, 4895, 6030, 7277, 8636, 10107, 11690, 13385, 15192, 17111, 19142, 21285, 23540],
   [1, 9, 45, 165, 10149, 19019, 31122, 46906, 66819, 91309, 120824, 155812, 196721, 243999, 298094, 359454, 428527, 505761, 591604, 686504],
   [1, 9, 45, 165, 495, 77136, 157664, 278520, 450135, 684060, 992966, 1390644, 1892005, 2513080, 3271020, 4184096, 5271699, 6554340, 8053650, 9792380],
   [1, 9, 45, 165, 495, 1287, 398412, 863828, 1612657, 2746669, 4388115, 6681519, 9795470, 13924414, 19290446, 26145102, 34771151, 45484387, 58635421, 74611473],
   [1, 9, 45, 165, 495, 1287, 3003, 1350698, 3053547, 5939936, 10533559, 17505682, 27699462, 42156058, 62142534, 89181554, 125082869, 171976596, 232348289, 309075802],
   [1, 9, 45, 165, 495, 1287, 3003, 6435, 2737689, 6377899, 12797766, 23419222, 40162498, 65561850, 102897414, 156344214, 231139347, 333768369, 472171906, 655973514],
   [1, 9, 45, 165, 495, 1287, 3003, 6435, 12870, 2562358, 6086638, 12488582, 23402530, 41130262, 68834926, 110773222, 172570449, 261543278, 387075370, 561051214],
   [1, 9, 45, 165, 495, 1287, 3003, 6435, 12870, 24310, 43758, 75582, 125970, 203490, 319770, 490314, 735471, 1081575, 1562275, 2220075],
   [1, 9, 45, 165, 495, 1287, 3003, 6435, 12870, 24310, 43758, 75582, 125970, 203490, 319770, 490314, 735471, 1081575, 1562275, 2220075],
   [1, 9, 45, 165, 495, 1287, 3003, 6435, 12870, 24310, 43758, 75582, 125970, 203490, 319770, 490314, 735471, 1081575, 1562275, 2220075]],
  [[1, 10, 55, 220, 715, 2002, 5005, 11440, 24310, 48620, 92378, 167960, 293930, 497420, 817190, 1307504, 2042975, 3124550, 4686825, 6906900],
   [1, 1, 1, 1, 1, 1, 1, 1, 1, 1, 1, 1, 1, 1, 1, 1, 1, 1, 1, 1],
   [1, 10, 55, 73, 91, 109, 127, 145, 163, 181, 199, 217, 235, 253, 271, 289, 307, 325, 343, 361],
   [1, 10, 55, 1148, 1885, 2766, 3791, 4960, 6273, 7730, 9331, 11076, 12965, 14998, 17175, 19496, 21961, 24570, 27323, 30220],
   [1, 10, 55, 220, 15009, 28203, 46228, 69756, 99459, 136009, 180078, 232338, 293461, 364119, 444984, 536728, 640023, 755541, 883954, 1025934],
   [1, 10, 55, 220, 715, 135912, 278684, 493352, 798605, 1215148, 1765702, 2475004, 3369807, 4478880, 5833008, 7464992, 9409649, 11703812, 14386330, 17498068],
   [1, 10, 55, 220, 715, 2002, 869442, 1891898, 3540997, 6043129, 9670507, 14745199, 21643160, 30798264, 42706336, 57929184, 77098631, 100920547, 130178881, 165739693],
   [1, 10, 55, 220, 715, 2002, 5005, 3879182, 8807345, 17187072, 30556925, 50892086, 80676806, 122982230, 181549598, 260878822, 366322439, 504184940, 681827475, 907777934],
   [1, 10, 55, 220, 715, 2002, 5005, 11440, 11556189, 27076271, 54563256, 100196076, 172338276, 282049744, 443670376, 675480284, 1000441155, 1447023369, 2050123484, 2852076696],
   [1, 10, 55, 220, 715, 2002, 5005, 11440, 24310, 20816414, 49936226, 103176614, 194415558, 343266990, 576766482, 931393206, 1455469127, 2211978694, 3281854598, 4767777470],
   [1, 10, 55, 220, 715, 2002, 5005, 11440, 24310, 48620, 17390370, 42399358, 89254806, 171592850, 309378982, 531095970, 876482025, 1399914685, 2174546125, 3297306353],
   [1, 10, 55, 220, 715, 2002, 5005, 11440, 24310, 48620, 92378, 167960, 293930, 497420, 817190, 1307504, 2042975, 3124550, 4686825, 6906900],
   [1, 10, 55, 220, 715, 2002, 5005, 11440, 24310, 48620, 92378, 167960, 293930, 497420, 817190, 1307504, 2042975, 3124550, 4686825, 6906900]],
  [[1, 11, 66, 286, 1001, 3003, 8008, 19448, 43758, 92378, 184756, 352716, 646646, 1144066, 1961256, 3268760, 5311735, 8436285, 13123110, 20030010],
   [1, 1, 1, 1, 1, 1, 1, 1, 1, 1, 1, 1, 1, 1, 1, 1, 1, 1, 1, 1],
   [1, 11, 61, 81, 101, 121, 141, 161, 181, 201, 221, 241, 261, 281, 301, 321, 341, 361, 381, 401],
   [1, 11, 66, 1426, 2345, 3444, 4723, 6182, 7821, 9640, 11639, 13818, 16177, 18716, 21435, 24334, 27413, 30672, 34111, 37730],
   [1, 11, 66, 286, 21207, 39933, 65540, 98988, 141237, 193247, 255978, 330390, 417443, 518097, 633312, 764048, 911265, 1075923, 1258982, 1461402],
   [1, 11, 66, 286, 1001, 222908, 458136, 812316, 1316487, 2005048, 2915758, 4089736, 5571461, 7408772, 9652868, 12358308, 15583011, 19388256, 23838682, 29002288],
   [1, 11, 66, 286, 1001, 3003, 1700636, 3709796, 6956105, 11888533, 19047315, 29072015, 42709590, 60822454, 84396542, 114549374, 152538119, 199767659, 257798653, 328355601],
   [1, 11, 66, 286, 1001, 3003, 8008, 9407868, 21418025, 41884010, 74594877, 124420436, 197491476, 301393428, 445373468, 640561060, 900201939, 1239905534, 1677905831, 2235335676],
   [1, 11, 66, 286, 1001, 3003, 8008, 19448, 36945259, 86839485, 175440320, 322857312, 556353124, 912029052, 1436748880, 2190316432, 3247922181, 4702874275, 6669629340, 9287138420],
   [1, 11, 66, 286, 1001, 3003, 8008, 19448, 43758, 98120230, 236366554, 489999094, 925914590, 1638865510, 2759705754, 4465293046, 6990251277, 10640807582, 15810930454, 23001006718],
   [1, 11, 66, 286, 1001, 3003, 8008, 19448, 43758, 92378, 158983166, 390345382, 826031946, 1594903970, 2886223066, 4970726466, 8227050775, 13174440823, 20512781459, 31171096627],
   [1, 11, 66, 286, 1001, 3003, 8008, 19448, 43758, 92378, 184756, 119932172, 298567754, 641956944, 1261034678, 2323716932, 4077416453, 6878327398, 11228981923, 17825814704],
   [1, 11, 66, 286, 1001, 3003, 8008, 19448, 43758, 92378, 184756, 352716, 646646, 1144066, 1961256, 3268760, 5311735, 8436285, 13123110, 20030010]],
  [[1, 12, 78, 364, 1365, 4368, 12376, 31824, 75582, 167960, 352716, 705432, 1352078, 2496144, 4457400, 7726160, 13037895, 21474180, 34597290, 54627300],
   [1, 1, 1, 1, 1, 1, 1, 1, 1, 1, 1, 1, 1, 1, 1, 1, 1, 1, 1, 1],
   [1, 12, 67, 89, 111, 133, 155, 177, 199, 221, 243, 265, 287, 309, 331, 353, 375, 397, 419, 441],
   [1, 12, 78, 1734, 2855, 4196, 5757, 7538, 9539, 11760, 14201, 16862, 19743, 22844, 26165, 29706, 33467, 37448, 41649, 46070],
   [1, 12, 78, 364, 28905, 54519, 89572, 135384, 193275, 264565, 350574, 452622, 572029, 710115, 868200, 1047604, 1249647, 1475649, 1726930, 2004810],
   [1, 12, 78, 364, 1365, 345916, 712224, 1264380, 2051025, 3126080, 4548746, 6383504, 8700115, 11573620, 15084340, 19317876, 24365109, 30322200, 37290590, 45377000],
   [1, 12, 78, 364, 1365, 4368, 3065454, 6699246, 12578529, 21521053, 34511351, 52715523, 77496020, 110426428, 153306252, 208175700, 277330467, 363336519, 469044877, 597606401],
   [1, 12, 78, 364, 1365, 4368, 12376, 20237468, 46159835, 90402886, 161208383, 269177972, 427668192, 653215052, 965988176, 1390274516, 1954991633, 2694230546, 3647828149, 4861969196],
   [1, 12, 78, 364, 1365, 4368, 12376, 31824, 98621797, 232284043, 470074632, 866332496, 1494811260, 2453274044, 3868740808, 5903430480, 8761440107, 12696203269, 18018769996, 25106950428],
   [1, 12, 78, 364, 1365, 4368, 12376, 31824, 75582, 345753366, 834880330, 1734227494, 3282849238, 5819858262, 9814196266, 15900416422, 24921219015, 37977523870, 56486905422, 82251258526],
   [1, 12, 78, 364, 1365, 4368, 12376, 31824, 75582, 167960, 828107898, 2039468302, 4326984046, 8373587090, 15184317694, 26199407186, 43436234049, 69665239261, 108625440805, 165285769409],
   [1, 12, 78, 364, 1365, 4368, 12376, 31824, 75582, 167960, 352716, 1218925188, 3049624662, 6582821792, 12974345658, 23978480844, 42186281915, 71336074506, 116712291949, 185651317984],
   [1, 12, 78, 364, 1365, 4368, 12376, 31824, 75582, 167960, 352716, 705432, 838351930, 2122763238, 4645649784, 9294391152, 17451267033, 31211046379, 53673697050, 89332233358]]]
def tt (h k e : Nat) : Nat := ((TT.getD h []).getD k []).getD e 0
def dd (h k e : Nat) : Nat := if h = 0 then 1 else ((List.range (e + 1)).map (tt h k)).sum
def step (h k e : Nat) : Nat :=
  if k = 0 ∨ e < k ∨ h + 1 < k then dd h 0 e else if k = 1 then tt h 1 e else 2 * dd h (k - 1) e + tt h k e
def allN (n : Nat) (p : Nat → Bool) : Bool := (List.range n).all p
theorem allN_of {n : Nat} {p : Nat → Bool} (h : allN n p = true) {i : Nat} (hi : i < n) : p i = true :=
  List.all_eq_true.mp h i (List.mem_range.mpr hi)
def bk : Nat → Option Nat
  | 0 => none
  | b + 1 => some (b + 1)
theorem bk_ix {k : Option Nat} (h : ∀ b, k = some b → 1 ≤ b) : bk (ix k) = k := by
  cases k with
  | none => rfl
  | some b =>
    obtain ⟨c, rfl⟩ : ∃ c, b = c + 1 := ⟨b - 1, by have := h b rfl; omega⟩
    rfl
set_option maxHeartbeats 4000000 in
theorem tab_step : (allN 12 fun h => allN 13 fun k => allN 20 fun e => decide (step h k e ≤ tt (h + 1) k e)) = true := by decide +kernel
set_option maxHeartbeats 4000000 in
theorem tab_bound : (allN 12 fun h => allN 13 fun k => allN 20 fun e => decide (tt (h + 1) k e ≤ bco (h + 1) (bk k) e)) = true := by decide +kernel
theorem tab_zero : (allN 13 fun k => allN 20 fun e => decide (1 ≤ tt 0 k e)) = true := by decide +kernel
theorem tt_step {h k e : Nat} (h1 : h < 12) (h2 : k < 13) (h3 : e < 20) : step h k e ≤ tt (h + 1) k e :=
  of_decide_eq_true (allN_of (allN_of (allN_of tab_step h1) h2) h3)
theorem tt_bound {h k e : Nat} (h1 : h < 12) (h2 : k < 13) (h3 : e < 20) : tt (h + 1) k e ≤ bco (h + 1) (bk k) e :=
  of_decide_eq_true (allN_of (allN_of (allN_of tab_bound h1) h2) h3)
theorem tt_zero {k e : Nat} (h2 : k < 13) (h3 : e < 20) : 1 ≤ tt 0 k e :=
  of_decide_eq_true (allN_of (allN_of tab_zero h2) h3)

theorem log2_le_of {a b : Nat} (h : a ≤ b) (ha : a ≠ 0) : Nat.log2 a ≤ Nat.log2 b := by
  have hb : b ≠ 0 := by omega
  have h1 : b < 2 ^ (Nat.log2 b + 1) := (Nat.log2_lt hb).mp (Nat.lt_succ_self _)
  have h2 : a < 2 ^ (Nat.log2 b + 1) := Nat.lt_of_le_of_lt h h1
  exact Nat.le_of_lt_succ ((Nat.log2_lt ha).mpr h2)
theorem log2_half {m : Nat} (h : 2 ≤ m) : Nat.log2 m = Nat.log2 (m / 2) + 1 := by
  rw [Nat.log2_def, if_pos h]
theorem lt_pow_log {n b : Nat} (h : n ≠ 0) : n < 2 ^ b ↔ Nat.log2 n < b := (Nat.log2_lt h).symm
def psum (c : Nat → Nat) (e : Nat) : Nat := ((List.range (e + 1)).map c).sum
theorem psum_succ (c : Nat → Nat) (e : Nat) : psum c (e + 1) = psum c e + c (e + 1) := by
  unfold psum
  rw [List.range_succ, List.map_append, List.sum_append]
  simp
theorem psum_mono (c : Nat → Nat) : ∀ {d e : Nat}, d ≤ e → psum c d ≤ psum c e := by
  intro d e h
  induction e with
  | zero => have : d = 0 := by omega
            subst this; exact Nat.le_refl _
  | succ e ih =>
    by_cases q : d = e + 1
    · subst q; exact Nat.le_refl _
    · rw [psum_succ]; exact Nat.le_trans (ih (by omega)) (Nat.le_add_right _ _)
theorem row_le (f c : Nat → Nat) (N : Nat) (hf : ∀ m, 1 ≤ m → m < N → f m ≤ m * c (Nat.log2 m)) :
    ∀ m, m < N → rowSum f m ≤ m * psum c (Nat.log2 m) := by
  intro m
  induction m using Nat.strongRecOn with
  | _ m ih =>
    intro hN
    by_cases h0 : m = 0
    · subst h0; rw [rowSum_zero]; exact Nat.zero_le _
    rw [rowSum_pos f h0]
    have hm := hf m (by omega) hN
    by_cases h1 : m = 1
    · subst h1
      have e1 : (1 : Nat) / 2 = 0 := rfl
      have e2 : ((1 + 1) / 2 - 1 : Nat) = 0 := rfl
      rw [e1, e2, rowSum_zero]
      have e3 : Nat.log2 1 = 0 := by decide
      rw [e3] at hm ⊢
      have e4 : psum c 0 = c 0 := by simp [psum]
      rw [e4]; omega
    · have hl := log2_half (m := m) (by omega)
      have a1 := ih (m / 2) (by omega) (by omega)
      have a2 := ih ((m + 1) / 2 - 1) (by omega) (by omega)
      have a3 : rowSum f ((m + 1) / 2 - 1) ≤ ((m + 1) / 2 - 1) * psum c (Nat.log2 (m / 2)) := by
        by_cases z : (m + 1) / 2 - 1 = 0
        · rw [z, rowSum_zero]; exact Nat.zero_le _
        · exact Nat.le_trans a2 (Nat.mul_le_mul_left _ (psum_mono c (log2_le_of (by omega) z)))
      rw [hl, psum_succ, ← hl, Nat.mul_add]
      have b1 : (m / 2 + ((m + 1) / 2 - 1)) * psum c (Nat.log2 (m / 2)) ≤ m * psum c (Nat.log2 (m / 2)) := Nat.mul_le_mul_right _ (by omega)
      rw [Nat.add_mul] at b1
      omega
theorem row_const (f : Nat → Nat) (hf : ∀ m, f m = 1) : ∀ m, rowSum f m = m := by
  intro m
  induction m using Nat.strongRecOn with
  | _ m ih =>
    by_cases h0 : m = 0
    · subst h0; exact rowSum_zero f
    · rw [rowSum_pos f h0, hf, ih (m / 2) (by omega), ih ((m + 1) / 2 - 1) (by omega)]; omega
def kOk (k : Option Nat) : Prop := ∀ b, k = some b → 1 ≤ b ∧ b ≤ 12
theorem ix_lt {k : Option Nat} (hk : kOk k) : ix k < 13 := by
  cases k with
  | none => decide
  | some b => have := (hk b rfl).2; show b < 13; omega
theorem log_lt {n : Nat} (h : n < 2 ^ 20) (h0 : n ≠ 0) : Nat.log2 n < 20 := (Nat.log2_lt h0).mpr h
theorem usz_le : ∀ (h : Nat) (k : Option Nat) (n : Nat), h ≤ 12 → kOk k → 1 ≤ n → n < 2 ^ 20 → usz h k n ≤ n * tt h (ix k) (Nat.log2 n) := by
  intro h
  induction h with
  | zero =>
    intro k n _ hk h1 h2
    rw [usz_zero]
    exact Nat.le_trans h1 (Nat.le_mul_of_pos_right n (tt_zero (ix_lt hk) (log_lt h2 (by omega))))
  | succ h ih =>
    intro k n hh hk h1 h2
    have rows : ∀ (k : Option Nat), kOk k → ∀ m, m < 2 ^ 20 → rowSum (usz h k) m ≤ m * dd h (ix k) (Nat.log2 m) := by
      intro k hk m hm
      unfold dd
      by_cases h0 : h = 0
      · rw [if_pos h0, row_const _ (fun m => by rw [h0]; exact usz_zero k m)]; omega
      · rw [if_neg h0]
        exact row_le (usz h k) (tt h (ix k)) (2 ^ 20) (fun m a b => ih k m (by omega) hk a b) m hm
    have hl := log_lt h2 (by omega)
    have st := tt_step (h := h) (k := ix k) (e := Nat.log2 n) (by omega) (ix_lt hk) hl
    refine Nat.le_trans ?_ (Nat.mul_le_mul_left n st)
    cases hf : free n (h + 1) k with
    | true =>
      rw [usz_free hf]
      unfold step
      rw [if_pos]
      · exact rows none (fun b e => nomatch e) n h2
      · cases k with
        | none => exact .inl rfl
        | some b =>
          rcases (Bool.or_eq_true _ _).mp hf with q | q
          · exact .inr (.inl ((lt_pow_log (by omega)).mp (of_decide_eq_true q)))
          · exact .inr (.inr (of_decide_eq_true q))
    | false =>
      cases k with
      | none => exact absurd hf (fun z => nomatch z)
      | some b =>
        have hb := hk b rfl
        have q := (Bool.or_eq_false_iff.mp hf)
        have q1 : ¬ Nat.log2 n < b := fun z => of_decide_eq_false q.1 ((lt_pow_log (by omega)).mpr z)
        have q2 := of_decide_eq_false q.2
        unfold step
        rw [if_neg (by show ¬ (b = 0 ∨ _ < b ∨ _ < b); omega)]
        by_cases b1 : b = 1
        · subst b1
          rw [usz_one hf, if_pos (show ix (some 1) = 1 from rfl)]
          exact ih (some 1) n (by omega) hk h1 h2
        · rw [usz_heavy hf b1, if_neg (by show ¬ b = 1; exact b1), Nat.mul_add]
          have a1 := ih (some b) n (by omega) hk h1 h2
          have hk' : kOk (some (b - 1)) := fun c e => by cases e; omega
          have a2 := rows (some (b - 1)) hk' (n - 1) (by omega)
          have a3 : rowSum (usz h (some (b - 1))) (n - 1) ≤ n * dd h (b - 1) (Nat.log2 n) := by
            by_cases z : n - 1 = 0
            · rw [z, rowSum_zero]; exact Nat.zero_le _
            refine Nat.le_trans a2 (Nat.mul_le_mul (by omega) ?_)
            unfold dd
            by_cases h0 : h = 0
            · rw [if_pos h0, if_pos h0]; exact Nat.le_refl _
            · rw [if_neg h0, if_neg h0]
              exact psum_mono (tt h (b - 1)) (log2_le_of (by omega) z)
          have e1 : n * (2 * dd h (b - 1) (Nat.log2 n)) = 2 * (n * dd h (b - 1) (Nat.log2 n)) := by
            rw [Nat.mul_left_comm]
          show _ ≤ n * (2 * dd h (b - 1) (Nat.log2 n)) + n * tt h b (Nat.log2 n)
          rw [e1]
          have a1' : usz h (some b) n ≤ n * tt h b (Nat.log2 n) := a1
          omega
theorem usz_bound (h : Nat) (k : Option Nat) (n : Nat) (hh : h ≤ 12) (hk : kOk k) (h1 : 1 ≤ n) (h2 : n < 2 ^ 20) : usz h k n ≤ bnd n h k := by
  unfold bnd
  cases h with
  | zero => rw [if_pos rfl, usz_zero]; exact Nat.le_refl _
  | succ h =>
    rw [if_neg (Nat.succ_ne_zero h)]
    refine Nat.le_trans (usz_le (h + 1) k n hh hk h1 h2) (Nat.mul_le_mul_left n ?_)
    have t := tt_bound (h := h) (k := ix k) (e := Nat.log2 n) (by omega) (ix_lt hk) (log_lt h2 (by omega))
    rw [bk_ix (fun b e => (hk b e).1)] at t
    exact t
end K11
set_option Elab.async false
set_option linter.all false
set_option maxRecDepth 100000
set_option maxHeartbeats 4000000
namespace K11
open PySem PySem.Spec PyProof.Rows L2
/-! ### which numbers are reached from n0 by halving and taking one away -/
def Rch (n0 D m : Nat) : Prop := ∃ j d, d ≤ D ∧ m = n0 / 2 ^ j - d
theorem Rch.root (n0 D : Nat) : Rch n0 D n0 := ⟨0, 0, Nat.zero_le _, by simp⟩
theorem Rch.mono {n0 D D' m : Nat} (h : Rch n0 D m) (l : D ≤ D') : Rch n0 D' m := by
  obtain ⟨j, d, a, b⟩ := h
  exact ⟨j, d, by omega, b⟩
theorem Rch.half {n0 D m : Nat} (h : Rch n0 D m) (l : 2 ≤ D) : Rch n0 D (m / 2) := by
  obtain ⟨j, d, a, rfl⟩ := h
  refine ⟨j + 1, n0 / 2 ^ (j + 1) - (n0 / 2 ^ j - d) / 2, ?_, ?_⟩
  all_goals rw [Nat.pow_succ, ← Nat.div_div_eq_div_mul]
  all_goals generalize n0 / 2 ^ j = q
  all_goals omega
theorem Rch.half' {n0 D m : Nat} (h : Rch n0 D m) (l : 2 ≤ D) : Rch n0 D ((m + 1) / 2 - 1) := by
  obtain ⟨j, d, a, rfl⟩ := h
  refine ⟨j + 1, n0 / 2 ^ (j + 1) - ((n0 / 2 ^ j - d + 1) / 2 - 1), ?_, ?_⟩
  all_goals rw [Nat.pow_succ, ← Nat.div_div_eq_div_mul]
  all_goals generalize n0 / 2 ^ j = q
  all_goals omega
theorem Rch.less {n0 D m : Nat} (h : Rch n0 D m) : Rch n0 (D + 1) (m - 1) := by
  obtain ⟨j, d, a, rfl⟩ := h
  exact ⟨j, d + 1, by omega, by omega⟩
def dk : Option Nat → Nat
  | none => 13
  | some b => 14 - b
theorem dk_two {k : Option Nat} (h : kOk k) : 2 ≤ dk k := by
  cases k with
  | none => decide
  | some b => have := h b rfl; show 2 ≤ 14 - b; omega
theorem dk_le {k : Option Nat} (h : kOk k) : dk k ≤ 13 := by
  cases k with
  | none => decide
  | some b => have := h b rfl; show 14 - b ≤ 13; omega
/-! ### bit lengths -/
def bl (m : Nat) : Nat := if m = 0 then 0 else Nat.log2 m + 1
theorem bl_half {m : Nat} (h : m ≠ 0) : bl (m / 2) + 1 ≤ bl m := by
  unfold bl
  rw [if_neg h]
  by_cases h1 : m / 2 = 0
  · rw [if_pos h1]; omega
  · rw [if_neg h1, log2_half (m := m) (by omega)]; omega
theorem bl_mono {a b : Nat} (h : a ≤ b) : bl a ≤ bl b := by
  unfold bl
  by_cases ha : a = 0
  · rw [if_pos ha]; omega
  · rw [if_neg ha, if_neg (show b ≠ 0 by omega)]
    exact Nat.succ_le_succ (log2_le_of h ha)
theorem bl_half' {m : Nat} (h : m ≠ 0) : bl ((m + 1) / 2 - 1) + 1 ≤ bl m :=
  Nat.le_trans (Nat.succ_le_succ (bl_mono (by omega))) (bl_half h)
theorem bl_le {m : Nat} (h : m < 2 ^ 20) : bl m ≤ 20 := by
  unfold bl
  by_cases ha : m = 0
  · rw [if_pos ha]; omega
  · rw [if_neg ha]; exact log_lt h ha
/-! ### all keys that may stand in a table -/
def kl : Option Nat → Leaf
  | none => .none
  | some b => .num (b : Int)
def key3 (m h : Nat) (k : Option Nat) : List Leaf := [.num (m : Int), .num (h : Int), kl k]
theorem kl_inj {a b : Option Nat} (h : kl a = kl b) : a = b := by
  cases a with
  | none => cases b with
    | none => rfl
    | some y => exact nomatch (show Leaf.none = Leaf.num _ from h)
  | some x => cases b with
    | none => exact nomatch (show Leaf.num _ = Leaf.none from h)
    | some y =>
      have e : (x : Int) = (y : Int) := Leaf.num.inj h
      have : x = y := by omega
      rw [this]
theorem key3_inj {m h m' h' : Nat} {k k' : Option Nat} (e : key3 m h k = key3 m' h' k') : m = m' ∧ h = h' ∧ k = k' := by
  unfold key3 at e
  injection e with e1 e
  injection e with e2 e
  injection e with e3 e
  have a1 : (m : Int) = (m' : Int) := Leaf.num.inj e1
  have a2 : (h : Int) = (h' : Int) := Leaf.num.inj e2
  exact ⟨by omega, by omega, kl_inj e3⟩
def AL (n0 : Nat) : List (List Leaf) :=
  (List.range 20).flatMap fun j => (List.range 14).flatMap fun d => (List.range 13).flatMap fun h => (List.range 13).map fun k => key3 (n0 / 2 ^ j - d) h (bk k)
theorem flat_len {α β : Type} (f : α → List β) (c : Nat) : ∀ l : List α, (∀ a ∈ l, (f a).length = c) → (l.flatMap f).length = l.length * c
  | [], _ => by simp
  | a :: l, h => by
    rw [List.flatMap_cons, List.length_append, h a (List.mem_cons_self ..), flat_len f c l fun b hb => h b (List.mem_cons_of_mem _ hb), List.length_cons, Nat.add_mul, Nat.one_mul]
    omega
theorem AL_len (n0 : Nat) : (AL n0).length = 47320 := by
  unfold AL
  rw [flat_len _ 2366, List.length_range]
  intro j _
  rw [flat_len _ 169, List.length_range]
  intro d _
  rw [flat_len _ 13, List.length_range]
  intro h _
  rw [List.length_map, List.length_range]
theorem AL_mem {n0 m h : Nat} {k : Option Nat} (hn : n0 < 2 ^ 20) (hm : m ≠ 0) (hh : h ≤ 12) (hk : kOk k) (r : Rch n0 (dk k) m) : key3 m h k ∈ AL n0 := by
  obtain ⟨j, d, hd, rfl⟩ := r
  have hj : j < 20 := by
    by_cases q : j < 20
    · exact q
    · exfalso
      have z : n0 / 2 ^ j = 0 := Nat.div_eq_of_lt (Nat.lt_of_lt_of_le hn (Nat.pow_le_pow_right (by decide) (by omega)))
      rw [z] at hm
      omega
  unfold AL
  refine List.mem_flatMap.mpr ⟨j, List.mem_range.mpr hj, ?_⟩
  refine List.mem_flatMap.mpr ⟨d, List.mem_range.mpr (by have := dk_le hk; omega), ?_⟩
  refine List.mem_flatMap.mpr ⟨h, List.mem_range.mpr (by omega), ?_⟩
  exact List.mem_map.mpr ⟨ix k, List.mem_range.mpr (ix_lt hk), by rw [bk_ix (fun b e => (hk b e).1)]⟩
theorem nodup_len {α : Type} [DecidableEq α] : ∀ {l m : List α}, l.Nodup → (∀ a ∈ l, a ∈ m) → l.length ≤ m.length
  | [], _, _, _ => Nat.zero_le _
  | a :: l, m, hn, hs => by
    obtain ⟨n1, n2⟩ := List.nodup_cons.mp hn
    have ha := hs a (List.mem_cons_self ..)
    have q := nodup_len (l := l) (m := m.erase a) n2 (fun b hb => by
      have hne : b ≠ a := fun z => n1 (by rw [← z]; exact hb)
      exact (List.mem_erase_of_ne hne).mpr (hs b (List.mem_cons_of_mem _ hb)))
    rw [List.length_erase_of_mem ha] at q
    have hp : 0 < m.length := List.length_pos_of_mem ha
    rw [List.length_cons]
    omega
/-- the program's own table: the sizes of rows -/
def SP (n0 : Nat) (key : List Leaf) (v : V) : Prop :=
  ∃ m h k, key = key3 m h k ∧ m ≠ 0 ∧ h ≤ 12 ∧ kOk k ∧ Rch n0 (dk k) m ∧ v = .int (rowSum (usz h k) m : Nat)
theorem SP_val {n0 m h : Nat} {k : Option Nat} {v : V} (s : SP n0 (key3 m h k) v) : v = .int (rowSum (usz h k) m : Nat) := by
  obtain ⟨m', h', k', e, _, _, _, _, rfl⟩ := s
  obtain ⟨rfl, rfl, rfl⟩ := key3_inj e
  rfl
theorem SP_len {P : Program} {w : World} {n0 : Nat} {H : Hp} {a : Addr} {ks : List (List Leaf)} (hn : n0 < 2 ^ 20) (T : Tab P w (SP n0) H a ks) : ks.length < sizeLine := by
  have q := nodup_len (m := AL n0) T.nodup (fun k hk => by
    obtain ⟨v, m, h, k', rfl, a1, a2, a3, a4, _⟩ := T.all k hk
    exact AL_mem hn a1 a2 a3 a4)
  rw [AL_len] at q
  rw [sizeLine_eq]
  omega
/-- the law's table: rows and trees -/
def tRow : Str := "row"
def tTree : Str := "tree"
theorem tags_ne : tRow ≠ tTree := by decide +kernel
def SL (rs : List Nat) (key : List Leaf) (v : V) : Prop :=
  ∃ (t : Str) (m h : Nat) (k : Option Nat), key = .text t :: key3 m h k ∧ m ≠ 0 ∧ h ≤ 12 ∧ kOk k ∧ (∃ n0 ∈ rs, Rch n0 (dk k) m) ∧
    ((t = tRow ∧ v = .int (rowSum (usz h k) m : Nat)) ∨ (t = tTree ∧ v = .int (usz h k m : Nat)))
theorem SL_row {rs : List Nat} {m h : Nat} {k : Option Nat} {v : V} (s : SL rs (.text tRow :: key3 m h k) v) : v = .int (rowSum (usz h k) m : Nat) := by
  obtain ⟨t, m', h', k', e, _, _, _, _, c⟩ := s
  injection e with e1 e2
  injection e1 with e1
  obtain ⟨rfl, rfl, rfl⟩ := key3_inj e2
  rcases c with ⟨_, q⟩ | ⟨z, _⟩
  · exact q
  · exact absurd (e1.trans z) tags_ne
theorem SL_tree {rs : List Nat} {m h : Nat} {k : Option Nat} {v : V} (s : SL rs (.text tTree :: key3 m h k) v) : v = .int (usz h k m : Nat) := by
  obtain ⟨t, m', h', k', e, _, _, _, _, c⟩ := s
  injection e with e1 e2
  injection e1 with e1
  obtain ⟨rfl, rfl, rfl⟩ := key3_inj e2
  rcases c with ⟨z, _⟩ | ⟨_, q⟩
  · exact absurd (e1.trans z).symm tags_ne
  · exact q
def ALL (rs : List Nat) : List (List Leaf) := rs.flatMap fun n => (AL n).map (fun x => .text tRow :: x) ++ (AL n).map (fun x => .text tTree :: x)
theorem SL_len {P : Program} {w : World} {rs : List Nat} {H : Hp} {a : Addr} {ks : List (List Leaf)} (hr : ∀ n ∈ rs, n < 2 ^ 20) (h3 : rs.length ≤ 3) (T : Tab P w (SL rs) H a ks) : ks.length < sizeLine := by
  have q := nodup_len (m := ALL rs) T.nodup (fun k hk => by
    obtain ⟨v, t, m, h, k', rfl, a1, a2, a3, ⟨n0, hn, a4⟩, c⟩ := T.all k hk
    have z := AL_mem (hr n0 hn) a1 a2 a3 a4
    unfold ALL
    refine List.mem_flatMap.mpr ⟨n0, hn, List.mem_append.mpr ?_⟩
    rcases c with ⟨rfl, _⟩ | ⟨rfl, _⟩
    · exact .inl (List.mem_map.mpr ⟨_, z, rfl⟩)
    · exact .inr (List.mem_map.mpr ⟨_, z, rfl⟩))
  have l : (ALL rs).length = rs.length * 94640 := flat_len _ _ _ fun n _ => by
    rw [List.length_append, List.length_map, List.length_map, AL_len]
  rw [l] at q
  rw [sizeLine_eq]
  omega
theorem Tab.imp {P : Program} {w : World} {S S' : List Leaf → V → Prop} {H : Hp} {a : Addr} {ks : List (List Leaf)} (T : Tab P w S H a ks) (h : ∀ k v, S k v → S' k v) : Tab P w S' H a ks := by
  obtain ⟨xs, e1, e2, e3, e4⟩ := T
  exact ⟨xs, e1, e2, fun x hx => ⟨(e3 x hx).1, let ⟨v, rv, s⟩ := (e3 x hx).2; ⟨v, rv, h _ _ s⟩⟩, e4⟩
end K11
set_option Elab.async false
set_option linter.all false
set_option maxRecDepth 100000
set_option maxHeartbeats 4000000
namespace K11
open PySem PySem.Spec PyProof.Rows L2
/-! ### the text by places -/
def topS (i : Nat) : Stmt := PySem.Challenge.pw_holdsalltrees_k11_sizes_and_bounds.main.body.getD i (.Pass ⟨0, 0, 0, 0⟩)
abbrev sPlain : Stmt := topS 2
abbrev sRowParts : Stmt := topS 3
abbrev sNodeParts : Stmt := topS 4
abbrev sLog : Stmt := topS 6
abbrev sUsize : Stmt := topS 8
abbrev sNode : Stmt := topS 9
abbrev sParts : Stmt := topS 10
abbrev sRow : Stmt := topS 11
abbrev sBound : Stmt := topS 12
abbrev sWhole : Stmt := topS 14
abbrev sCell : Stmt := topS 15
abbrev sDigits : Stmt := topS 16
abbrev sFree : Stmt := topS 17
abbrev sLRow : Stmt := topS 18
abbrev sLSize : Stmt := topS 19
abbrev sParams : Stmt := topS 20
abbrev sUtmost : Stmt := topS 21
abbrev sBinom : Stmt := topS 22
abbrev sLBound : Stmt := topS 23
abbrev sRight : Stmt := topS 24
abbrev sLaw : Stmt := topS 25
/-! ### the parameters as values -/
def kv : Option Nat → V
  | none => .non
  | some b => .int (b : Int)
theorem lV_kl (k : Option Nat) : lV (kl k) = kv k := by cases k <;> rfl
def nums (m h : Nat) (k : Option Nat) : List V := [.int (m : Int), .int (h : Int), kv k]
theorem same_new {H : Hp} {p : Addr} (h : H p = none) (o : HO) : Same H (upd H p o) := fun b u q => by rw [upd_ne (ne_of_none q h)]; exact q
theorem three_le_and {A : Prop} (h : A) : 3 ≤ sizeLine ∧ A := ⟨by rw [sizeLine_eq]; decide, h⟩
theorem three_le : 3 ≤ sizeLine := by rw [sizeLine_eq]; decide
section
variable {P : Program} {w : World} {K : PySem.W.Frag} {mg : Str → Option Value} {base : Heap}
/-! ### plain_node -/
theorem scPlain : FnScope ["leaves", "height", "branching"] ["leaves", "height", "branching"] (defScope sPlain) := ⟨rfl, rfl, rfl, by decide +kernel, rfl, by decide +kernel, by decide +kernel⟩
def spPlain : Sp := fun vs H Q _ => ∃ (n h : Nat) (k : Option Nat), vs = nums n h k ∧ (∀ b, k = some b → b ≤ 12) ∧
  ∀ p H', Same H H' → H' p = some (.tup (nums n h (plain n h k))) → Q (.ref p) H'
theorem shl_nat (b : Nat) : (1 : Int) * 2 ^ ((b : Int).toNat) = ((2 ^ b : Nat) : Int) := by
  rw [Int.toNat_natCast, Int.one_mul]
  exact (Int.natCast_pow 2 b).symm
theorem ok_plain {f : Addr} {fd : FuncData} (F : Fun K "plain_node" "plain_node" sPlain f fd) : FnOk P w K mg base CX0 1 f fd ["leaves", "height", "branching"] spPlain := by
  refine F.ok scPlain (fun vs H Q E h => ?_) (fun cdv A outer s H vs Q E hr h => ?_)
  · obtain ⟨n, h, k, rfl, _⟩ := h
    rfl
  obtain ⟨n, h, k, rfl, hk, q⟩ := h
  refine ⟨_, pss_cons (ps_if (PW.pt (pw_and (pt_cmp (pc_notN (pv 2))) (pw_and1 (PW.pt (pw_or (pt_cmpR op_lt (pv 0) (pe_op op_shl pe_int (pv 2)) (nomark _)) (pw_or1 (pt_cmpR op_lt (pv 1) (pv 2) (nomark _))))))))
      (pss_one (ps_ret (pe_tup (pa_cons (pv 0) (pa_cons (pv 1) (pa_cons pe_non pa_nil)))))) pss_nil)
    (pss_one (ps_ret (pe_tup (pa_cons (pv 0) (pa_cons (pv 1) (pa_cons (pv 2) pa_nil)))))), ?_⟩
  have fin : ∀ k', plain n h k = k' → ∀ p, H p = none → Q (.ref p) (upd H p (.tup (nums n h k'))) := fun k' e p hp => by
    subst e
    exact q p _ (same_new hp _) upd_same
  cases k with
  | none =>
    refine ⟨.non, rfl, false, rfl, iteF ?_⟩
    exact iteF ⟨_, rfl, _, rfl, _, rfl, three_le, fun p hp => fin none rfl p hp⟩
  | some b =>
    have hb := hk b rfl
    refine ⟨_, rfl, true, rfl, iteT ?_⟩
    refine ⟨_, rfl, _, rfl, 1, (b : Int), rfl, rfl, ⟨by omega, by omega, by decide⟩, _, _, rfl, rfl, _, rfl, ?_⟩
    rw [shl_nat]
    by_cases c : n < 2 ^ b
    · rw [decide_eq_true (Int.ofNat_lt.mpr c)]
      refine iteT (iteT ⟨_, rfl, _, rfl, three_le, fun p hp => fin none ?_ p hp⟩)
      unfold plain
      rw [if_pos (by simp [free, c])]
    · rw [decide_eq_false (fun z => c (Int.ofNat_lt.mp z))]
      refine iteF ⟨_, rfl, _, rfl, _, _, rfl, rfl, _, rfl, ?_⟩
      by_cases d : h < b
      · rw [decide_eq_true (Int.ofNat_lt.mpr d)]
        refine iteT ⟨_, rfl, _, rfl, three_le, fun p hp => fin none ?_ p hp⟩
        unfold plain
        rw [if_pos (by simp [free, d])]
      · rw [decide_eq_false (fun z => d (Int.ofNat_lt.mp z))]
        refine iteF ⟨_, rfl, _, rfl, _, rfl, three_le, fun p hp => fin (some b) ?_ p hp⟩
        unfold plain
        rw [if_neg (by simp [free, c, d])]
/-! ### parts_of_row -/
theorem scRowParts : FnScope ["row", "many", "height", "branching", "before", "after"] ["row"] (defScope sRowParts) := ⟨rfl, rfl, rfl, by decide +kernel, rfl, by decide +kernel, by decide +kernel⟩
def spRowParts : Sp := fun vs H Q _ => ∃ (r : Addr) (m h : Nat) (k : Option Nat), vs = [.ref r] ∧ H r = some (.tup (nums m h k)) ∧ (∀ b, k = some b → b ≤ 12) ∧
  (m = 0 → Q .non H) ∧ (m ≠ 0 → ∀ p b c e H', Same H H' → H' p = some (.tup [.ref b, .ref c, .ref e]) → H' b = some (.tup (nums (m / 2) h k)) →
    H' c = some (.tup (nums ((m + 1) / 2 - 1) h k)) → H' e = some (.tup (nums m h (plain m h k))) → Q (.ref p) H')
theorem ok_rowParts {f g : Addr} {fd gd : FuncData} (F : Fun K "parts_of_row" "parts_of_row" sRowParts f fd)
    (G : FnOk P w K mg base CX0 1 g gd ["leaves", "height", "branching"] spPlain) (bG : Binds K gd ["leaves", "height", "branching"] []) (kG : PySem.W.keepIn K (.ref g) = true) (mG : mg "plain_node" = some (.ref g)) :
    FnOk P w K mg base CX0 2 f fd ["row"] spRowParts := by
  refine F.ok scRowParts (fun vs H Q E h => ?_) (fun cdv A outer s H vs Q E hr h => ?_)
  · obtain ⟨r, m, h, k, rfl, _⟩ := h
    rfl
  obtain ⟨r, m, h, k, rfl, er, hk, q0, q1⟩ := h
  have nd := scRowParts.nd
  refine ⟨_, pss_cons (ps_asg (pv 0) (pg_tup rfl (pgs_cons (pg_name (i := 1) nd rfl (.inl rfl)) (pgs_cons (pg_name (i := 2) nd rfl (.inl rfl)) (pgs_cons (pg_name (i := 3) nd rfl (.inl rfl)) pgs_nil)))))
    (pss_cons (ps_if (pt_cmpR op_eq (pv 1) pe_int (nomark _)) (pss_one (ps_ret pe_non)) pss_nil)
    (pss_cons (ps_set (i := 4) nd rfl (.inl rfl) (pe_tup (pa_cons (pe_op op_fdiv (pv 1) pe_int) (pa_cons (pv 2) (pa_cons (pv 3) pa_nil)))))
    (pss_cons (ps_set (i := 5) nd rfl (.inl rfl) (pe_tup (pa_cons (pe_op op_sub (pe_op op_fdiv (pe_op op_add (pv 1) pe_int) pe_int) pe_int) (pa_cons (pv 2) (pa_cons (pv 3) pa_nil)))))
    (pss_one (ps_ret (pe_tup (pa_cons (pv 4) (pa_cons (pv 5) (pa_cons (pe_call G hr (by rfl) mG kG bG .nil pass0 (pa_cons (pv 1) (pa_cons (pv 2) (pa_cons (pv 3) pa_nil)))) pa_nil))))))))), ?_⟩
  refine ⟨_, rfl, r, _, rfl, .inl (.inl er), rfl, _, _, rfl, _, _, rfl, _, _, rfl, rfl, ?_⟩
  refine ⟨_, rfl, rfl, _, rfl, ite2 (fun c => ?_) (fun c => ?_)⟩
  · have c' : (m : Int) = 0 := V.int.inj (of_decide_eq_true c)
    exact q0 (by omega)
  · have c' : ¬ (m : Int) = 0 := fun z => c (decide_eq_true (congrArg V.int z))
    refine ⟨_, rfl, _, _, rfl, rfl, ⟨by decide, by decide⟩, _, rfl, _, rfl, three_le, fun b hb => ?_⟩
    have s1 := same_new hb (.tup [.int ((m : Int) / 2), .int (h : Int), kv k])
    refine ⟨_, rfl, _, _, rfl, rfl, _, _, rfl, rfl, ⟨by decide, by decide⟩, _, _, rfl, rfl, _, rfl, _, rfl, three_le, fun d hd => ?_⟩
    have s2 := same_new hd (.tup [.int (((m : Int) + 1) / 2 - 1), .int (h : Int), kv k])
    refine ⟨_, rfl, _, rfl, _, rfl, _, rfl, _, rfl, m, h, k, rfl, hk, fun e H3 s3 ee => three_le_and fun p hp => ?_⟩
    have s4 := same_new hp (.tup [.ref b, .ref d, .ref e])
    refine q1 (by omega) p b d e _ (s1.trans (s2.trans (s3.trans s4))) upd_same ?_ ?_ ?_
    · refine s4 _ _ (s3 _ _ (s2 _ _ ?_))
      rw [upd_same]
      rfl
    · refine s4 _ _ (s3 _ _ ?_)
      rw [upd_same]
      have e1 : ((m : Int) + 1) / 2 - 1 = (((m + 1) / 2 - 1 : Nat) : Int) := by omega
      exact congrArg (fun z => some (HO.tup [V.int z, V.int (h : Int), kv k])) e1
    · exact s4 _ _ ee
/-! ### parts_of_node -/
def np1 (n : Nat) : Option Nat → Nat
  | none => n / 2
  | some b => if b = 1 then 0 else n - 1
def np2 (n : Nat) : Option Nat → Nat
  | none => (n + 1) / 2 - 1
  | some b => if b = 1 then 0 else n - 1
def nk : Option Nat → Option Nat
  | none => none
  | some b => some (b - 1)
theorem scNodeParts : FnScope ["node", "leaves", "height", "branching", "many", "beside"] ["node"] (defScope sNodeParts) := ⟨rfl, rfl, rfl, by decide +kernel, rfl, by decide +kernel, by decide +kernel⟩
def spNodeParts : Sp := fun vs H Q _ => ∃ (r : Addr) (n h : Nat) (k : Option Nat), vs = [.ref r] ∧ H r = some (.tup (nums n (h + 1) k)) ∧ kOk k ∧ 1 ≤ n ∧
  ∀ p b c e H', Same H H' → H' p = some (.tup [.ref b, .ref c, .ref e]) → H' b = some (.tup (nums (np1 n k) h (nk k))) →
    H' c = some (.tup (nums (np2 n k) h (nk k))) → H' e = some (.tup (nums n h (plain n h k))) → Q (.ref p) H'
theorem ok_nodeParts {f g r' : Addr} {fd gd rd : FuncData} (F : Fun K "parts_of_node" "parts_of_node" sNodeParts f fd)
    (G : FnOk P w K mg base CX0 1 g gd ["leaves", "height", "branching"] spPlain) (bG : Binds K gd ["leaves", "height", "branching"] []) (kG : PySem.W.keepIn K (.ref g) = true) (mG : mg "plain_node" = some (.ref g))
    (R : FnOk P w K mg base CX0 2 r' rd ["row"] spRowParts) (bR : Binds K rd ["row"] []) (kR : PySem.W.keepIn K (.ref r') = true) (mR : mg "parts_of_row" = some (.ref r')) :
    FnOk P w K mg base CX0 3 f fd ["node"] spNodeParts := by
  refine F.ok scNodeParts (fun vs H Q E h => ?_) (fun cdv A outer s H vs Q E hr h => ?_)
  · obtain ⟨r, m, h, k, rfl, _⟩ := h
    rfl
  obtain ⟨r, n, h, k, rfl, er, hk, hn, q⟩ := h
  have nd := scNodeParts.nd
  refine ⟨_, pss_cons (ps_asg (pv 0) (pg_tup rfl (pgs_cons (pg_name (i := 1) nd rfl (.inl rfl)) (pgs_cons (pg_name (i := 2) nd rfl (.inl rfl)) (pgs_cons (pg_name (i := 3) nd rfl (.inl rfl)) pgs_nil)))))
    (pss_cons (ps_if (pt_cmp (pc_isN (pv 3))) (pss_one (ps_ret (pe_call R hr (by rfl) mR kR bR .nil pass0 (pa_cons (pe_tup (pa_cons (pv 1) (pa_cons (pe_op op_sub (pv 2) pe_int) (pa_cons pe_non pa_nil)))) pa_nil)))) pss_nil)
    (pss_cons (ps_set (i := 4) nd rfl (.inl rfl) (pe_ifExp (pt_cmpR op_eq (pv 3) pe_int (nomark _)) pe_int (pe_op op_sub (pv 1) pe_int)))
    (pss_cons (ps_set (i := 5) nd rfl (.inl rfl) (pe_tup (pa_cons (pv 4) (pa_cons (pe_op op_sub (pv 2) pe_int) (pa_cons (pe_op op_sub (pv 3) pe_int) pa_nil)))))
    (pss_one (ps_ret (pe_tup (pa_cons (pv 5) (pa_cons (pv 5) (pa_cons (pe_call G (hr.mono (by decide)) (by rfl) mG kG bG .nil pass0 (pa_cons (pv 1) (pa_cons (pe_op op_sub (pv 2) pe_int) (pa_cons (pv 3) pa_nil)))) pa_nil))))))))), ?_⟩
  refine ⟨_, rfl, r, _, rfl, .inl (.inl er), rfl, _, _, rfl, _, _, rfl, _, _, rfl, rfl, ?_⟩
  have eh : ((h + 1 : Nat) : Int) - 1 = (h : Int) := by omega
  cases k with
  | none =>
    refine ⟨_, rfl, true, rfl, iteT ?_⟩
    refine ⟨_, rfl, _, rfl, _, _, rfl, rfl, three_le, fun t ht => ?_⟩
    have s1 := same_new ht (.tup [.int (n : Int), .int (((h + 1 : Nat) : Int) - 1), V.non])
    refine ⟨t, n, h, none, rfl, ?_, (fun b e => nomatch e), fun z => absurd z (by omega), fun _ p b c e H' s2 ep eb ec ee => ?_⟩
    · rw [upd_same]
      exact congrArg (fun z => some (HO.tup [V.int (n : Int), V.int z, V.non])) eh
    · exact q p b c e H' (s1.trans s2) ep eb ec ee
  | some b =>
    have hb := hk b rfl
    refine ⟨_, rfl, false, rfl, iteF ?_⟩
    have go : ∀ (m : Nat), m = (if b = 1 then 0 else n - 1) → ∀ (mi : Int), mi = (m : Int) → tSeq (tAsg (tTup (tCons (tVar 4) (tCons (tOp (rI0 fun i j => .int (i - j)) (tVar 2) (tC (.int 1))) (tCons (tOp (rI0 fun i j => .int (i - j)) (tVar 3) (tC (.int 1))) tNil)))) (gName 5))
        (tRet (tTup (tCons (tVar 5) (tCons (tVar 5) (tCons (tCall spPlain [] E0 (tCons (tVar 1) (tCons (tOp (rI0 fun i j => .int (i - j)) (tVar 2) (tC (.int 1))) (tCons (tVar 3) tNil)))) tNil)))))
        { nx := fun _ H' => Q .non H', rt := Q } [some (.ref r), some (.int (n : Int)), some (.int ((h + 1 : Nat) : Int)), some (.int (b : Int)), some (.int mi), Option.none] H := by
      intro m em mi emi
      subst emi
      refine ⟨_, rfl, _, rfl, _, _, rfl, rfl, _, rfl, _, _, rfl, rfl, three_le, fun t ht => ?_⟩
      have s1 := same_new ht (.tup [.int (m : Int), .int (((h + 1 : Nat) : Int) - 1), .int ((b : Int) - 1)])
      refine ⟨_, rfl, _, rfl, _, rfl, _, rfl, _, _, rfl, rfl, _, rfl, n, h, some b, ?_, (fun b' e => by cases e; exact hb.2), fun e H3 s2 ee => three_le_and fun p hp => ?_⟩
      · exact congrArg (fun z => [V.int (n : Int), V.int z, V.int (b : Int)]) eh
      · have s3 := same_new hp (.tup [.ref t, .ref t, .ref e])
        have et : H3 t = some (.tup (nums m h (some (b - 1)))) := by
          refine s2 _ _ ?_
          rw [upd_same]
          have e2 : (b : Int) - 1 = ((b - 1 : Nat) : Int) := by omega
          refine Eq.trans (congrArg (fun (z : Int) => some (HO.tup [V.int (m : Int), V.int z, V.int ((b : Int) - 1)])) eh) (congrArg (fun (y : Int) => some (HO.tup [V.int (m : Int), V.int (h : Int), V.int y])) e2)
-- => some (HO.tup [V.int (m : Int), V.int z, V.int y])) eh) e2
        subst em
        exact q p t t e _ (s1.trans (s2.trans s3)) upd_same (s3 _ _ et) (s3 _ _ et) (s3 _ _ ee)
    refine ⟨_, rfl, rfl, _, rfl, ite2 (fun c => ?_) (fun c => ?_)⟩
    · have c' : (b : Int) = 1 := V.int.inj (of_decide_eq_true c)
      exact go 0 (by rw [if_pos (by omega)]) 0 rfl
    · have c' : ¬ (b : Int) = 1 := fun z => c (decide_eq_true (congrArg V.int z))
      refine ⟨_, rfl, _, _, rfl, rfl, ?_⟩
      exact go (n - 1) (by rw [if_neg (by omega)]) _ (by omega)
/-! ### log2 -/
theorem scLog : FnScope ["number"] ["number"] (defScope sLog) := ⟨rfl, rfl, rfl, by decide +kernel, rfl, by decide +kernel, by decide +kernel⟩
def spLog : Sp := fun vs H Q _ => ∃ n : Nat, vs = [.int (n : Int)] ∧ 1 ≤ n ∧ Q (.int (Nat.log2 n : Nat)) H
theorem bits_nat {n : Nat} (h : 1 ≤ n) : ((Builtin.Int.intBits (n : Int) : Nat) : Int) - 1 = ((Nat.log2 n : Nat) : Int) := by
  unfold Builtin.Int.intBits
  rw [if_neg (by simp; omega)]
  have e : (n : Int).natAbs = n := rfl
  rw [e]
  omega
theorem ok_log {f : Addr} {fd : FuncData} (F : Fun K "log2" "log2" sLog f fd) : FnOk P w K mg base CX0 1 f fd ["number"] spLog := by
  refine F.ok scLog (fun vs H Q E h => ?_) (fun cdv A outer s H vs Q E hr h => ?_)
  · obtain ⟨n, rfl, _⟩ := h
    rfl
  obtain ⟨n, rfl, hn, q⟩ := h
  refine ⟨_, pss_one (ps_ret (pe_op op_sub (pe_bits (pv 0)) pe_int)), ?_⟩
  refine ⟨_, rfl, _, rfl, _, _, rfl, rfl, ?_⟩
  rw [← bits_nat hn] at q
  exact q
end
end K11
set_option Elab.async false
set_option linter.all false
set_option maxRecDepth 100000
set_option maxHeartbeats 4000000
namespace K11
open PySem PySem.Spec PyProof.Rows L2
/-! ### the program's sizes: node, parts, row -/
theorem key3_V (m h : Nat) (k : Option Nat) : (key3 m h k).map lV = nums m h k := by
  unfold key3 nums
  rw [List.map_cons, List.map_cons, List.map_cons, lV_kl]
  rfl
theorem plain_ok {n h b : Nat} {k : Option Nat} (e : plain n h k = some b) : free n h (some b) = false := by
  unfold plain at e
  cases hf : free n h k with
  | true => rw [hf, if_pos rfl] at e; cases e
  | false => rw [hf, if_neg (by decide)] at e; rw [← e]; exact hf
theorem plain_kOk {n h : Nat} {k : Option Nat} (hk : kOk k) : kOk (plain n h k) := by
  unfold plain
  cases free n h k with
  | true => rw [if_pos rfl]; exact fun b e => nomatch e
  | false => rw [if_neg (by decide)]; exact hk
theorem plain_rch {n0 n h : Nat} {k : Option Nat} (hk : kOk k) (r : Rch n0 (dk k) n) : Rch n0 (dk (plain n h k)) n := by
  unfold plain
  cases free n h k with
  | true => rw [if_pos rfl]; exact r.mono (dk_le hk)
  | false => rw [if_neg (by decide)]; exact r
/-- a node that is asked for its size, with c calls -/
structure NodeArg (n0 c : Nat) (H : Hp) (p : Addr) (m h : Nat) (k : Option Nat) : Prop where
  at_ : H p = some (.tup (nums m h k))
  pos : 1 ≤ m
  hh : h ≤ 12
  kk : kOk k
  rch : Rch n0 (dk k) m
  pl : ∀ b, k = some b → free m h (some b) = false
  lev : 4 * (bl m + h) + 4 ≤ c
structure RowArg (n0 c : Nat) (H : Hp) (p : Addr) (m h : Nat) (k : Option Nat) : Prop where
  at_ : H p = some (.tup (nums m h k))
  hh : h ≤ 12
  kk : ∀ b, k = some b → b ≤ 12
  rch : m ≠ 0 → kOk k ∧ Rch n0 (dk k) m
  lev : 4 * (bl m + h) + 6 ≤ c
theorem NodeArg.keep {n0 c m h : Nat} {H H' : Hp} {p : Addr} {k : Option Nat} (x : NodeArg n0 c H p m h k) (e : H' p = some (.tup (nums m h k))) : NodeArg n0 c H' p m h k :=
  ⟨e, x.pos, x.hh, x.kk, x.rch, x.pl, x.lev⟩
theorem RowArg.keep {n0 c m h : Nat} {H H' : Hp} {p : Addr} {k : Option Nat} (x : RowArg n0 c H p m h k) (e : H' p = some (.tup (nums m h k))) : RowArg n0 c H' p m h k :=
  ⟨e, x.hh, x.kk, x.rch, x.lev⟩
section
variable {P : Program} {w : World} {K : PySem.W.Frag} {mg : Str → Option Value} {base : Heap} {n0 : Nat}
def spNode (P : Program) (w : World) (n0 c : Nat) : Sp := fun vs H Q _ => ∃ (p a : Addr) (m h : Nat) (k : Option Nat) (ks : List (List Leaf)), vs = [.ref p, .ref a] ∧
  NodeArg n0 c H p m h k ∧ Tab P w (SP n0) H a ks ∧ ∀ H' ks', But a H H' → Tab P w (SP n0) H' a ks' → Q (.int (usz h k m : Nat)) H'
def spRow (P : Program) (w : World) (n0 c : Nat) : Sp := fun vs H Q _ => ∃ (p a : Addr) (m h : Nat) (k : Option Nat) (ks : List (List Leaf)), vs = [.ref p, .ref a] ∧
  RowArg n0 c H p m h k ∧ Tab P w (SP n0) H a ks ∧ ∀ H' ks', But a H H' → Tab P w (SP n0) H' a ks' → Q (.int (rowSum (usz h k) m : Nat)) H'
def spParts (P : Program) (w : World) (n0 c : Nat) : Sp := fun vs H Q _ => ∃ (p a b d e : Addr) (m1 m2 m3 h : Nat) (k k3 : Option Nat) (ks : List (List Leaf)), vs = [.ref p, .ref a] ∧
  H p = some (.tup [.ref b, .ref d, .ref e]) ∧ RowArg n0 (c - 1) H b m1 h k ∧ RowArg n0 (c - 1) H d m2 h k ∧ NodeArg n0 (c - 1) H e m3 h k3 ∧ Tab P w (SP n0) H a ks ∧
  ∀ H' ks', But a H H' → Tab P w (SP n0) H' a ks' → Q (.int ((rowSum (usz h k) m1 : Nat) + (usz h k3 m3 : Nat) + (rowSum (usz h k) m2 : Nat))) H'
theorem scParts : FnScope ["parts", "sizes", "before", "after", "child"] ["parts", "sizes"] (defScope sParts) := ⟨rfl, rfl, rfl, by decide +kernel, rfl, by decide +kernel, by decide +kernel⟩
theorem scNode : FnScope ["node", "sizes"] ["node", "sizes"] (defScope sNode) := ⟨rfl, rfl, rfl, by decide +kernel, rfl, by decide +kernel, by decide +kernel⟩
theorem scRow : FnScope ["row", "sizes", "parts"] ["row", "sizes"] (defScope sRow) := ⟨rfl, rfl, rfl, by decide +kernel, rfl, by decide +kernel, by decide +kernel⟩
theorem but_tup {a p : Addr} {H H' : Hp} {l : List V} {S : List Leaf → V → Prop} {ks : List (List Leaf)} (T : Tab P w S H a ks) (b : But a H H') (e : H p = some (.tup l)) : H' p = some (.tup l) := by
  obtain ⟨φ, f⟩ := T.holds
  exact b p _ (ne_of e f (fun z => nomatch z)) e
variable {fN fP fR gR gN : Addr} {dN dP dR eR eN : FuncData}
theorem ok_parts {c : Nat} (F : Fun K "_parts_size" "_parts_size" sParts fP dP)
    (GR : FnOk P w K mg base CX0 c fR dR ["row", "sizes"] (spRow P w n0 c)) (bR : Binds K dR ["row", "sizes"] []) (kR : PySem.W.keepIn K (.ref fR) = true) (mR : mg "_row_size" = some (.ref fR))
    (GN : FnOk P w K mg base CX0 c fN dN ["node", "sizes"] (spNode P w n0 c)) (bN : Binds K dN ["node", "sizes"] []) (kN : PySem.W.keepIn K (.ref fN) = true) (mN : mg "_node_size" = some (.ref fN)) :
    FnOk P w K mg base CX0 (c + 1) fP dP ["parts", "sizes"] (spParts P w n0 (c + 1)) := by
  refine F.ok scParts (fun vs H Q E h => ?_) (fun cdv A outer s H vs Q E hr h => ?_)
  · obtain ⟨p, a, b, d, e, m1, m2, m3, h, k, k3, ks, rfl, _⟩ := h
    rfl
  obtain ⟨p, a, b, d, e, m1, m2, m3, h, k, k3, ks, rfl, ep, rb, rd, ne, T, q⟩ := h
  have nd := scParts.nd
  rw [Nat.add_sub_cancel] at rb rd ne
  refine ⟨_, pss_cons (ps_asg (pv 0) (pg_tup rfl (pgs_cons (pg_name (i := 2) nd rfl (.inl rfl)) (pgs_cons (pg_name (i := 3) nd rfl (.inl rfl)) (pgs_cons (pg_name (i := 4) nd rfl (.inl rfl)) pgs_nil)))))
    (pss_one (ps_ret (pe_op op_add (pe_op op_add (pe_call GR hr (by rfl) mR kR bR .nil pass0 (pa_cons (pv 2) (pa_cons (pv 1) pa_nil))) (pe_call GN hr (by rfl) mN kN bN .nil pass0 (pa_cons (pv 4) (pa_cons (pv 1) pa_nil))))
      (pe_call GR hr (by rfl) mR kR bR .nil pass0 (pa_cons (pv 3) (pa_cons (pv 1) pa_nil)))))), ?_⟩
  refine ⟨_, rfl, p, _, rfl, .inl (.inl ep), rfl, _, _, rfl, _, _, rfl, _, _, rfl, rfl, ?_⟩
  refine ⟨_, rfl, _, rfl, b, a, m1, h, k, ks, rfl, rb, T, fun H1 ks1 u1 T1 => ?_⟩
  refine ⟨_, rfl, _, rfl, e, a, m3, h, k3, ks1, rfl, ne.keep (but_tup T u1 ne.at_), T1, fun H2 ks2 u2 T2 => ⟨_, _, rfl, rfl, ?_⟩⟩
  refine ⟨_, rfl, _, rfl, d, a, m2, h, k, ks2, rfl, rd.keep (but_tup T1 u2 (but_tup T u1 rd.at_)), T2, fun H3 ks3 u3 T3 => ⟨_, _, rfl, rfl, ?_⟩⟩
  exact q H3 ks3 (u1.trans (u2.trans u3)) T3
theorem ok_node {c : Nat} (F : Fun K "_node_size" "_node_size" sNode fN dN)
    (G : FnOk P w K mg base CX0 3 gN eN ["node"] spNodeParts) (bG : Binds K eN ["node"] []) (kG : PySem.W.keepIn K (.ref gN) = true) (mG : mg "parts_of_node" = some (.ref gN))
    (GP : FnOk P w K mg base CX0 c fP dP ["parts", "sizes"] (spParts P w n0 c)) (bP : Binds K dP ["parts", "sizes"] []) (kP : PySem.W.keepIn K (.ref fP) = true) (mP : mg "_parts_size" = some (.ref fP)) :
    FnOk P w K mg base CX0 (c + 1) fN dN ["node", "sizes"] (spNode P w n0 (c + 1)) := by
  refine F.ok scNode (fun vs H Q E h => ?_) (fun cdv A outer s H vs Q E hr h => ?_)
  · obtain ⟨p, a, m, h, k, ks, rfl, _⟩ := h
    rfl
  obtain ⟨p, a, m, h, k, ks, rfl, x, T, q⟩ := h
  have hc : 3 ≤ c := by have := x.lev; omega
  refine ⟨_, pss_cons (ps_if (pt_cmpR op_eq (pe_ix ix_tup (pv 0) pe_int (fun _ _ => rfl)) pe_int (nomark _)) (pss_one (ps_ret pe_int)) pss_nil)
    (pss_one (ps_ret (pe_call GP hr (by rfl) mP kP bP .nil pass0 (pa_cons (pe_call G (hr.mono hc) (by rfl) mG kG bG .nil pass0 (pa_cons (pv 0) pa_nil)) (pa_cons (pv 1) pa_nil))))), ?_⟩
  refine ⟨_, rfl, p, _, 1, .int (h : Int), rfl, rfl, .inl (.inl x.at_), atI_nat (j := 1) rfl, rfl, _, rfl, ite2 (fun z => ?_) (fun z => ?_)⟩
  · have z' : (h : Int) = 0 := V.int.inj (of_decide_eq_true z)
    have z2 : h = 0 := by omega
    subst z2
    have r := q H ks (.refl a H) T
    rw [usz_zero] at r
    exact r
  · have z' : ¬ (h : Int) = 0 := fun y => z (decide_eq_true (congrArg V.int y))
    obtain ⟨h', rfl⟩ : ∃ h', h = h' + 1 := ⟨h - 1, by omega⟩
    refine ⟨_, rfl, p, m, h', k, rfl, x.at_, x.kk, x.pos, fun r b d e H1 s1 er eb ed ee => ?_⟩
    have T1 := T.keep s1
    have lev := x.lev
    have hh := x.hh
    have nodeA : NodeArg n0 (c - 1) H1 e m h' (plain m h' k) := ⟨ee, x.pos, by omega, plain_kOk x.kk, plain_rch x.kk x.rch, fun b e => plain_ok e, by omega⟩
    have kx := x.kk
    have d2 := dk_two x.kk
    cases k with
    | none =>
      have r1 : RowArg n0 (c - 1) H1 b (np1 m none) h' (nk none) := ⟨eb, by omega, fun b e => (nomatch e), fun _ => ⟨x.kk, x.rch.half d2⟩, by
        have := bl_half (m := m) (by have := x.pos; omega)
        show 4 * (bl (m / 2) + h') + 6 ≤ c - 1
        omega⟩
      have r2 : RowArg n0 (c - 1) H1 d (np2 m none) h' (nk none) := ⟨ed, by omega, fun b e => (nomatch e), fun _ => ⟨x.kk, x.rch.half' d2⟩, by
        have := bl_half' (m := m) (by have := x.pos; omega)
        show 4 * (bl ((m + 1) / 2 - 1) + h') + 6 ≤ c - 1
        omega⟩
      refine ⟨_, rfl, r, a, b, d, e, _, _, m, h', _, _, ks, rfl, er, r1, r2, nodeA, T1, fun H2 ks2 u2 T2 => ?_⟩
      have res := q H2 ks2 ((But.same s1).trans u2) T2
      have e1 : ((usz (h' + 1) none m : Nat) : Int) = (rowSum (usz h' none) (m / 2) : Nat) + (usz h' (plain m h' none) m : Nat) + (rowSum (usz h' none) ((m + 1) / 2 - 1) : Nat) := by
        have := rowSum_pos (usz h' none) (m := m) (by have := x.pos; omega)
        have e2 : usz (h' + 1) none m = rowSum (usz h' none) m := rfl
        rw [e2, usz_plain]
        omega
      rw [e1] at res
      exact res
    | some b0 =>
      have hb := kx b0 rfl
      have hf := x.pl b0 rfl
      by_cases c1 : b0 = 1
      · subst c1
        have ra : ∀ b, H1 b = some (.tup (nums 0 h' (some 0))) → RowArg n0 (c - 1) H1 b 0 h' (some 0) := fun b eb => ⟨eb, by omega, fun b e => by cases e; omega, fun z => absurd rfl z, by
          have : bl 0 = 0 := rfl
          rw [this]
          omega⟩
        refine ⟨_, rfl, r, a, b, d, e, 0, 0, m, h', some 0, _, ks, rfl, er, ra b eb, ra d ed, nodeA, T1, fun H2 ks2 u2 T2 => ?_⟩
        have res := q H2 ks2 ((But.same s1).trans u2) T2
        rw [usz_one hf, ← usz_plain] at res
        rw [rowSum_zero]
        have e1 : ((usz h' (plain m h' (some 1)) m : Nat) : Int) = ((0 : Nat) : Int) + (usz h' (plain m h' (some 1)) m : Nat) + ((0 : Nat) : Int) := by omega
        rw [e1] at res
        exact res
      · have ra : ∀ b, H1 b = some (.tup (nums (if b0 = 1 then 0 else m - 1) h' (some (b0 - 1)))) → RowArg n0 (c - 1) H1 b (m - 1) h' (some (b0 - 1)) := fun b eb => by
          rw [if_neg c1] at eb
          refine ⟨eb, by omega, fun b e => by cases e; omega, fun z => ⟨fun b e => by cases e; omega, ?_⟩, ?_⟩
          · have := x.rch.less
            exact this.mono (by show 14 - b0 + 1 ≤ 14 - (b0 - 1); omega)
          · have := bl_mono (show m - 1 ≤ m by omega)
            omega
        refine ⟨_, rfl, r, a, b, d, e, m - 1, m - 1, m, h', some (b0 - 1), _, ks, rfl, er, ra b eb, ra d ed, nodeA, T1, fun H2 ks2 u2 T2 => ?_⟩
        have res := q H2 ks2 ((But.same s1).trans u2) T2
        rw [usz_heavy hf c1, ← usz_plain] at res
        have e1 : ((2 * rowSum (usz h' (some (b0 - 1))) (m - 1) + usz h' (plain m h' (some b0)) m : Nat) : Int) =
          (rowSum (usz h' (some (b0 - 1))) (m - 1) : Nat) + (usz h' (plain m h' (some b0)) m : Nat) + (rowSum (usz h' (some (b0 - 1))) (m - 1) : Nat) := by omega
        rw [e1] at res
        exact res
theorem ok_row {c : Nat} (hn : n0 < 2 ^ 20) (F : Fun K "_row_size" "_row_size" sRow fR dR)
    (G : FnOk P w K mg base CX0 2 gR eR ["row"] spRowParts) (bG : Binds K eR ["row"] []) (kG : PySem.W.keepIn K (.ref gR) = true) (mG : mg "parts_of_row" = some (.ref gR))
    (GP : FnOk P w K mg base CX0 c fP dP ["parts", "sizes"] (spParts P w n0 c)) (bP : Binds K dP ["parts", "sizes"] []) (kP : PySem.W.keepIn K (.ref fP) = true) (mP : mg "_parts_size" = some (.ref fP)) :
    FnOk P w K mg base CX0 (c + 1) fR dR ["row", "sizes"] (spRow P w n0 (c + 1)) := by
  refine F.ok scRow (fun vs H Q E h => ?_) (fun cdv A outer s H vs Q E hr h => ?_)
  · obtain ⟨p, a, m, h, k, ks, rfl, _⟩ := h
    rfl
  obtain ⟨p, a, m, h, k, ks, rfl, x, T, q⟩ := h
  have hc : 3 ≤ c := by have := x.lev; omega
  have nd := scRow.nd
  have hu := hu_of hr
  refine ⟨_, pss_cons (ps_set (i := 2) nd rfl (.inl rfl) (pe_call G (hr.mono (Nat.le_trans (by decide) hc)) (by rfl) mG kG bG .nil pass0 (pa_cons (pv 0) pa_nil)))
    (pss_cons (ps_if (pt_cmp (pc_isN (pv 2))) (pss_one (ps_ret pe_int)) pss_nil)
    (pss_cons (ps_if (pt_cmp (pc_tnotin hu (pv 0) (pv 1))) (pss_one (ps_tput hu (pv 1) (pv 0) (pe_call GP hr (by rfl) mP kP bP .nil pass0 (pa_cons (pv 2) (pa_cons (pv 1) pa_nil))) rfl)) pss_nil)
    (pss_one (ps_ret (pe_tget hu (pv 1) (pv 0) (fun _ _ => rfl)))))), ?_⟩
  refine ⟨_, rfl, p, m, h, k, rfl, x.at_, x.kk, fun z => ?_, fun z r b d e H1 s1 er eb ed ee => ?_⟩
  · subst z
    refine ⟨_, rfl, true, rfl, iteT ?_⟩
    have r := q H ks (.refl a H) T
    rw [rowSum_zero] at r
    exact r
  · refine ⟨_, rfl, false, rfl, iteF ?_⟩
    have T1 := T.keep s1
    have kp : H1 p = some (.tup ((key3 m h k).map lV)) := by rw [key3_V]; exact s1 _ _ x.at_
    obtain ⟨kx, rx⟩ := x.rch z
    have hh := x.hh
    have lev := x.lev
    have d2 := dk_two kx
    have fin : ∀ H2 ks2 (σ : L2.St), But a H1 H2 → Tab P w (SP n0) H2 a ks2 → key3 m h k ∈ ks2 → σ[0]? = some (some (.ref p)) → σ[1]? = some (some (.ref a)) →
        tRet (tTGet P w (tVar 1) (tVar 0)) { nx := fun _ H' => Q .non H', rt := Q } σ H2 := by
      intro H2 ks2 σ u T2 hm e0 e1
      refine ⟨_, e1, _, e0, SP n0, a, p, ks2, key3 m h k, rfl, rfl, T2, but_tup T1 u kp, hm, fun v sv => ?_⟩
      rw [SP_val sv]
      exact q H2 ks2 ((But.same s1).trans u) T2
    refine ⟨_, rfl, _, rfl, SP n0, a, p, ks, key3 m h k, rfl, rfl, T1, kp, _, rfl, ?_⟩
    by_cases hm : key3 m h k ∈ ks
    · rw [decide_eq_true hm]
      exact iteF (fin H1 ks _ (.refl a H1) T1 hm rfl rfl)
    · rw [decide_eq_false hm]
      refine iteT ?_
      have r1 : RowArg n0 (c - 1) H1 b (m / 2) h k := ⟨eb, hh, x.kk, fun _ => ⟨kx, rx.half d2⟩, by
        have := bl_half (m := m) z
        omega⟩
      have r2 : RowArg n0 (c - 1) H1 d ((m + 1) / 2 - 1) h k := ⟨ed, hh, x.kk, fun _ => ⟨kx, rx.half' d2⟩, by
        have := bl_half' (m := m) z
        omega⟩
      have nodeA : NodeArg n0 (c - 1) H1 e m h (plain m h k) := ⟨ee, by omega, hh, plain_kOk kx, plain_rch kx rx, fun b e => plain_ok e, by omega⟩
      refine ⟨_, rfl, _, rfl, r, a, b, d, e, _, _, m, h, _, _, ks, rfl, er, r1, r2, nodeA, T1, fun H2 ks2 u2 T2 => ?_⟩
      have e1 : ((rowSum (usz h k) m : Nat) : Int) = (rowSum (usz h k) (m / 2) : Nat) + (usz h (plain m h k) m : Nat) + (rowSum (usz h k) ((m + 1) / 2 - 1) : Nat) := by
        have := rowSum_pos (usz h k) z
        rw [usz_plain]
        omega
      refine ⟨_, rfl, _, rfl, SP n0, a, p, ks2, key3 m h k, rfl, rfl, T2, but_tup T1 u2 kp, ⟨m, h, k, rfl, z, hh, kx, rx, ?_⟩, SP_len hn T2, fun H3 u3 T3 => ?_⟩
      · rw [e1]
      · refine fin H3 _ _ (u2.trans u3) T3 ?_ rfl rfl
        by_cases hm2 : key3 m h k ∈ ks2
        · rw [if_pos hm2]; exact hm2
        · rw [if_neg hm2]; exact List.mem_append_right _ (List.mem_cons_self ..)
/-! ### by induction on the calls -/
theorem sizes_all (hn : n0 < 2 ^ 20) (FN : Fun K "_node_size" "_node_size" sNode fN dN) (bN : Binds K dN ["node", "sizes"] []) (mN : mg "_node_size" = some (.ref fN))
    (FP : Fun K "_parts_size" "_parts_size" sParts fP dP) (bP : Binds K dP ["parts", "sizes"] []) (mP : mg "_parts_size" = some (.ref fP))
    (FR : Fun K "_row_size" "_row_size" sRow fR dR) (bR : Binds K dR ["row", "sizes"] []) (mR : mg "_row_size" = some (.ref fR))
    (GN : FnOk P w K mg base CX0 3 gN eN ["node"] spNodeParts) (cN : Binds K eN ["node"] []) (kN : PySem.W.keepIn K (.ref gN) = true) (nN : mg "parts_of_node" = some (.ref gN))
    (GR : FnOk P w K mg base CX0 2 gR eR ["row"] spRowParts) (cR : Binds K eR ["row"] []) (kR : PySem.W.keepIn K (.ref gR) = true) (nR : mg "parts_of_row" = some (.ref gR)) :
    ∀ c : Nat, FnOk P w K mg base CX0 c fN dN ["node", "sizes"] (spNode P w n0 c) ∧ FnOk P w K mg base CX0 c fP dP ["parts", "sizes"] (spParts P w n0 c) ∧
      FnOk P w K mg base CX0 c fR dR ["row", "sizes"] (spRow P w n0 c)
  | 0 => by
    have noN : ∀ vs H Q E, ¬ spNode P w n0 0 vs H Q E := fun vs H Q E h => by
      obtain ⟨p, a, m, h, k, ks, _, x, _⟩ := h
      have := x.lev
      omega
    have noR : ∀ vs H Q E, ¬ spRow P w n0 0 vs H Q E := fun vs H Q E h => by
      obtain ⟨p, a, m, h, k, ks, _, x, _⟩ := h
      have := x.lev
      omega
    have noP : ∀ vs H Q E, ¬ spParts P w n0 0 vs H Q E := fun vs H Q E h => by
      obtain ⟨p, a, b, d, e, m1, m2, m3, h, k, k3, ks, _, _, x, _⟩ := h
      have := x.lev
      omega
    exact ⟨⟨fun vs H Q E h => absurd h (noN vs H Q E), fun A outer s H args us vs Q E _ _ _ _ h => absurd h (noN vs H Q E)⟩,
      ⟨fun vs H Q E h => absurd h (noP vs H Q E), fun A outer s H args us vs Q E _ _ _ _ h => absurd h (noP vs H Q E)⟩,
      ⟨fun vs H Q E h => absurd h (noR vs H Q E), fun A outer s H args us vs Q E _ _ _ _ h => absurd h (noR vs H Q E)⟩⟩
  | c + 1 => by
    have ih := sizes_all hn FN bN mN FP bP mP FR bR mR GN cN kN nN GR cR kR nR c
    exact ⟨ok_node FN GN cN kN nN ih.2.1 bP FP.kp mP, ok_parts FP ih.2.2 bR FR.kp mR ih.1 bN FN.kp mN, ok_row hn FR GR cR kR nR ih.2.1 bP FP.kp mP⟩
end
end K11
set_option Elab.async false
set_option linter.all false
set_option maxRecDepth 100000
set_option maxHeartbeats 4000000
namespace K11
open PySem PySem.Spec PyProof.Rows L2
/-! ### universal_size, size_bound -/
theorem min2_nu (a b : Int) : nuMin2 (.int a) (.int b) = some (.int (min a b)) := by
  have e : nuMin2 (.int a) (.int b) = some (if decide (b < a) = true then V.int b else V.int a) := rfl
  rw [e]
  by_cases h : b < a
  · rw [decide_eq_true h, if_pos rfl, Int.min_eq_right (by omega)]
  · rw [decide_eq_false h, if_neg (by decide), Int.min_eq_left (by omega)]
theorem min3_nu (a b c : Int) : nuMin3 (.int a) (.int b) (.int c) = some (.int (min (min a b) c)) := by
  unfold nuMin3
  rw [min2_nu]
  exact min2_nu _ _
set_option maxHeartbeats 4000000 in
theorem comb_tab : (allN 33 fun a => allN (a + 1) fun b => decide (PySem.W.mcComb (a : Int) (b : Int) = ((chN a b : Nat) : Int))) = true := by decide +kernel
theorem comb_eq {x y : Int} {a b : Nat} (ex : x = (a : Int)) (ey : y = (b : Int)) (h1 : a < 33) (h2 : b ≤ a) : PySem.W.mcComb x y = ((chN a b : Nat) : Int) := by
  subst ex ey
  exact of_decide_eq_true (allN_of (allN_of comb_tab h1) (by omega))
theorem ch_small : (allN 13 fun a => allN 13 fun b => decide (chN a b < 1024)) = true := by decide +kernel
theorem ch_lt {a b : Nat} (h1 : a < 13) (h2 : b < 13) : chN a b < 1024 := of_decide_eq_true (allN_of (allN_of ch_small h1) h2)
section
variable {P : Program} {w : World} {K : PySem.W.Frag} {mg : Str → Option Value} {base : Heap}
abbrev ps3 : List Str := ["leaves", "height", "branching"]
abbrev FunU (K : PySem.W.Frag) (f : Addr) (fd : FuncData) : Prop := FunD K "universal_size" "universal_size" (defArgs sUsize) (defBody sUsize) (defScope sUsize) [] [("branching", .non)] f fd
abbrev FunB (K : PySem.W.Frag) (f : Addr) (fd : FuncData) : Prop := FunD K "size_bound" "size_bound" (defArgs sBound) (defBody sBound) (defScope sBound) [] [("branching", .non)] f fd
theorem scUsize : FnScope ps3 ps3 (defScope sUsize) := ⟨rfl, rfl, rfl, by decide +kernel, rfl, by decide +kernel, by decide +kernel⟩
theorem scBound : FnScope ["leaves", "height", "branching", "halvings", "turns"] ps3 (defScope sBound) := ⟨rfl, rfl, rfl, by decide +kernel, rfl, by decide +kernel, by decide +kernel⟩
def spUsize : Sp := fun vs H Q _ => ∃ (n h : Nat) (k : Option Nat), vs = nums n h k ∧ 1 ≤ n ∧ n < 2 ^ 20 ∧ h ≤ 12 ∧ kOk k ∧ ∀ H', Same H H' → Q (.int (usz h k n : Nat)) H'
def spBound : Sp := fun vs H Q _ => ∃ (n h : Nat) (k : Option Nat), vs = nums n h k ∧ 1 ≤ n ∧ n < 2 ^ 20 ∧ h ≤ 12 ∧ kOk k ∧ Q (.int (bnd n h k : Nat)) H
theorem ok_usize {f g fN : Addr} {fd gd dN : FuncData} (F : FunU K f fd)
    (G : FnOk P w K mg base CX0 1 g gd ["leaves", "height", "branching"] spPlain) (bG : Binds K gd ["leaves", "height", "branching"] []) (kG : PySem.W.keepIn K (.ref g) = true) (mG : mg "plain_node" = some (.ref g))
    (GN : ∀ n0, n0 < 2 ^ 20 → FnOk P w K mg base CX0 140 fN dN ["node", "sizes"] (spNode P w n0 140)) (bN : Binds K dN ["node", "sizes"] []) (kN : PySem.W.keepIn K (.ref fN) = true) (mN : mg "_node_size" = some (.ref fN)) :
    FnOk P w K mg base CX0 141 f fd ps3 spUsize := by
  refine F.ok scUsize (fun vs H Q E h => ?_) (fun cdv A outer s H vs Q E hr h => ?_)
  · obtain ⟨n, h, k, rfl, _⟩ := h
    rfl
  obtain ⟨n, h, k, rfl, h1, h2, hh, hk, q⟩ := h
  refine ⟨_, PSs.nox (pss_one (ps_ret (pe_call (GN n h2) hr (by rfl) mN kN bN .nil pass0 (pa_cons (pe_call G (hr.mono (by decide)) (by rfl) mG kG bG .nil pass0 (pa_cons (pv 0) (pa_cons (pv 1) (pa_cons (pv 2) pa_nil)))) (pa_cons pe_tnew pa_nil))))), ?_⟩
  refine ⟨_, rfl, _, rfl, _, rfl, n, h, k, rfl, (fun b e => (hk b e).2), fun p H1 s1 ep => ?_⟩
  refine fun a H2 ea s2 T => ?_
  refine ⟨p, a, n, h, plain n h k, [], rfl, ⟨s2 _ _ ep, h1, hh, plain_kOk hk, plain_rch hk (.root n _), (fun b e => plain_ok e), ?_⟩, T _, fun H3 ks u T3 => ?_⟩
  · have := bl_le h2
    omega
  · rw [usz_plain]
    refine q H3 fun b o e => u b o ?_ (s2 _ _ (s1 _ _ e))
    exact ne_of_none (s1 _ _ e) ea
theorem ok_bound {f g : Addr} {fd gd : FuncData} (F : FunB K f fd)
    (G : FnOk P w K mg base CX0 1 g gd ["number"] spLog) (bG : Binds K gd ["number"] []) (kG : PySem.W.keepIn K (.ref g) = true) (mG : mg "log2" = some (.ref g))
    (mC : mg "comb" = some (.builtin "math.comb")) (mM : mg "min" = none) : FnOk P w K mg base CX0 2 f fd ps3 spBound := by
  refine F.ok scBound (fun vs H Q E h => ?_) (fun cdv A outer s H vs Q E hr h => ?_)
  · obtain ⟨n, h, k, rfl, _⟩ := h
    rfl
  obtain ⟨n, h, k, rfl, h1, h2, hh, hk, q⟩ := h
  have nd := scBound.nd
  refine ⟨_, PSs.nox (pss_cons (ps_if (pt_cmpR op_eq (pv 1) pe_int (nomark _)) (pss_one (ps_ret pe_int)) pss_nil)
    (pss_cons (ps_set (i := 3) nd rfl (.inl rfl) (pe_call G hr (by rfl) mG kG bG .nil pass0 (pa_cons (pv 0) pa_nil)))
    (pss_cons (ps_if (pt_cmp (pc_isN (pv 2))) (pss_one (ps_ret (pe_op op_mul (pv 0) (pe_callBfun cr_comb (by rfl) mC (pa_cons (pe_op op_sub (pe_op op_add (pv 3) (pv 1)) pe_int) (pa_cons (pe_op op_sub (pv 1) pe_int) pa_nil)))))) pss_nil)
    (pss_cons (ps_set (i := 4) nd rfl (.inl rfl) (pe_op op_sub (pe_callB (call_min3Nu rfl) (by rfl) mM boot_min (pa_cons (pv 2) (pa_cons (pe_op op_add (pv 1) pe_int) (pa_cons (pe_op op_add (pv 3) pe_int) pa_nil)))) pe_int))
    (pss_one (ps_ret (pe_op op_mul (pe_op op_mul (pe_op op_mul (pv 0) (pe_op op_shl pe_int (pv 4))) (pe_callBfun cr_comb (by rfl) mC (pa_cons (pv 1) (pa_cons (pv 4) pa_nil))))
      (pe_callBfun cr_comb (by rfl) mC (pa_cons (pe_op op_add (pv 3) (pv 4)) (pa_cons (pv 4) pa_nil)))))))))), ?_⟩
  unfold bnd at q
  refine ⟨_, rfl, rfl, _, rfl, ite2 (fun z => ?_) (fun z => ?_)⟩
  · have z' : (h : Int) = 0 := V.int.inj (of_decide_eq_true z)
    rw [if_pos (show h = 0 by omega)] at q
    exact q
  have z' : ¬ (h : Int) = 0 := fun y => z (decide_eq_true (congrArg V.int y))
  rw [if_neg (show ¬ h = 0 by omega)] at q
  have hl := log_lt h2 (by omega)
  generalize hE : Nat.log2 n = e at q hl
  refine ⟨_, rfl, n, rfl, h1, ?_⟩
  rw [hE]
  have hn : (-(2 ^ 64) : Int) < (n : Int) ∧ (n : Int) < 2 ^ 64 := by
    have : (n : Int) < 2 ^ 20 := Int.ofNat_lt.mpr h2
    omega
  cases k with
  | none =>
    refine ⟨_, rfl, true, rfl, iteT ?_⟩
    refine ⟨_, rfl, _, rfl, _, rfl, _, _, rfl, rfl, _, _, rfl, rfl, _, rfl, _, _, rfl, rfl, ?_⟩
    refine ⟨(e : Int) + (h : Int) - 1, (h : Int) - 1, rfl, by omega, by omega, by omega, by omega, ?_⟩
    rw [comb_eq (a := e + h - 1) (b := h - 1) (by omega) (by omega) (by omega) (by omega)]
    refine ⟨_, _, rfl, rfl, .inl hn, ?_⟩
    have e1 : ((n * bco h none e : Nat) : Int) = (n : Int) * ((chN (e + h - 1) (h - 1) : Nat) : Int) := Int.natCast_mul _ _
    rw [e1] at q
    exact q
  | some b =>
    have hb := hk b rfl
    refine ⟨_, rfl, false, rfl, iteF ?_⟩
    refine ⟨_, rfl, _, rfl, _, _, rfl, rfl, _, rfl, _, _, rfl, rfl, ?_⟩
    refine ⟨_, _, _, _, rfl, min3_nu _ _ _, _, _, rfl, rfl, ?_⟩
    generalize hT : min (min b (h + 1)) (e + 1) - 1 = t
    have eT : min (min (b : Int) ((h : Int) + 1)) ((e : Int) + 1) - 1 = (t : Int) := by omega
    have t1 : t ≤ 11 := by omega
    have t2 : t ≤ h := by omega
    show gName 4 (V.int (min (min (b : Int) ((h : Int) + 1)) ((e : Int) + 1) - 1)) _ H _
    rw [eT]
    refine ⟨_, rfl, _, rfl, 1, (t : Int), rfl, rfl, ⟨by omega, by omega, by decide⟩, _, _, rfl, rfl, .inl hn, ?_⟩
    rw [shl_nat]
    refine ⟨_, rfl, _, rfl, (h : Int), (t : Int), rfl, by omega, by omega, by omega, by omega, ?_⟩
    rw [comb_eq (a := h) (b := t) rfl rfl (by omega) t2]
    have p1 : n * 2 ^ t < 2 ^ 32 := by
      have a1 : 2 ^ t ≤ 2 ^ 11 := Nat.pow_le_pow_right (by decide) t1
      have a2 : n * 2 ^ t ≤ n * 2 ^ 11 := Nat.mul_le_mul_left n a1
      omega
    have c1 := ch_lt (a := h) (b := t) (by omega) (by omega)
    have x1 : (n : Int) * ((2 ^ t : Nat) : Int) = ((n * 2 ^ t : Nat) : Int) := (Int.natCast_mul _ _).symm
    have p2 : n * 2 ^ t * chN h t < 2 ^ 42 := by
      have a1 : n * 2 ^ t * chN h t ≤ n * 2 ^ t * 1024 := Nat.mul_le_mul_left _ (by omega)
      omega
    have x2 : ((n * 2 ^ t : Nat) : Int) * ((chN h t : Nat) : Int) = ((n * 2 ^ t * chN h t : Nat) : Int) := (Int.natCast_mul _ _).symm
    generalize hA : n * 2 ^ t = A1 at p1 x1 p2 x2
    refine ⟨_, _, rfl, rfl, .inl ?_, ?_⟩
    · show -(2 ^ 64) < (n : Int) * ((2 ^ t : Nat) : Int) ∧ (n : Int) * ((2 ^ t : Nat) : Int) < 2 ^ 64
      rw [x1]
      omega
    refine ⟨_, rfl, _, rfl, _, _, rfl, rfl, _, rfl, (e : Int) + (t : Int), (t : Int), rfl, by omega, by omega, by omega, by omega, ?_⟩
    rw [comb_eq (a := e + t) (b := t) (by omega) rfl (by omega) (by omega)]
    generalize hB : A1 * chN h t = A2 at p2 x2
    refine ⟨_, _, rfl, rfl, .inl ?_, ?_⟩
    · show -(2 ^ 64) < (n : Int) * ((2 ^ t : Nat) : Int) * ((chN h t : Nat) : Int) ∧ (n : Int) * ((2 ^ t : Nat) : Int) * ((chN h t : Nat) : Int) < 2 ^ 64
      rw [x1, x2]
      omega
    have e1 : n * bco h (some b) e = A2 * chN (e + t) t := by
      have e2 : bco h (some b) e = 2 ^ t * chN h t * chN (e + t) t := by
        show 2 ^ _ * chN h _ * chN _ _ = _
        have e3 : e + min (min b (h + 1)) (e + 1) - 1 = e + t := by omega
        rw [hT, e3]
      rw [e2, ← hB, ← hA, ← Nat.mul_assoc, ← Nat.mul_assoc]
    rw [e1] at q
    show Q (.int ((n : Int) * ((2 ^ t : Nat) : Int) * ((chN h t : Nat) : Int) * ((chN (e + t) t : Nat) : Int))) H
    rw [x1, x2, ← Int.natCast_mul]
    exact q
/-! ### how the two are called -/
theorem u_binds {f : Addr} {fd : FuncData} (F : FunU K f fd) : ∃ ds, Vals [V.non] ds ∧ Binds K fd ps3 ds :=
  FunD.binds0 F 2 (fun z => nomatch z) rfl fun D doc pm an cdv ct us ks hu hk => match us, ks, hu, hk with
    | [_, _], [_], _, _ => ⟨_, _, _, _, _, _, rfl, rfl, rfl⟩
theorem b_binds {f : Addr} {fd : FuncData} (F : FunB K f fd) : ∃ ds, Vals [V.non] ds ∧ Binds K fd ps3 ds :=
  FunD.binds0 F 2 (fun z => nomatch z) rfl fun D doc pm an cdv ct us ks hu hk => match us, ks, hu, hk with
    | [_, _], [_], _, _ => ⟨_, _, _, _, _, _, rfl, rfl, rfl⟩
theorem u_kbinds {f : Addr} {fd : FuncData} (F : FunU K f fd) : ∃ mv : List Value, KBn K fd ps3 2 ["branching"] (fun us ws => us ++ ws) (fun vs zs => vs ++ zs) := by
  exact FunD.kbinds0 F 2 ["branching"] [] (fun us _ ws => us ++ ws) (fun z => nomatch z) (fun _ h => nomatch h) (fun a _ c => a.append c)
    fun D doc pm an cdv ct us mv ws hu hm hw => match us, mv, ws, hu, hm, hw with
      | [_, _], [], [_], _, _, _ => rfl
theorem b_kbinds {f : Addr} {fd : FuncData} (F : FunB K f fd) : ∃ mv : List Value, KBn K fd ps3 2 ["branching"] (fun us ws => us ++ ws) (fun vs zs => vs ++ zs) := by
  exact FunD.kbinds0 F 2 ["branching"] [] (fun us _ ws => us ++ ws) (fun z => nomatch z) (fun _ h => nomatch h) (fun a _ c => a.append c)
    fun D doc pm an cdv ct us mv ws hu hm hw => match us, mv, ws, hu, hm, hw with
      | [_, _], [], [_], _, _, _ => rfl
end
end K11
set_option Elab.async false
set_option linter.all false
set_option maxRecDepth 100000
set_option maxHeartbeats 4000000
namespace K11
open PySem PySem.Spec PyProof.Rows L2
/-! ### the law's readers: _law_whole, _law_cell, _law_digits -/
/-- drawn digits: each one below its size -/
def Dg : List Int → List Int → Prop
  | [], [] => True
  | d :: ds, s :: ss => (0 ≤ d ∧ d < s) ∧ Dg ds ss
  | _, _ => False
theorem Dg.len : ∀ {ds ss : List Int}, Dg ds ss → ds.length = ss.length
  | [], [], _ => rfl
  | _ :: _, _ :: _, h => congrArg Nat.succ (Dg.len h.2)
  | [], _ :: _, h => h.elim
  | _ :: _, [], h => h.elim
theorem Dg.snoc : ∀ {ds ss : List Int} {d s : Int}, Dg ds ss → 0 ≤ d → d < s → Dg (ds ++ [d]) (ss ++ [s])
  | [], [], _, _, _, a, b => ⟨⟨a, b⟩, True.intro⟩
  | _ :: _, _ :: _, _, _, h, a, b => ⟨h.1, Dg.snoc h.2 a b⟩
  | [], _ :: _, _, _, h, _, _ => h.elim
  | _ :: _, [], _, _, h, _, _ => h.elim
theorem Dg.cons {ds ss : List Int} {s : Int} (h : Dg ds (s :: ss)) : ∃ d r, ds = d :: r ∧ (0 ≤ d ∧ d < s) ∧ Dg r ss := by
  cases ds with
  | nil => exact h.elim
  | cons d r => exact ⟨d, r, rfl, h.1, h.2⟩
theorem Dg.nil {ds : List Int} (h : Dg ds []) : ds = [] := by
  cases ds with
  | nil => rfl
  | cons d r => exact h.elim
theorem take_snoc {l : List Int} {i : Nat} {s : Int} (h : l[i]? = some s) : l.take (i + 1) = l.take i ++ [s] := by
  rw [List.take_add_one, h]
  rfl
theorem map_at {l : List Int} {i : Nat} {x : V} (h : (l.map V.int)[i]? = some x) : ∃ s, l[i]? = some s ∧ x = .int s := by
  rw [List.getElem?_map] at h
  obtain ⟨s, hs, rfl⟩ := Option.map_eq_some_iff.mp h
  exact ⟨s, hs, rfl⟩
section
variable {P : Program} {w : World} {K : PySem.W.Frag} {mg : Str → Option Value} {base : Heap}
theorem scWhole : FnScope ["value"] ["value"] (defScope sWhole) := ⟨rfl, rfl, rfl, by decide +kernel, rfl, by decide +kernel, by decide +kernel⟩
theorem scCell : FnScope ["script", "k", "seed", "cell"] ["script", "k"] (defScope sCell) := ⟨rfl, rfl, rfl, by decide +kernel, rfl, by decide +kernel, by decide +kernel⟩
theorem scDigits : FnScope ["cell", "sizes", "row", "rest", "size", "seed", "k", "twice"] ["cell", "sizes"] (defScope sDigits) := ⟨rfl, rfl, rfl, by decide +kernel, rfl, by decide +kernel, by decide +kernel⟩
/-- of an int -/
def spWhole : Sp := fun vs H Q _ => ∃ i : Int, vs = [.int i] ∧ Q (.bl true) H
theorem ok_whole {f : Addr} {fd : FuncData} (F : Fun K "_law_whole" "_law_whole" sWhole f fd) (mI : mg "isinstance" = none) (mi : mg "int" = none) (mb : mg "bool" = none) :
    FnOk P w K mg base CX0 1 f fd ["value"] spWhole := by
  refine F.ok scWhole (fun vs H Q E h => ?_) (fun cdv A outer s H vs Q E hr h => ?_)
  · obtain ⟨i, rfl, _⟩ := h
    rfl
  obtain ⟨i, rfl, q⟩ := h
  refine ⟨_, pss_one (ps_ret (pe_and (pe_callB call_isi (by rfl) mI boot_isinstance (pa_cons (pv 0) (pa_cons (pe_bltn (v := .ty "int") (by rfl) mi PyProof.Rows.boot_int rfl) pa_nil)))
    (pe_one (pe_not (pe_callB call_isi (by rfl) mI boot_isinstance (pa_cons (pv 0) (pa_cons (pe_bltn (v := .ty "bool") (by rfl) mb PyProof.Rows.boot_bool rfl) pa_nil))))))), ?_⟩
  refine ⟨_, rfl, _, _, _, _, true, rfl, .ty "int", .base (.int i), kit_ty (by decide +kernel), true, rfl, ?_⟩
  refine iteT ⟨_, rfl, _, _, _, _, false, rfl, .ty "bool", .base (.int i), kit_ty (by decide +kernel), false, rfl, q⟩
/-- some int; the heap as it was -/
def spCell (K : PySem.W.Frag) : Sp := fun vs H Q _ => ∃ (a : Addr) (ns : List Int) (k : Nat), vs = [.ref a, .int (k : Int)] ∧ SqL K H a (ns.map V.int) ∧ ns.length ≤ 63 ∧ k ≤ 1000 ∧ ∀ z : Int, Q (.int z) H
theorem ok_cell {f : Addr} {fd : FuncData} (F : Fun K "_law_cell" "_law_cell" sCell f fd) (ml : mg "len" = none) (mi : mg "int" = none) :
    FnOk P w K mg base CX0 1 f fd ["script", "k"] (spCell K) := by
  refine F.ok scCell (fun vs H Q E h => ?_) (fun cdv A outer s H vs Q E hr h => ?_)
  · obtain ⟨a, ns, k, rfl, _⟩ := h
    rfl
  obtain ⟨a, ns, k, rfl, hS, hl, hk, q⟩ := h
  have nd := scCell.nd
  refine ⟨_, pss_cons (ps_if (pt_cmpR op_lt (pv 1) (pe_callB call_len_seq (by rfl) ml PySem.boot_len (pa_cons (pv 0) pa_nil)) (nomark _)) (pss_one (ps_ret (pe_ix ix_list (pv 0) (pv 1) (fun _ _ => rfl)))) pss_nil)
    (pss_cons (ps_set (i := 2) nd rfl (.inl rfl) pe_int)
    (pss_cons (ps_for PassesOwn.never rfl (pi_list (pv 0)) (pg_name (i := 3) nd rfl (.inl rfl))
      (pss_one (ps_set (i := 2) nd rfl (.inl rfl) (pe_op op_mod (pe_callTy call_int1 (by rfl) mi PyProof.Rows.boot_int (pa_cons (pe_op op_add (pe_op op_mul (pv 2) pe_int) (pe_op op_mod (pe_callTy call_int1 (by rfl) mi PyProof.Rows.boot_int (pa_cons (pv 3) pa_nil)) pe_int)) pa_nil)) pe_int))))
    (pss_one (ps_ret (pe_op op_mod (pe_callTy call_int1 (by rfl) mi PyProof.Rows.boot_int (pa_cons (pe_op op_mul (pe_op op_mul (pe_op op_add (pv 2) pe_int) (pe_op op_add (pv 1) pe_int)) pe_int) pa_nil)) pe_int))))), ?_⟩
  refine ⟨_, rfl, _, rfl, a, _, rfl, .inl hS, _, _, rfl, rfl, _, rfl, ite2 (fun c => ?_) (fun c => ?_)⟩
  · have c' := of_decide_eq_true c
    rw [List.length_map] at c'
    have hk' : k < ns.length := by omega
    have g : (ns.map V.int)[k]? = some (.int ns[k]) := by rw [List.getElem?_map, List.getElem?_eq_getElem hk']; rfl
    exact ⟨_, rfl, _, rfl, a, _, _, _, rfl, rfl, hS, atI_nat g, q _⟩
  · refine ⟨_, rfl, a, rfl, ⟨_, hS⟩, for_list (xs := ns.map V.int) (fun i σ H' => H' = H ∧ ∃ (z : Int) (y : Option V), σ = [some (.ref a), some (.int (k : Int)), some (.int z), y]) ⟨rfl, 17, Option.none, rfl⟩ (fun i σ H' _ z => by rw [z.1]; exact hS) ?_ ?_⟩
    · rintro i x σ H' hx ⟨rfl, z, y, rfl⟩
      obtain ⟨v, hv, rfl⟩ := map_at hx
      refine ⟨_, rfl, _, _, rfl, rfl, .inr ⟨by decide, by decide⟩, _, rfl, .inl ⟨_, rfl, _, _, rfl, rfl, (by show (0 : Int) < 1000003; decide), _, _, rfl, rfl, .inl ⟨_, rfl, _, _, rfl, rfl, (by show (0 : Int) < 1000003; decide), ?_⟩⟩⟩
      exact ⟨rfl, _, _, rfl⟩
    · rintro σ H' ⟨rfl, z, y, rfl⟩
      refine ⟨_, rfl, _, _, rfl, rfl, _, rfl, _, _, rfl, rfl, _, _, rfl, rfl, .inr ⟨by omega, by omega⟩, _, _, rfl, rfl, .inr ⟨by decide, by decide⟩, .inl ⟨_, rfl, _, _, rfl, rfl, (by show (0 : Int) < 2147483647; decide), ?_⟩⟩
      exact q _
/-- a new list of digits -/
def spDigits (K : PySem.W.Frag) : Sp := fun vs H Q _ => ∃ (c : Int) (l : Addr) (ss : List Int), vs = [.int c, .ref l] ∧ SqL K H l (ss.map V.int) ∧ ss.length ≤ 1000 ∧ (∀ s ∈ ss, 0 < s ∧ s < 1073741824) ∧
  ∀ p ds H', Same H H' → H' p = some (.lst (ds.map V.int)) → Dg ds ss → Q (.ref p) H'
theorem ok_digits {f : Addr} {fd : FuncData} (F : Fun K "_law_digits" "_law_digits" sDigits f fd) (ml : mg "len" = none) (mi : mg "int" = none) (mr : mg "range" = none) :
    FnOk P w K mg base CX0 1 f fd ["cell", "sizes"] (spDigits K) := by
  refine F.ok scDigits (fun vs H Q E h => ?_) (fun cdv A outer s H vs Q E hr h => ?_)
  · obtain ⟨c, l, ss, rfl, _⟩ := h
    rfl
  obtain ⟨c, l, ss, rfl, hS, hlen, hpos, q⟩ := h
  have nd := scDigits.nd
  refine ⟨_, pss_cons (ps_set (i := 2) nd rfl (.inl rfl) (pe_lst pa_nil))
    (pss_cons (ps_set (i := 3) nd rfl (.inl rfl) (pe_callTy call_int1 (by rfl) mi PyProof.Rows.boot_int (pa_cons (pv 0) pa_nil)))
    (pss_cons (ps_if (pt_cmpR op_ge (pv 3) (pe_op op_pow pe_int pe_int) (nomark _))
      (pss_cons (ps_set (i := 3) nd rfl (.inl rfl) (pe_op op_sub (pv 3) (pe_op op_pow pe_int pe_int)))
        (pss_cons (ps_for PassesOwn.never rfl (pi_list (pv 1)) (pg_name (i := 4) nd rfl (.inl rfl))
          (pss_cons (ps_expr (pe_bm PySem.F.plainAttrs_list PySem.F.slot_list_append PySem.F.type_list_append mt_append (pv 2) (pa_cons (pe_op op_mod (pe_callTy call_int1 (by rfl) mi PyProof.Rows.boot_int (pa_cons (pv 3) pa_nil)) (pv 4)) pa_nil)))
          (pss_one (ps_set (i := 3) nd rfl (.inl rfl) (pe_op op_fdiv (pe_callTy call_int1 (by rfl) mi PyProof.Rows.boot_int (pa_cons (pv 3) pa_nil)) (pv 4))))))
        (pss_one (ps_ret (pv 2))))) pss_nil)
    (pss_cons (ps_set (i := 5) nd rfl (.inl rfl) (pe_op op_mod (pe_callTy call_int1 (by rfl) mi PyProof.Rows.boot_int (pa_cons (pv 3) pa_nil)) pe_int))
    (pss_cons (ps_for PassesOwn.never rfl (pi_range1 rfl mr (pa_cons (pe_callB call_len_seq (by rfl) ml PySem.boot_len (pa_cons (pv 1) pa_nil)) pa_nil)) (pg_name (i := 6) nd rfl (.inl rfl))
      (pss_cons (ps_set (i := 5) nd rfl (.inl rfl) (pe_op op_mod (pe_callTy call_int1 (by rfl) mi PyProof.Rows.boot_int (pa_cons (pe_op op_add (pe_op op_add (pe_op op_mul (pv 5) pe_int) (pe_op op_mul pe_int (pv 6))) pe_int) pa_nil)) pe_int))
      (pss_cons (ps_set (i := 7) nd rfl (.inl rfl) (pe_op op_mod (pe_callTy call_int1 (by rfl) mi PyProof.Rows.boot_int (pa_cons (pe_op op_mul (pv 5) (pe_op op_add (pe_op op_fdiv (pv 5) pe_int) pe_int)) pa_nil)) pe_int))
      (pss_one (ps_expr (pe_bm PySem.F.plainAttrs_list PySem.F.slot_list_append PySem.F.type_list_append mt_append (pv 2) (pa_cons (pe_op op_mod (pe_op op_fdiv (pv 7) pe_int) (pe_ix ix_list (pv 1) (pv 6) (fun _ _ => rfl))) pa_nil)))))))
    (pss_one (ps_ret (pv 2))))))), ?_⟩
  refine ⟨Nat.zero_le _, fun o no => ?_⟩
  have s1 : Same H (upd H o (.lst [])) := same_new no _
  refine ⟨_, rfl, .inl ⟨_, rfl, ?_⟩⟩
  refine ⟨_, rfl, _, _, rfl, rfl, ⟨by decide, by decide, by decide⟩, _, _, rfl, rfl, _, rfl, ite2 (fun _ => ?_) (fun _ => ?_)⟩
  · refine ⟨_, rfl, _, _, rfl, rfl, ⟨by decide, by decide, by decide⟩, _, _, rfl, rfl, ?_⟩
    refine ⟨_, rfl, l, rfl, ⟨_, s1.seq hS⟩, for_list (xs := ss.map V.int) (fun i σ H' => Same H H' ∧ ∃ (ds : List Int) (r : Int) (y : Option V), H' o = some (.lst (ds.map V.int)) ∧ Dg ds (ss.take i) ∧ σ = [some (.int c), some (.ref l), some (.ref o), some (.int r), y, Option.none, Option.none, Option.none])
      ⟨s1, [], _, Option.none, upd_same, True.intro, rfl⟩ (fun i σ H' _ z => z.1.seq hS) ?_ ?_⟩
    · rintro i x σ H' hx ⟨sm, ds, r, y, eo, hd, rfl⟩
      obtain ⟨v, hv, rfl⟩ := map_at hx
      have hv2 := hpos v (List.mem_of_getElem? hv)
      refine ⟨_, rfl, .inl ⟨rfl, _, SqL.of eo⟩, _, rfl, .inl ⟨_, rfl, _, rfl, _, _, rfl, rfl, hv2.1, o, _, _, rfl, rfl, eo, ?_, ?_⟩⟩
      · rw [List.length_map, hd.len, List.length_take]
        exact Nat.lt_of_le_of_lt (Nat.min_le_right _ _) (small1000 hlen)
      · refine ⟨_, rfl, .inl ⟨_, rfl, _, rfl, _, _, rfl, rfl, hv2, ?_⟩⟩
        refine ⟨fun b u e => ?_, ds ++ [r % v], _, _, ?_, ?_, rfl⟩
        · rw [upd_ne (ne_of_none e no)]
          exact sm _ _ e
        · rw [upd_same, List.map_append]
          rfl
        · rw [take_snoc hv]
          exact hd.snoc (Int.emod_nonneg _ (by omega)) (Int.emod_lt_of_pos _ hv2.1)
    · rintro σ H' ⟨sm, ds, r, y, eo, hd, rfl⟩
      rw [List.length_map, List.take_length] at hd
      exact ⟨_, rfl, q o ds H' sm eo hd⟩
  · refine ⟨_, rfl, .inl ⟨_, rfl, _, _, rfl, rfl, (by show (0 : Int) < 2147483629; decide), ?_⟩⟩
    refine ⟨_, rfl, l, _, rfl, .inl (s1.seq hS), _, rfl, (by rw [List.length_map]; omega), (by rw [List.length_map]; omega), ?_⟩
    have hn : (((ss.map V.int).length : Nat) : Int).toNat = ss.length := by rw [List.length_map]; rfl
    rw [hn]
    refine for_range (n := ss.length) (fun i σ H' => Same H H' ∧ ∃ (ds : List Int) (r z : Int) (y y' : Option V), H' o = some (.lst (ds.map V.int)) ∧ Dg ds (ss.take i) ∧ σ = [some (.int c), some (.ref l), some (.ref o), some (.int r), Option.none, some (.int z), y, y'])
      ⟨s1, [], _, _, Option.none, Option.none, upd_same, True.intro, rfl⟩ ?_ ?_
    · rintro i σ H' hi ⟨sm, ds, r, z, y, y', eo, hd, rfl⟩
      refine ⟨_, rfl, _, _, rfl, rfl, .inr ⟨by decide, by decide⟩, _, rfl, _, _, rfl, rfl, .inl ⟨by decide, by decide⟩, _, _, rfl, rfl, _, _, rfl, rfl, .inl ⟨_, rfl, _, _, rfl, rfl, (by show (0 : Int) < 2147483647; decide), ?_⟩⟩
      have b0 := Int.emod_nonneg (z * 48271 + 974711 * (0 + (i : Int)) + 12345) (show (2147483647 : Int) ≠ 0 by decide)
      have b1 := Int.emod_lt_of_pos (z * 48271 + 974711 * (0 + (i : Int)) + 12345) (show (0 : Int) < 2147483647 by decide)
      refine ⟨_, rfl, _, rfl, _, _, rfl, rfl, ⟨by decide, by decide⟩, _, _, rfl, rfl, _, _, rfl, rfl, .inl ⟨?_, ?_⟩, .inl ⟨_, rfl, _, _, rfl, rfl, (by show (0 : Int) < 2147483629; decide), ?_⟩⟩
      · exact Int.lt_of_lt_of_le (by decide) b0
      · exact Int.lt_trans b1 (by decide)
      have g : (ss.map V.int)[i]? = some (.int ss[i]) := by rw [List.getElem?_map, List.getElem?_eq_getElem hi]; rfl
      have hv2 := hpos ss[i] (List.getElem_mem hi)
      refine ⟨_, rfl, .inl ⟨rfl, _, SqL.of eo⟩, _, rfl, _, _, rfl, rfl, ⟨by decide, by decide⟩, _, rfl, _, rfl, l, _, _, _, rfl, rfl, sm.seq hS, ?_, _, _, rfl, rfl, hv2.1, o, _, _, rfl, rfl, eo, ?_, ?_⟩
      · rw [Int.zero_add]; exact atI_nat g
      · rw [List.length_map, hd.len, List.length_take]
        exact Nat.lt_of_le_of_lt (Nat.min_le_right _ _) (small1000 hlen)
      · refine ⟨fun b u e => ?_, ds ++ [((z * 48271 + 974711 * (0 + (i : Int)) + 12345) % 2147483647 * ((z * 48271 + 974711 * (0 + (i : Int)) + 12345) % 2147483647 / 65537 + 3)) % 2147483629 / 19 % ss[i]], _, _, _, _, ?_, ?_, rfl⟩
        · rw [upd_ne (ne_of_none e no)]
          exact sm _ _ e
        · rw [upd_same, List.map_append]
          rfl
        · rw [take_snoc (List.getElem?_eq_getElem hi)]
          exact hd.snoc (Int.emod_nonneg _ (by omega)) (Int.emod_lt_of_pos _ hv2.1)
    · rintro σ H' ⟨sm, ds, r, z, y, y', eo, hd, rfl⟩
      rw [List.take_length] at hd
      exact ⟨_, rfl, q o ds H' sm eo hd⟩
end
end K11
set_option Elab.async false
set_option linter.all false
set_option maxRecDepth 100000
set_option maxHeartbeats 4000000
namespace K11
open PySem PySem.Spec PyProof.Rows L2
/-! ### the law's sizes -/
theorem four_le : 4 ≤ sizeLine := by rw [sizeLine_eq]; decide
theorem keyT_V (t : Str) (m h : Nat) (k : Option Nat) : ((Leaf.text t :: key3 m h k).map lV) = .str t :: nums m h k := by
  rw [List.map_cons, key3_V]
  rfl
section
variable {P : Program} {w : World} {K : PySem.W.Frag} {mg : Str → Option Value} {base : Heap} {rs : List Nat}
theorem scFree : FnScope ["n", "h", "k", "power", "step"] ["n", "h", "k"] (defScope sFree) := ⟨rfl, rfl, rfl, by decide +kernel, rfl, by decide +kernel, by decide +kernel⟩
theorem scLRow : FnScope ["number", "h", "k", "table", "key", "many"] ["number", "h", "k", "table"] (defScope sLRow) := ⟨rfl, rfl, rfl, by decide +kernel, rfl, by decide +kernel, by decide +kernel⟩
theorem scLSize : FnScope ["n", "h", "k", "table", "key", "side"] ["n", "h", "k", "table"] (defScope sLSize) := ⟨rfl, rfl, rfl, by decide +kernel, rfl, by decide +kernel, by decide +kernel⟩
def spFree : Sp := fun vs H Q _ => ∃ (n h : Nat) (k : Option Nat), vs = nums n h k ∧ (∀ b, k = some b → b ≤ 12) ∧ Q (.bl (free n h k)) H
theorem ok_free {f : Addr} {fd : FuncData} (F : Fun K "_law_free" "_law_free" sFree f fd) (mr : mg "range" = none) : FnOk P w K mg base CX0 1 f fd ["n", "h", "k"] spFree := by
  refine F.ok scFree (fun vs H Q E h => ?_) (fun cdv A outer s H vs Q E hr h => ?_)
  · obtain ⟨n, h, k, rfl, _⟩ := h
    rfl
  obtain ⟨n, h, k, rfl, hk, q⟩ := h
  have nd := scFree.nd
  refine ⟨_, pss_cons (ps_if (PW.pt (pw_or (pt_cmp (pc_isN (pv 2))) (pw_or1 (pt_cmpR op_lt (pv 1) (pv 2) (nomark _))))) (pss_one (ps_ret pe_bl)) pss_nil)
    (pss_cons (ps_set (i := 3) nd rfl (.inl rfl) pe_int)
    (pss_cons (ps_for PassesOwn.never rfl (pi_range1 rfl mr (pa_cons (pv 2) pa_nil)) (pg_name (i := 4) nd rfl (.inl rfl)) (pss_one (ps_set (i := 3) nd rfl (.inl rfl) (pe_op op_mul pe_int (pv 3)))))
    (pss_one (ps_ret (pe_cmpR op_lt (pv 0) (pv 3) (nomark _)))))), ?_⟩
  cases k with
  | none => exact ⟨_, rfl, true, rfl, iteT (iteT q)⟩
  | some b =>
    have hb := hk b rfl
    refine ⟨_, rfl, false, rfl, iteF ⟨_, rfl, _, rfl, _, _, rfl, rfl, _, rfl, ite2 (fun c => ?_) (fun c => ?_)⟩⟩
    · have c' := of_decide_eq_true c
      have e : free n h (some b) = true := by
        show (decide (n < 2 ^ b) || decide (h < b)) = true
        rw [decide_eq_true (show h < b by omega), Bool.or_true]
      rw [e] at q
      exact q
    · have c' : ¬ (h : Int) < (b : Int) := fun z => c (decide_eq_true z)
      refine ⟨_, rfl, _, rfl, by omega, by omega, ?_⟩
      have e0 : (b : Int).toNat = b := rfl
      rw [e0]
      refine for_range (n := b) (fun i σ H' => H' = H ∧ ∃ y : Option V, σ = [some (.int (n : Int)), some (.int (h : Int)), some (.int (b : Int)), some (.int ((2 ^ i : Nat) : Int)), y]) ⟨rfl, Option.none, rfl⟩ ?_ ?_
      · rintro i σ H' hi ⟨rfl, y, rfl⟩
        refine ⟨_, rfl, _, _, rfl, rfl, .inl ⟨by decide, by decide⟩, rfl, some (.int (0 + (i : Int))), ?_⟩
        have e1 : (2 : Int) * ((2 ^ i : Nat) : Int) = ((2 ^ (i + 1) : Nat) : Int) := by rw [Nat.pow_succ]; omega
        rw [← e1]
        rfl
      · rintro σ H' ⟨rfl, y, rfl⟩
        refine ⟨_, rfl, _, rfl, _, _, rfl, rfl, ?_⟩
        have e : free n h (some b) = decide ((n : Int) < ((2 ^ b : Nat) : Int)) := by
          show (decide (n < 2 ^ b) || decide (h < b)) = _
          rw [decide_eq_false (show ¬ h < b by omega), Bool.or_false]
          by_cases d : n < 2 ^ b
          · rw [decide_eq_true d, decide_eq_true (Int.ofNat_lt.mpr d)]
          · rw [decide_eq_false d, decide_eq_false (fun z => d (Int.ofNat_lt.mp z))]
        rw [e] at q
        exact q
/-- what is asked of the law's row and tree, with c calls -/
structure LArg (rs : List Nat) (m h : Nat) (k : Option Nat) : Prop where
  hh : h ≤ 12
  kk : kOk k
  rch : ∃ n0 ∈ rs, Rch n0 (dk k) m
def spLRow (P : Program) (w : World) (rs : List Nat) (c : Nat) : Sp := fun vs H Q _ => ∃ (m h : Nat) (k : Option Nat) (a : Addr) (ks : List (List Leaf)), vs = [.int (m : Int), .int (h : Int), kv k, .ref a] ∧
  LArg rs m h k ∧ 2 * (bl m + h) + 4 ≤ c ∧ Tab P w (SL rs) H a ks ∧ ∀ H' ks', But a H H' → Tab P w (SL rs) H' a ks' → Q (.int (rowSum (usz h k) m : Nat)) H'
def spLSize (P : Program) (w : World) (rs : List Nat) (c : Nat) : Sp := fun vs H Q _ => ∃ (m h : Nat) (k : Option Nat) (a : Addr) (ks : List (List Leaf)), vs = [.int (m : Int), .int (h : Int), kv k, .ref a] ∧
  LArg rs m h k ∧ m ≠ 0 ∧ 2 * (bl m + h) + 3 ≤ c ∧ Tab P w (SL rs) H a ks ∧ ∀ H' ks', But a H H' → Tab P w (SL rs) H' a ks' → Q (.int (usz h k m : Nat)) H'
variable {fR fS fF : Addr} {dR dS dF : FuncData}
abbrev psR : List Str := ["number", "h", "k", "table"]
abbrev psS : List Str := ["n", "h", "k", "table"]
theorem ok_lrow {c : Nat} (hrs : ∀ n ∈ rs, n < 2 ^ 20) (h3 : rs.length ≤ 3) (F : Fun K "_law_row_size" "_law_row_size" sLRow fR dR)
    (GR : FnOk P w K mg base CX0 c fR dR psR (spLRow P w rs c)) (bR : Binds K dR psR []) (mR : mg "_law_row_size" = some (.ref fR))
    (GS : FnOk P w K mg base CX0 c fS dS psS (spLSize P w rs c)) (bS : Binds K dS psS []) (kS : PySem.W.keepIn K (.ref fS) = true) (mS : mg "_law_size" = some (.ref fS)) :
    FnOk P w K mg base CX0 (c + 1) fR dR psR (spLRow P w rs (c + 1)) := by
  refine F.ok scLRow (fun vs H Q E h => ?_) (fun cdv A outer s H vs Q E hr h => ?_)
  · obtain ⟨m, h, k, a, ks, rfl, _⟩ := h
    rfl
  obtain ⟨m, h, k, a, ks, rfl, x, lev, T, q⟩ := h
  have nd := scLRow.nd
  have hu := hu_of hr
  have kR := F.kp
  refine ⟨_, pss_cons (ps_if (pt_cmpR op_eq (pv 0) pe_int (nomark _)) (pss_one (ps_ret pe_int)) pss_nil)
    (pss_cons (ps_set (i := 4) nd rfl (.inl rfl) (pe_tup (pa_cons pe_str (pa_cons (pv 0) (pa_cons (pv 1) (pa_cons (pv 2) pa_nil))))))
    (pss_cons (ps_if (pt_cmp (pc_tnotin hu (pv 4) (pv 3)))
      (pss_cons (ps_set (i := 5) nd rfl (.inl rfl) (pe_op op_add
          (pe_call GR hr (by rfl) mR kR bR .nil pass0 (pa_cons (pe_op op_fdiv (pv 0) pe_int) (pa_cons (pv 1) (pa_cons (pv 2) (pa_cons (pv 3) pa_nil)))))
          (pe_call GR hr (by rfl) mR kR bR .nil pass0 (pa_cons (pe_op op_sub (pe_op op_fdiv (pe_op op_add (pv 0) pe_int) pe_int) pe_int) (pa_cons (pv 1) (pa_cons (pv 2) (pa_cons (pv 3) pa_nil)))))))
        (pss_one (ps_tput hu (pv 3) (pv 4) (pe_op op_add (pv 5) (pe_call GS hr (by rfl) mS kS bS .nil pass0 (pa_cons (pv 0) (pa_cons (pv 1) (pa_cons (pv 2) (pa_cons (pv 3) pa_nil)))))) rfl))) pss_nil)
    (pss_one (ps_ret (pe_tget hu (pv 3) (pv 4) (fun _ _ => rfl)))))), ?_⟩
  refine ⟨_, rfl, rfl, _, rfl, ite2 (fun z => ?_) (fun z => ?_)⟩
  · have z' : (m : Int) = 0 := V.int.inj (of_decide_eq_true z)
    have z2 : m = 0 := by omega
    subst z2
    have r := q H ks (.refl a H) T
    rw [rowSum_zero] at r
    exact r
  have z' : ¬ (m : Int) = 0 := fun y => z (decide_eq_true (congrArg V.int y))
  have zm : m ≠ 0 := by omega
  refine ⟨_, rfl, _, rfl, _, rfl, four_le, fun p hp => ?_⟩
  have s1 : Same H (upd H p (.tup [.str tRow, .int (m : Int), .int (h : Int), kv k])) := same_new hp _
  have kp : upd H p (.tup [.str tRow, .int (m : Int), .int (h : Int), kv k]) p = some (.tup ((Leaf.text tRow :: key3 m h k).map lV)) := by rw [keyT_V]; exact upd_same
  have T1 := T.keep s1
  show tSeq _ _ _ _ (upd H p (.tup [.str tRow, .int (m : Int), .int (h : Int), kv k]))
  generalize upd H p (.tup [.str tRow, .int (m : Int), .int (h : Int), kv k]) = H1 at s1 kp T1
  have d2 := dk_two x.kk
  obtain ⟨n0, hn0, rch⟩ := x.rch
  have fin : ∀ H2 ks2 (σ : L2.St), But a H1 H2 → Tab P w (SL rs) H2 a ks2 → (Leaf.text tRow :: key3 m h k) ∈ ks2 → σ[3]? = some (some (.ref a)) → σ[4]? = some (some (.ref p)) →
      tRet (tTGet P w (tVar 3) (tVar 4)) { nx := fun _ H' => Q .non H', rt := Q } σ H2 := by
    intro H2 ks2 σ u T2 hm e0 e1
    refine ⟨_, e0, _, e1, SL rs, a, p, ks2, _, rfl, rfl, T2, but_tup T1 u kp, hm, fun v sv => ?_⟩
    rw [SL_row sv]
    exact q H2 ks2 ((But.same s1).trans u) T2
  refine ⟨_, rfl, _, rfl, SL rs, a, p, ks, _, rfl, rfl, T1, kp, _, rfl, ?_⟩
  by_cases hm : (Leaf.text tRow :: key3 m h k) ∈ ks
  · rw [decide_eq_true hm]
    exact iteF (fin H1 ks _ (.refl a H1) T1 hm rfl rfl)
  · rw [decide_eq_false hm]
    refine iteT ?_
    have b1 := bl_half zm
    have b2 := bl_half' zm
    refine ⟨_, rfl, _, _, rfl, rfl, ⟨by decide, by decide⟩, _, rfl, _, rfl, _, rfl, m / 2, h, k, a, ks, rfl, ⟨x.hh, x.kk, n0, hn0, rch.half d2⟩, by omega, T1, fun H2 ks2 u2 T2 => ?_⟩
    have e1 : ((m : Int) + 1) / 2 - 1 = (((m + 1) / 2 - 1 : Nat) : Int) := by omega
    refine ⟨_, rfl, _, _, rfl, rfl, _, _, rfl, rfl, ⟨by decide, by decide⟩, _, _, rfl, rfl, _, rfl, _, rfl, _, rfl, (m + 1) / 2 - 1, h, k, a, ks2, ?_, ⟨x.hh, x.kk, n0, hn0, rch.half' d2⟩, by omega, T2, fun H3 ks3 u3 T3 => ⟨_, _, rfl, rfl, ?_⟩⟩
    · exact congrArg (fun z => [V.int z, V.int (h : Int), kv k, V.ref a]) e1
    refine ⟨_, rfl, _, rfl, _, rfl, _, rfl, _, rfl, m, h, k, a, ks3, rfl, x, zm, by omega, T3, fun H4 ks4 u4 T4 => ⟨_, _, rfl, rfl, ?_⟩⟩
    have e2 : (rowSum (usz h k) (m / 2) : Int) + (rowSum (usz h k) ((m + 1) / 2 - 1) : Nat) + (usz h k m : Nat) = ((rowSum (usz h k) m : Nat) : Int) := by
      have := rowSum_pos (usz h k) zm
      omega
    have u : But a H1 H4 := u2.trans (u3.trans u4)
    refine ⟨_, rfl, _, rfl, SL rs, a, p, ks4, _, rfl, rfl, T4, but_tup T1 u kp, ?_, SL_len hrs h3 T4, fun H5 u5 T5 => ?_⟩
    · exact ⟨tRow, m, h, k, rfl, zm, x.hh, x.kk, ⟨n0, hn0, rch⟩, .inl ⟨rfl, congrArg V.int e2⟩⟩
    · refine fin H5 _ _ (u.trans u5) T5 ?_ rfl rfl
      by_cases hm2 : (Leaf.text tRow :: key3 m h k) ∈ ks4
      · rw [if_pos hm2]; exact hm2
      · rw [if_neg hm2]; exact List.mem_append_right _ (List.mem_cons_self ..)
theorem ok_lsize {c : Nat} (hrs : ∀ n ∈ rs, n < 2 ^ 20) (h3 : rs.length ≤ 3) (F : Fun K "_law_size" "_law_size" sLSize fS dS)
    (GF : FnOk P w K mg base CX0 1 fF dF ["n", "h", "k"] spFree) (bF : Binds K dF ["n", "h", "k"] []) (kF : PySem.W.keepIn K (.ref fF) = true) (mF : mg "_law_free" = some (.ref fF))
    (GR : FnOk P w K mg base CX0 c fR dR psR (spLRow P w rs c)) (bR : Binds K dR psR []) (kR : PySem.W.keepIn K (.ref fR) = true) (mR : mg "_law_row_size" = some (.ref fR))
    (GS : FnOk P w K mg base CX0 c fS dS psS (spLSize P w rs c)) (bS : Binds K dS psS []) (mS : mg "_law_size" = some (.ref fS)) :
    FnOk P w K mg base CX0 (c + 1) fS dS psS (spLSize P w rs (c + 1)) := by
  refine F.ok scLSize (fun vs H Q E h => ?_) (fun cdv A outer s H vs Q E hr h => ?_)
  · obtain ⟨m, h, k, a, ks, rfl, _⟩ := h
    rfl
  obtain ⟨m, h, k, a, ks, rfl, x, zm, lev, T, q⟩ := h
  have nd := scLSize.nd
  have hu := hu_of hr
  have kS := F.kp
  have hc : 1 ≤ c := by omega
  refine ⟨_, pss_cons (ps_if (pt_cmpR op_eq (pv 1) pe_int (nomark _)) (pss_one (ps_ret pe_int)) pss_nil)
    (pss_cons (ps_set (i := 4) nd rfl (.inl rfl) (pe_tup (pa_cons pe_str (pa_cons (pv 0) (pa_cons (pv 1) (pa_cons (pv 2) pa_nil))))))
    (pss_cons (ps_if (pt_cmp (pc_tnotin hu (pv 4) (pv 3)))
      (pss_one (ps_if (pt_val (pe_call GF (hr.mono hc) (by rfl) mF kF bF .nil pass0 (pa_cons (pv 0) (pa_cons (pv 1) (pa_cons (pv 2) pa_nil)))))
        (pss_one (ps_tput hu (pv 3) (pv 4) (pe_call GR hr (by rfl) mR kR bR .nil pass0 (pa_cons (pv 0) (pa_cons (pe_op op_sub (pv 1) pe_int) (pa_cons pe_non (pa_cons (pv 3) pa_nil))))) rfl))
        (pss_one (ps_if (pt_cmpR op_eq (pv 2) pe_int (nomark _))
          (pss_one (ps_tput hu (pv 3) (pv 4) (pe_call GS hr (by rfl) mS kS bS .nil pass0 (pa_cons (pv 0) (pa_cons (pe_op op_sub (pv 1) pe_int) (pa_cons pe_int (pa_cons (pv 3) pa_nil))))) rfl))
          (pss_cons (ps_set (i := 5) nd rfl (.inl rfl) (pe_call GR hr (by rfl) mR kR bR .nil pass0 (pa_cons (pe_op op_sub (pv 0) pe_int) (pa_cons (pe_op op_sub (pv 1) pe_int) (pa_cons (pe_op op_sub (pv 2) pe_int) (pa_cons (pv 3) pa_nil))))))
            (pss_one (ps_tput hu (pv 3) (pv 4) (pe_op op_add (pe_op op_add (pv 5) (pe_call GS hr (by rfl) mS kS bS .nil pass0 (pa_cons (pv 0) (pa_cons (pe_op op_sub (pv 1) pe_int) (pa_cons (pv 2) (pa_cons (pv 3) pa_nil)))))) (pv 5)) rfl))))))) pss_nil)
    (pss_one (ps_ret (pe_tget hu (pv 3) (pv 4) (fun _ _ => rfl)))))), ?_⟩
  refine ⟨_, rfl, rfl, _, rfl, ite2 (fun z => ?_) (fun z => ?_)⟩
  · have z' : (h : Int) = 0 := V.int.inj (of_decide_eq_true z)
    have z2 : h = 0 := by omega
    subst z2
    have r := q H ks (.refl a H) T
    rw [usz_zero] at r
    exact r
  have z' : ¬ (h : Int) = 0 := fun y => z (decide_eq_true (congrArg V.int y))
  obtain ⟨g, rfl⟩ : ∃ g, h = g + 1 := ⟨h - 1, by omega⟩
  have eg : ((g + 1 : Nat) : Int) - 1 = (g : Int) := by omega
  refine ⟨_, rfl, _, rfl, _, rfl, four_le, fun p hp => ?_⟩
  have s1 : Same H (upd H p (.tup [.str tTree, .int (m : Int), .int ((g + 1 : Nat) : Int), kv k])) := same_new hp _
  have kp : upd H p (.tup [.str tTree, .int (m : Int), .int ((g + 1 : Nat) : Int), kv k]) p = some (.tup ((Leaf.text tTree :: key3 m (g + 1) k).map lV)) := by rw [keyT_V]; exact upd_same
  have T1 := T.keep s1
  show tSeq _ _ _ _ (upd H p (.tup [.str tTree, .int (m : Int), .int ((g + 1 : Nat) : Int), kv k]))
  generalize upd H p (.tup [.str tTree, .int (m : Int), .int ((g + 1 : Nat) : Int), kv k]) = H1 at s1 kp T1
  have d2 := dk_two x.kk
  have hh := x.hh
  have kx := x.kk
  obtain ⟨n0, hn0, rch⟩ := x.rch
  have fin : ∀ H2 ks2 (σ : L2.St), But a H1 H2 → Tab P w (SL rs) H2 a ks2 → (Leaf.text tTree :: key3 m (g + 1) k) ∈ ks2 → σ[3]? = some (some (.ref a)) → σ[4]? = some (some (.ref p)) →
      tRet (tTGet P w (tVar 3) (tVar 4)) { nx := fun _ H' => Q .non H', rt := Q } σ H2 := by
    intro H2 ks2 σ u T2 hm e0 e1
    refine ⟨_, e0, _, e1, SL rs, a, p, ks2, _, rfl, rfl, T2, but_tup T1 u kp, hm, fun v sv => ?_⟩
    rw [SL_tree sv]
    exact q H2 ks2 ((But.same s1).trans u) T2
  -- storing the right value and going on
  have put : ∀ H2 ks2 (σ : L2.St) (i : Int), But a H1 H2 → Tab P w (SL rs) H2 a ks2 → i = (usz (g + 1) k m : Nat) → σ[3]? = some (some (.ref a)) → σ[4]? = some (some (.ref p)) →
      tVar 3 σ H2 fun x' H3 => tVar 4 σ H3 fun y H4 => ∃ (S : List Leaf → V → Prop) (a' b : Addr) (ks3 : List (List Leaf)) (k' : List Leaf), x' = .ref a' ∧ y = .ref b ∧ Tab P w S H4 a' ks3 ∧ H4 b = some (.tup (k'.map lV)) ∧ S k' (.int i) ∧ ks3.length < sizeLine ∧
        ∀ H5, But a' H4 H5 → Tab P w S H5 a' (if k' ∈ ks3 then ks3 else ks3 ++ [k']) → tRet (tTGet P w (tVar 3) (tVar 4)) { nx := fun _ H' => Q .non H', rt := Q } σ H5 := by
    intro H2 ks2 σ i u T2 ei e0 e1
    refine ⟨_, e0, _, e1, SL rs, a, p, ks2, _, rfl, rfl, T2, but_tup T1 u kp, ?_, SL_len hrs h3 T2, fun H5 u5 T5 => ?_⟩
    · exact ⟨tTree, m, g + 1, k, rfl, zm, hh, kx, ⟨n0, hn0, rch⟩, .inr ⟨rfl, congrArg V.int ei⟩⟩
    · refine fin H5 _ σ (u.trans u5) T5 ?_ e0 e1
      by_cases hm2 : (Leaf.text tTree :: key3 m (g + 1) k) ∈ ks2
      · rw [if_pos hm2]; exact hm2
      · rw [if_neg hm2]; exact List.mem_append_right _ (List.mem_cons_self ..)
  refine ⟨_, rfl, _, rfl, SL rs, a, p, ks, _, rfl, rfl, T1, kp, _, rfl, ?_⟩
  by_cases hm : (Leaf.text tTree :: key3 m (g + 1) k) ∈ ks
  · rw [decide_eq_true hm]
    exact iteF (fin H1 ks _ (.refl a H1) T1 hm rfl rfl)
  rw [decide_eq_false hm]
  refine iteT ?_
  refine ⟨_, rfl, _, rfl, _, rfl, m, g + 1, k, rfl, (fun b e => (kx b e).2), free m (g + 1) k, rfl, ?_⟩
  cases hf : free m (g + 1) k with
  | true =>
    refine iteT ⟨_, rfl, _, rfl, _, _, rfl, rfl, _, rfl, m, g, none, a, ks, ?_, ⟨by omega, (fun b e => nomatch e), n0, hn0, rch.mono (dk_le kx)⟩, by omega, T1, fun H2 ks2 u2 T2 => ?_⟩
    · exact congrArg (fun z => [V.int (m : Int), V.int z, V.non, V.ref a]) eg
    · exact put H2 ks2 _ _ u2 T2 (by rw [usz_free hf]) rfl rfl
  | false =>
    refine iteF ?_
    cases k with
    | none => exact nomatch (show true = false from hf)
    | some b =>
      have hb := kx b rfl
      refine ⟨_, rfl, rfl, _, rfl, ite2 (fun c1 => ?_) (fun c1 => ?_)⟩
      · have c2 : (b : Int) = 1 := V.int.inj (of_decide_eq_true c1)
        have c3 : b = 1 := by omega
        subst c3
        refine ⟨_, rfl, _, rfl, _, _, rfl, rfl, _, rfl, m, g, some 1, a, ks, ?_, ⟨by omega, kx, n0, hn0, rch⟩, zm, by omega, T1, fun H2 ks2 u2 T2 => ?_⟩
        · exact congrArg (fun z => [V.int (m : Int), V.int z, V.int 1, V.ref a]) eg
        · exact put H2 ks2 _ _ u2 T2 (by rw [usz_one hf]) rfl rfl
      · have c2 : ¬ (b : Int) = 1 := fun y => c1 (decide_eq_true (congrArg V.int y))
        have c3 : b ≠ 1 := by omega
        have e1 : (m : Int) - 1 = ((m - 1 : Nat) : Int) := by omega
        have e2 : (b : Int) - 1 = ((b - 1 : Nat) : Int) := by omega
        have bm := bl_mono (show m - 1 ≤ m by omega)
        refine ⟨_, rfl, _, _, rfl, rfl, _, rfl, _, _, rfl, rfl, _, rfl, _, _, rfl, rfl, _, rfl, m - 1, g, some (b - 1), a, ks, ?_, ⟨by omega, (fun b' e => by cases e; omega), n0, hn0, ?_⟩, by omega, T1, fun H2 ks2 u2 T2 => ?_⟩
        · show [V.int ((m : Int) - 1), V.int (((g + 1 : Nat) : Int) - 1), V.int ((b : Int) - 1), V.ref a] = [V.int ((m - 1 : Nat) : Int), V.int (g : Int), V.int ((b - 1 : Nat) : Int), V.ref a]
          rw [e1, e2, eg]
        · exact rch.less.mono (by show 14 - b + 1 ≤ 14 - (b - 1); omega)
        refine ⟨_, rfl, _, rfl, _, rfl, _, _, rfl, rfl, _, rfl, _, rfl, m, g, some b, a, ks2, ?_, ⟨by omega, kx, n0, hn0, rch⟩, zm, by omega, T2, fun H3 ks3 u3 T3 => ⟨_, _, rfl, rfl, _, rfl, _, _, rfl, rfl, ?_⟩⟩
        · exact congrArg (fun z => [V.int (m : Int), V.int z, V.int (b : Int), V.ref a]) eg
        · refine put H3 ks3 _ _ (u2.trans u3) T3 ?_ rfl rfl
          rw [usz_heavy hf c3]
          omega
/-! ### by induction on the calls -/
theorem lsizes_all (hrs : ∀ n ∈ rs, n < 2 ^ 20) (h3 : rs.length ≤ 3) (FR : Fun K "_law_row_size" "_law_row_size" sLRow fR dR) (bR : Binds K dR psR []) (mR : mg "_law_row_size" = some (.ref fR))
    (FS : Fun K "_law_size" "_law_size" sLSize fS dS) (bS : Binds K dS psS []) (mS : mg "_law_size" = some (.ref fS))
    (GF : FnOk P w K mg base CX0 1 fF dF ["n", "h", "k"] spFree) (bF : Binds K dF ["n", "h", "k"] []) (kF : PySem.W.keepIn K (.ref fF) = true) (mF : mg "_law_free" = some (.ref fF)) :
    ∀ c : Nat, FnOk P w K mg base CX0 c fR dR psR (spLRow P w rs c) ∧ FnOk P w K mg base CX0 c fS dS psS (spLSize P w rs c)
  | 0 => by
    have noR : ∀ vs H Q E, ¬ spLRow P w rs 0 vs H Q E := fun vs H Q E h => by
      obtain ⟨m, h, k, a, ks, _, _, l, _⟩ := h
      omega
    have noS : ∀ vs H Q E, ¬ spLSize P w rs 0 vs H Q E := fun vs H Q E h => by
      obtain ⟨m, h, k, a, ks, _, _, _, l, _⟩ := h
      omega
    exact ⟨⟨fun vs H Q E h => absurd h (noR vs H Q E), fun A outer s H args us vs Q E _ _ _ _ h => absurd h (noR vs H Q E)⟩,
      ⟨fun vs H Q E h => absurd h (noS vs H Q E), fun A outer s H args us vs Q E _ _ _ _ h => absurd h (noS vs H Q E)⟩⟩
  | c + 1 => by
    have ih := lsizes_all hrs h3 FR bR mR FS bS mS GF bF kF mF c
    exact ⟨ok_lrow hrs h3 FR ih.1 bR mR ih.2 bS FS.kp mS, ok_lsize hrs h3 FS GF bF kF mF ih.1 bR FR.kp mR ih.2 bS mS⟩
end
end K11
set_option Elab.async false
set_option linter.all false
set_option maxRecDepth 100000
set_option maxHeartbeats 4000000
namespace K11
open PySem PySem.Spec PyProof.Rows L2
/-! ### what is drawn -/
theorem idx_mem {xs : List V} {d : Int} (h0 : 0 ≤ d) (h1 : d < (xs.length : Int)) : ∃ v, atI xs d = some v ∧ v ∈ xs := by
  obtain ⟨j, rfl⟩ := Int.eq_ofNat_of_zero_le h0
  have hj : j < xs.length := Int.ofNat_lt.mp h1
  exact ⟨xs[j], atI_nat (List.getElem?_eq_getElem hj), List.getElem_mem hj⟩
theorem small9 : 9 ≤ sizeLine := by rw [sizeLine_eq]; decide
theorem small7 : 7 ≤ sizeLine := by rw [sizeLine_eq]; decide
theorem small6 : 6 ≤ sizeLine := by rw [sizeLine_eq]; decide
theorem small5 : 5 ≤ sizeLine := by rw [sizeLine_eq]; decide
def drawn (n h : Nat) (k : Option Nat) (b : Bool) : List V := [.int (n : Int), .int (h : Int), kv k, .bl b]
section
variable {P : Program} {w : World} {K : PySem.W.Frag} {mg : Str → Option Value} {base : Heap}
theorem scParams : FnScope ["script", "at", "head", "n", "power", "step", "k"] ["script", "at"] (defScope sParams) := ⟨rfl, rfl, rfl, by decide +kernel, rfl, by decide +kernel, by decide +kernel⟩
theorem scUtmost : FnScope ["script", "at", "head", "k"] ["script", "at"] (defScope sUtmost) := ⟨rfl, rfl, rfl, by decide +kernel, rfl, by decide +kernel, by decide +kernel⟩
/-- parameters, as a new list -/
def spDrawn (K : PySem.W.Frag) : Sp := fun vs H Q _ => ∃ (a : Addr) (ns : List Int) (at' : Nat), vs = [.ref a, .int (at' : Int)] ∧ SqL K H a (ns.map V.int) ∧ ns.length ≤ 63 ∧ at' ≤ 1000 ∧
  ∀ p n h k b H', Same H H' → H' p = some (.lst (drawn n h k b)) → 1 ≤ n → n < 2 ^ 20 → h ≤ 12 → kOk k → Q (.ref p) H'
theorem ok_params {f fC fD : Addr} {fd dC dD : FuncData} (F : Fun K "_law_parameters" "_law_parameters" sParams f fd)
    (GC : FnOk P w K mg base CX0 1 fC dC ["script", "k"] (spCell K)) (bC : Binds K dC ["script", "k"] []) (kC : PySem.W.keepIn K (.ref fC) = true) (mC : mg "_law_cell" = some (.ref fC))
    (GD : FnOk P w K mg base CX0 1 fD dD ["cell", "sizes"] (spDigits K)) (bD : Binds K dD ["cell", "sizes"] []) (kD : PySem.W.keepIn K (.ref fD) = true) (mD : mg "_law_digits" = some (.ref fD))
    (mi : mg "int" = none) (mr : mg "range" = none) (mx : mg "max" = none) : FnOk P w K mg base CX0 2 f fd ["script", "at"] (spDrawn K) := by
  refine F.ok scParams (fun vs H Q E h => ?_) (fun cdv A outer s H vs Q E hr h => ?_)
  · obtain ⟨a, ns, k, rfl, _⟩ := h
    rfl
  obtain ⟨a, ns, at', rfl, hS, hl, hat, q⟩ := h
  have nd := scParams.nd
  refine ⟨_, pss_cons (ps_set (i := 2) nd rfl (.inl rfl) (pe_call GD hr (by rfl) mD kD bD .nil pass0 (pa_cons (pe_call GC hr (by rfl) mC kC bC .nil pass0 (pa_cons (pv 0) (pa_cons (pv 1) pa_nil)))
      (pa_cons (pe_lst (pa_cons pe_int (pa_cons pe_int (pa_cons pe_int (pa_cons pe_int (pa_cons pe_int (pa_cons pe_int (pa_cons pe_int (pa_cons pe_int (pa_cons pe_int pa_nil)))))))))) pa_nil))))
    (pss_cons (ps_set (i := 3) nd rfl (.inl rfl) (pe_op op_add pe_int (pe_op op_mod (pe_callTy call_int1 (by rfl) mi PyProof.Rows.boot_int (pa_cons (pe_ix ix_list (pv 2) pe_int (fun _ _ => rfl)) pa_nil))
      (pe_ix ix_list (pe_lst (pa_cons pe_int (pa_cons pe_int (pa_cons pe_int (pa_cons pe_int (pa_cons pe_int (pa_cons pe_int pa_nil))))))) (pe_ix ix_list (pv 2) pe_int (fun _ _ => rfl)) (fun _ _ => rfl)))))
    (C8.pss_cut (ps_if (PW.pt (pw_or (pt_cmpR op_eq (pe_ix ix_list (pv 2) pe_int (fun _ _ => rfl)) pe_int (nomark _)) (pw_or1 (pt_cmpR op_eq (pe_ix ix_list (pv 2) pe_int (fun _ _ => rfl)) pe_int (nomark _)))))
      (pss_cons (ps_set (i := 4) nd rfl (.inl rfl) pe_int)
      (pss_cons (ps_for PassesOwn.never rfl (pi_range1 rfl mr (pa_cons (pe_ix ix_list (pv 2) pe_int (fun _ _ => rfl)) pa_nil)) (pg_name (i := 5) nd rfl (.inl rfl)) (pss_one (ps_set (i := 4) nd rfl (.inl rfl) (pe_op op_mul pe_int (pv 4)))))
      (pss_one (ps_set (i := 3) nd rfl (.inl rfl) (pe_callB (call_max2 rfl) (by rfl) mx boot_max (pa_cons pe_int (pa_cons (pe_op op_sub (pe_op op_add (pv 4) (pe_ix ix_list (pv 2) pe_int (fun _ _ => rfl))) pe_int) pa_nil))))))) pss_nil)
    (pss_cons (ps_set (i := 6) nd rfl (.inl rfl) (pe_ix ix_list (pe_lst (pa_cons pe_non (pa_cons pe_non (pa_cons (pe_op op_add pe_int (pe_ix ix_list (pv 2) pe_int (fun _ _ => rfl))) (pa_cons (pe_op op_add pe_int (pe_ix ix_list (pv 2) pe_int (fun _ _ => rfl)))
      (pa_cons (pe_op op_add pe_int (pe_ix ix_list (pv 2) pe_int (fun _ _ => rfl))) pa_nil)))))) (pe_ix ix_list (pv 2) pe_int (fun _ _ => rfl)) (fun _ _ => rfl)))
    (pss_one (ps_ret (pe_lst (pa_cons (pv 3) (pa_cons (pe_ix ix_list (pv 2) pe_int (fun _ _ => rfl)) (pa_cons (pv 6) (pa_cons (pe_cmpR op_eq (pe_ix ix_list (pv 2) pe_int (fun _ _ => rfl)) pe_int (nomark _)) pa_nil)))))))))), ?_⟩
  refine ⟨_, rfl, _, rfl, a, ns, at', rfl, hS, hl, hat, fun z => ⟨small9, fun l hl' => ?_⟩⟩
  have s1 : Same H (upd H l (.lst (([6, 1000000, 13, 5, 12, 3, 2, 20, 3] : List Int).map V.int))) := same_new hl' _
  refine ⟨z, l, [6, 1000000, 13, 5, 12, 3, 2, 20, 3], rfl, SqL.of upd_same, by decide, by decide, fun p ds H1 s2 ep hd => ?_⟩
  obtain ⟨d0, r0, rfl, b0, hd⟩ := hd.cons
  obtain ⟨d1, r1, rfl, b1, hd⟩ := hd.cons
  obtain ⟨d2, r2, rfl, b2, hd⟩ := hd.cons
  obtain ⟨d3, r3, rfl, b3, hd⟩ := hd.cons
  obtain ⟨d4, r4, rfl, b4, hd⟩ := hd.cons
  obtain ⟨d5, r5, rfl, b5, hd⟩ := hd.cons
  obtain ⟨d6, r6, rfl, b6, hd⟩ := hd.cons
  obtain ⟨d7, r7, rfl, b7, hd⟩ := hd.cons
  obtain ⟨d8, r8, rfl, b8, hd⟩ := hd.cons
  cases hd.nil
  have hp : SqL K H1 p (([d0, d1, d2, d3, d4, d5, d6, d7, d8] : List Int).map V.int) := SqL.of ep
  have sH := s1.trans s2
  refine ⟨_, rfl, p, _, 1, .int d1, rfl, rfl, hp, atI_nat (j := 1) rfl, .inl ⟨_, rfl, small6, fun l2 hl2 => ?_⟩⟩
  have s3 := same_new hl2 (.lst (([12, 1000, 1, 1, 1000000, 1000000] : List Int).map V.int))
  obtain ⟨v, hv, mv⟩ := idx_mem (xs := ([12, 1000, 1, 1, 1000000, 1000000] : List Int).map V.int) b0.1 b0.2
  obtain ⟨s, hs, rfl⟩ := List.mem_map.mp mv
  have hs2 : 0 < s ∧ s ≤ 1000000 := by
    have : ∀ s ∈ ([12, 1000, 1, 1, 1000000, 1000000] : List Int), 0 < s ∧ s ≤ 1000000 := by decide
    exact this s hs
  refine ⟨_, rfl, p, _, 0, .int d0, rfl, rfl, s3.seq hp, atI_nat (j := 0) rfl, l2, _, d0, .int s, rfl, rfl, SqL.of upd_same, hv, _, _, rfl, rfl, hs2.1, _, _, rfl, rfl, ?_⟩
  have m0 := Int.emod_nonneg d1 (show s ≠ 0 by omega)
  have m1 := Int.emod_lt_of_pos d1 hs2.1
  have hp2 := s3.seq hp
  have sH2 := sH.trans s3
  show C8.tCut _ _ _ _ (upd H1 l2 (.lst (([12, 1000, 1, 1, 1000000, 1000000] : List Int).map V.int)))
  generalize upd H1 l2 (.lst (([12, 1000, 1, 1, 1000000, 1000000] : List Int).map V.int)) = H2 at hp2 sH2
  refine ⟨fun σ' H' => H' = H2 ∧ ∃ (n : Nat) (y4 y5 : Option V), 1 ≤ n ∧ n < 2 ^ 20 ∧ σ' = [some (.ref a), some (.int (at' : Int)), some (.ref p), some (.int (n : Int)), y4, y5, Option.none], ?_, ?_⟩
  · have pow : ∀ (σ0 : L2.St) (y : V), σ0 = [some (.ref a), some (.int (at' : Int)), some (.ref p), some y, Option.none, Option.none, Option.none] →
        tSeq (tAsg (tC (.int 1)) (gName 4)) (tSeq (tFor (iRng1 (tCons (tOp (rIxL K) (tVar 2) (tC (.int 7))) tNil)) (gName 5) (tAsg (tOp (rI CMul fun i j => .int (i * j)) (tC (.int 2)) (tVar 4)) (gName 4)))
          (tAsg (tCB (fun xs H Q => ∃ i j, xs = [.int i, .int j] ∧ Q (.int (if j > i then j else i)) H) (tCons (tC (.int 1)) (tCons (tOp (rI0 fun i j => .int (i - j)) (tOp (rI0 fun i j => .int (i + j)) (tVar 4) (tOp (rIxL K) (tVar 2) (tC (.int 8)))) (tC (.int 1))) tNil))) (gName 3)))
          { nx := fun σ' H' => H' = H2 ∧ ∃ (n : Nat) (y4 y5 : Option V), 1 ≤ n ∧ n < 2 ^ 20 ∧ σ' = [some (.ref a), some (.int (at' : Int)), some (.ref p), some (.int (n : Int)), y4, y5, Option.none], rt := Q } σ0 H2 := by
      rintro σ0 y rfl
      refine ⟨_, rfl, p, _, 7, .int d7, rfl, rfl, hp2, atI_nat (j := 7) rfl, d7, rfl, by omega, by omega, ?_⟩
      refine for_range (n := d7.toNat) (fun i σ H' => H' = H2 ∧ ∃ y5 : Option V, σ = [some (.ref a), some (.int (at' : Int)), some (.ref p), some y, some (.int ((2 ^ i : Nat) : Int)), y5, Option.none]) ⟨rfl, Option.none, rfl⟩ ?_ ?_
      · rintro i σ H' hi ⟨rfl, y5, rfl⟩
        refine ⟨_, rfl, _, _, rfl, rfl, .inl ⟨by decide, by decide⟩, rfl, some (.int (0 + (i : Int))), ?_⟩
        have e1 : (2 : Int) * ((2 ^ i : Nat) : Int) = ((2 ^ (i + 1) : Nat) : Int) := by rw [Nat.pow_succ]; omega
        rw [← e1]
        rfl
      · rintro σ H' ⟨rfl, y5, rfl⟩
        have hp7 : 2 ^ d7.toNat ≤ 2 ^ 19 := Nat.pow_le_pow_right (by decide) (by omega)
        have hp0 : 1 ≤ 2 ^ d7.toNat := Nat.one_le_two_pow
        refine ⟨_, rfl, _, rfl, p, _, 8, .int d8, rfl, rfl, hp2, atI_nat (j := 8) rfl, _, _, rfl, rfl, _, _, rfl, rfl, _, _, rfl, ?_⟩
        generalize hE : (if ((2 ^ d7.toNat : Nat) : Int) + d8 - 1 > 1 then ((2 ^ d7.toNat : Nat) : Int) + d8 - 1 else 1) = e
        have he : 1 ≤ e ∧ e < 2 ^ 20 := by
          rw [← hE]
          by_cases c : ((2 ^ d7.toNat : Nat) : Int) + d8 - 1 > 1
          · rw [if_pos c]; omega
          · rw [if_neg c]; omega
        refine ⟨rfl, e.toNat, some (.int ((2 ^ d7.toNat : Nat) : Int)), y5, by omega, by omega, ?_⟩
        have e3 : ((e.toNat : Nat) : Int) = e := Int.toNat_of_nonneg (by omega)
        rw [e3]
        rfl
    refine ⟨_, rfl, p, _, 0, .int d0, rfl, rfl, hp2, atI_nat (j := 0) rfl, rfl, _, rfl, ite2 (fun _ => iteT ?_) (fun _ => ?_)⟩
    · exact pow _ _ rfl
    refine ⟨_, rfl, p, _, 0, .int d0, rfl, rfl, hp2, atI_nat (j := 0) rfl, rfl, _, rfl, ite2 (fun _ => ?_) (fun _ => ?_)⟩
    · exact pow _ _ rfl
    · refine ⟨rfl, (1 + d1 % s).toNat, Option.none, Option.none, by omega, by omega, ?_⟩
      have e3 : (((1 + d1 % s).toNat : Nat) : Int) = 1 + d1 % s := Int.toNat_of_nonneg (by omega)
      rw [e3]
      rfl
  · rintro σ' H' ⟨rfl, n, y4, y5, h1, h2, rfl⟩
    refine ⟨_, rfl, p, _, 5, .int d5, rfl, rfl, hp2, atI_nat (j := 5) rfl, _, _, rfl, rfl, _, rfl, p, _, 5, .int d5, rfl, rfl, hp2, atI_nat (j := 5) rfl, _, _, rfl, rfl, _, rfl, p, _, 4, .int d4, rfl, rfl, hp2, atI_nat (j := 4) rfl, _, _, rfl, rfl, small5, fun l3 hl3 => ?_⟩
    have s4 := same_new hl3 (.lst [V.non, V.non, V.int (2 + d5), V.int (2 + d5), V.int (1 + d4)])
    obtain ⟨v, hv, mv⟩ := idx_mem (xs := [V.non, V.non, V.int (2 + d5), V.int (2 + d5), V.int (1 + d4)]) b3.1 b3.2
    obtain ⟨k, hk, rfl⟩ : ∃ k, kOk k ∧ v = kv k := by
      have some_ : ∀ z : Int, 1 ≤ z → z ≤ 12 → ∃ k, kOk k ∧ V.int z = kv k := fun z a b => ⟨some z.toNat, fun c e => by cases e; omega, by
        show V.int z = V.int ((z.toNat : Nat) : Int)
        rw [Int.toNat_of_nonneg (by omega)]⟩
      simp only [List.mem_cons, List.not_mem_nil, or_false] at mv
      rcases mv with rfl | rfl | rfl | rfl | rfl
      · exact ⟨none, fun b e => (nomatch e), rfl⟩
      · exact ⟨none, fun b e => (nomatch e), rfl⟩
      · exact some_ _ (by omega) (by omega)
      · exact some_ _ (by omega) (by omega)
      · exact some_ _ (by omega) (by omega)
    refine ⟨_, rfl, p, _, 3, .int d3, rfl, rfl, s4.seq hp2, atI_nat (j := 3) rfl, l3, _, d3, kv k, rfl, rfl, SqL.of upd_same, hv, ?_⟩
    refine ⟨_, rfl, _, rfl, p, _, 2, .int d2, rfl, rfl, s4.seq hp2, atI_nat (j := 2) rfl, _, rfl, _, rfl, p, _, 6, .int d6, rfl, rfl, s4.seq hp2, atI_nat (j := 6) rfl, rfl, four_le, fun r hr' => ?_⟩
    have s5 := same_new hr' (.lst [V.int (n : Int), V.int d2, kv k, V.bl (decide (V.int d6 = V.int 0))])
    have e2 : d2 = ((d2.toNat : Nat) : Int) := (Int.toNat_of_nonneg (by omega)).symm
    refine q r n d2.toNat k (decide (V.int d6 = V.int 0)) _ (sH2.trans (s4.trans s5)) ?_ h1 h2 (by omega) hk
    rw [upd_same]
    exact congrArg (fun z => some (HO.lst [V.int (n : Int), V.int z, kv k, V.bl (decide (V.int d6 = V.int 0))])) e2
theorem ok_utmost {f fC fD : Addr} {fd dC dD : FuncData} (F : Fun K "_law_utmost" "_law_utmost" sUtmost f fd)
    (GC : FnOk P w K mg base CX0 1 fC dC ["script", "k"] (spCell K)) (bC : Binds K dC ["script", "k"] []) (kC : PySem.W.keepIn K (.ref fC) = true) (mC : mg "_law_cell" = some (.ref fC))
    (GD : FnOk P w K mg base CX0 1 fD dD ["cell", "sizes"] (spDigits K)) (bD : Binds K dD ["cell", "sizes"] []) (kD : PySem.W.keepIn K (.ref fD) = true) (mD : mg "_law_digits" = some (.ref fD)) :
    FnOk P w K mg base CX0 2 f fd ["script", "at"] (spDrawn K) := by
  refine F.ok scUtmost (fun vs H Q E h => ?_) (fun cdv A outer s H vs Q E hr h => ?_)
  · obtain ⟨a, ns, k, rfl, _⟩ := h
    rfl
  obtain ⟨a, ns, at', rfl, hS, hl, hat, q⟩ := h
  have nd := scUtmost.nd
  refine ⟨_, pss_cons (ps_set (i := 2) nd rfl (.inl rfl) (pe_call GD hr (by rfl) mD kD bD .nil pass0 (pa_cons (pe_call GC hr (by rfl) mC kC bC .nil pass0 (pa_cons (pv 0) (pa_cons (pv 1) pa_nil)))
      (pa_cons (pe_lst (pa_cons pe_int (pa_cons pe_int (pa_cons pe_int (pa_cons pe_int (pa_cons pe_int (pa_cons pe_int (pa_cons pe_int pa_nil)))))))) pa_nil))))
    (pss_cons (ps_set (i := 3) nd rfl (.inl rfl) (pe_ix ix_list (pe_lst (pa_cons pe_non (pa_cons pe_int (pa_cons pe_int (pa_cons (pe_op op_add pe_int (pe_ix ix_list (pv 2) pe_int (fun _ _ => rfl)))
      (pa_cons (pe_op op_add pe_int (pe_ix ix_list (pv 2) pe_int (fun _ _ => rfl))) pa_nil)))))) (pe_ix ix_list (pv 2) pe_int (fun _ _ => rfl)) (fun _ _ => rfl)))
    (pss_one (ps_ret (pe_lst (pa_cons (pe_ix ix_list (pe_lst (pa_cons pe_int (pa_cons pe_int (pa_cons (pe_op op_sub pe_int (pe_ix ix_list (pv 2) pe_int (fun _ _ => rfl))) pa_nil)))) (pe_ix ix_list (pv 2) pe_int (fun _ _ => rfl)) (fun _ _ => rfl))
      (pa_cons (pe_ix ix_list (pe_lst (pa_cons pe_int (pa_cons pe_int (pa_cons (pe_ix ix_list (pv 2) pe_int (fun _ _ => rfl)) pa_nil)))) (pe_ix ix_list (pv 2) pe_int (fun _ _ => rfl)) (fun _ _ => rfl))
      (pa_cons (pv 3) (pa_cons (pe_cmpR op_eq (pe_ix ix_list (pv 2) pe_int (fun _ _ => rfl)) pe_int (nomark _)) pa_nil)))))))), ?_⟩
  refine ⟨_, rfl, _, rfl, a, ns, at', rfl, hS, hl, hat, fun z => ⟨small7, fun l hl' => ?_⟩⟩
  have s1 : Same H (upd H l (.lst (([3, 1000, 3, 13, 5, 12, 2] : List Int).map V.int))) := same_new hl' _
  refine ⟨z, l, [3, 1000, 3, 13, 5, 12, 2], rfl, SqL.of upd_same, by decide, by decide, fun p ds H1 s2 ep hd => ?_⟩
  obtain ⟨d0, r0, rfl, b0, hd⟩ := hd.cons
  obtain ⟨d1, r1, rfl, b1, hd⟩ := hd.cons
  obtain ⟨d2, r2, rfl, b2, hd⟩ := hd.cons
  obtain ⟨d3, r3, rfl, b3, hd⟩ := hd.cons
  obtain ⟨d4, r4, rfl, b4, hd⟩ := hd.cons
  obtain ⟨d5, r5, rfl, b5, hd⟩ := hd.cons
  obtain ⟨d6, r6, rfl, b6, hd⟩ := hd.cons
  cases hd.nil
  have hp : SqL K H1 p (([d0, d1, d2, d3, d4, d5, d6] : List Int).map V.int) := SqL.of ep
  have sH := s1.trans s2
  refine ⟨_, rfl, p, _, 5, .int d5, rfl, rfl, hp, atI_nat (j := 5) rfl, _, _, rfl, rfl, _, rfl, p, _, 5, .int d5, rfl, rfl, hp, atI_nat (j := 5) rfl, _, _, rfl, rfl, small5, fun l3 hl3 => ?_⟩
  have s4 := same_new hl3 (.lst [V.non, V.int 12, V.int 11, V.int (1 + d5), V.int (1 + d5)])
  obtain ⟨v, hv, mv⟩ := idx_mem (xs := [V.non, V.int 12, V.int 11, V.int (1 + d5), V.int (1 + d5)]) b4.1 b4.2
  obtain ⟨k, hk, rfl⟩ : ∃ k, kOk k ∧ v = kv k := by
    have some_ : ∀ z : Int, 1 ≤ z → z ≤ 12 → ∃ k, kOk k ∧ V.int z = kv k := fun z a b => ⟨some z.toNat, fun c e => by cases e; omega, by
      show V.int z = V.int ((z.toNat : Nat) : Int)
      rw [Int.toNat_of_nonneg (by omega)]⟩
    simp only [List.mem_cons, List.not_mem_nil, or_false] at mv
    rcases mv with rfl | rfl | rfl | rfl | rfl
    · exact ⟨none, fun b e => (nomatch e), rfl⟩
    · exact some_ _ (by omega) (by omega)
    · exact some_ _ (by omega) (by omega)
    · exact some_ _ (by omega) (by omega)
    · exact some_ _ (by omega) (by omega)
  have hp2 := s4.seq hp
  refine ⟨_, rfl, p, _, 4, .int d4, rfl, rfl, hp2, atI_nat (j := 4) rfl, l3, _, d4, kv k, rfl, rfl, SqL.of upd_same, hv, ?_⟩
  -- the numbers of leaves
  refine ⟨_, rfl, p, _, 1, .int d1, rfl, rfl, hp2, atI_nat (j := 1) rfl, _, _, rfl, rfl, three_le, fun l4 hl4 => ?_⟩
  have s5 := same_new hl4 (.lst [V.int 1000000, V.int 999999, V.int (1000000 - d1)])
  obtain ⟨v, hv, mv⟩ := idx_mem (xs := [V.int 1000000, V.int 999999, V.int (1000000 - d1)]) b0.1 b0.2
  obtain ⟨n, h1, h2, rfl⟩ : ∃ n : Nat, 1 ≤ n ∧ n < 2 ^ 20 ∧ v = V.int (n : Int) := by
    have some_ : ∀ z : Int, 1 ≤ z → z < 2 ^ 20 → ∃ n : Nat, 1 ≤ n ∧ n < 2 ^ 20 ∧ V.int z = V.int (n : Int) := fun z a b => ⟨z.toNat, by omega, by omega, by rw [Int.toNat_of_nonneg (by omega)]⟩
    simp only [List.mem_cons, List.not_mem_nil, or_false] at mv
    rcases mv with rfl | rfl | rfl
    · exact some_ _ (by omega) (by omega)
    · exact some_ _ (by omega) (by omega)
    · exact some_ _ (by omega) (by omega)
  have hp3 := s5.seq hp2
  refine ⟨_, rfl, p, _, 0, .int d0, rfl, rfl, hp3, atI_nat (j := 0) rfl, l4, _, d0, _, rfl, rfl, SqL.of upd_same, hv, ?_⟩
  -- the heights
  refine ⟨_, rfl, p, _, 3, .int d3, rfl, rfl, hp3, atI_nat (j := 3) rfl, three_le, fun l5 hl5 => ?_⟩
  have s6 := same_new hl5 (.lst [V.int 12, V.int 11, V.int d3])
  obtain ⟨v, hv, mv⟩ := idx_mem (xs := [V.int 12, V.int 11, V.int d3]) b2.1 b2.2
  obtain ⟨h, hh, rfl⟩ : ∃ h : Nat, h ≤ 12 ∧ v = V.int (h : Int) := by
    have some_ : ∀ z : Int, 0 ≤ z → z ≤ 12 → ∃ h : Nat, h ≤ 12 ∧ V.int z = V.int (h : Int) := fun z a b => ⟨z.toNat, by omega, by rw [Int.toNat_of_nonneg (by omega)]⟩
    simp only [List.mem_cons, List.not_mem_nil, or_false] at mv
    rcases mv with rfl | rfl | rfl
    · exact some_ _ (by omega) (by omega)
    · exact some_ _ (by omega) (by omega)
    · exact some_ _ (by omega) (by omega)
  have hp4 := s6.seq hp3
  refine ⟨_, rfl, p, _, 2, .int d2, rfl, rfl, hp4, atI_nat (j := 2) rfl, l5, _, d2, _, rfl, rfl, SqL.of upd_same, hv, ?_⟩
  refine ⟨_, rfl, _, rfl, p, _, 6, .int d6, rfl, rfl, hp4, atI_nat (j := 6) rfl, rfl, four_le, fun r hr' => ?_⟩
  have s7 := same_new hr' (.lst [V.int (n : Int), V.int (h : Int), kv k, V.bl (decide (V.int d6 = V.int 0))])
  exact q r n h k (decide (V.int d6 = V.int 0)) _ (sH.trans (s4.trans (s5.trans (s6.trans s7)))) upd_same h1 h2 hh hk
end
end K11
set_option Elab.async false
set_option linter.all false
set_option maxRecDepth 100000
set_option maxHeartbeats 4000000
namespace K11
open PySem PySem.Spec PyProof.Rows L2
/-! ### the law's binomials and bounds -/
def natV (n : Nat) : V := .int (n : Int)
theorem adj_take (l : List Nat) (i : Nat) (h : i < l.length - 1) : (adj l).take (i + 1) = (adj l).take i ++ [l.getD i 0 + l.getD (i + 1) 0] := by
  unfold adj
  have hl : ((List.range (l.length - 1)).map fun j => l.getD j 0 + l.getD (j + 1) 0)[i]? = some (l.getD i 0 + l.getD (i + 1) 0) := by
    rw [List.getElem?_map, List.getElem?_range h]
    rfl
  rw [List.take_add_one, hl]
  rfl
theorem adj_len (l : List Nat) : (adj l).length = l.length - 1 := by
  unfold adj
  rw [List.length_map, List.length_range]
theorem natV_at {l : List Nat} {i : Nat} (h : i < l.length) : (l.map natV)[i]? = some (natV (l.getD i 0)) := by
  rw [List.getElem?_map, List.getElem?_eq_getElem h, List.getD_eq_getElem?_getD, List.getElem?_eq_getElem h]
  rfl
section
variable {P : Program} {w : World} {K : PySem.W.Frag} {mg : Str → Option Value} {base : Heap}
abbrev nBinom : List Str := ["a", "b", "row", "step", "j"]
theorem scBinom : FnScope nBinom ["a", "b"] (defScope sBinom) := ⟨rfl, rfl, rfl, by decide +kernel, rfl, by decide +kernel, by decide +kernel⟩
theorem scLBound : FnScope ["n", "h", "k", "power", "e", "step", "b", "many"] ["n", "h", "k"] (defScope sLBound) := ⟨rfl, rfl, rfl, by decide +kernel, rfl, by decide +kernel, by decide +kernel⟩
def spBinom : Sp := fun vs H Q _ => ∃ a b : Nat, vs = [.int (a : Int), .int (b : Int)] ∧ a ≤ 100 ∧ b ≤ a ∧ ∀ H', Same H H' → Q (.int (chN a b : Nat)) H'
theorem ok_binom {f : Addr} {fd : FuncData} (F : Fun K "_law_binomial" "_law_binomial" sBinom f fd) (ml : mg "len" = none) (mr : mg "range" = none) : FnOk P w K mg base CX0 1 f fd ["a", "b"] spBinom := by
  refine F.ok scBinom (fun vs H Q E h => ?_) (fun cdv A outer s H vs Q E hr h => ?_)
  · obtain ⟨a, b, rfl, _⟩ := h
    rfl
  obtain ⟨a, b, rfl, ha, hb, q⟩ := h
  have nd := scBinom.nd
  refine ⟨_, pss_cons (ps_set (i := 2) nd rfl (.inr rfl) (pe_lst (pa_cons pe_int pa_nil)))
    (pss_cons (ps_for PassesOwn.never rfl (pi_range1 rfl mr (pa_cons (pv 0) pa_nil)) (pg_name (i := 3) nd rfl (.inl rfl))
      (pss_one (ps_set (i := 2) nd rfl (.inr rfl) (pe_op op_cat (pe_op op_cat (pe_lst (pa_cons pe_int pa_nil))
        (pe_lc (own := [("j", 4)]) (g := gName 4) (tt := tYes) rfl nd (pi_range1 rfl mr (pa_cons (pe_op op_sub (pe_callB call_len_seq (by rfl) ml PySem.boot_len (pa_cons (pv 2) pa_nil)) pe_int) pa_nil)) (blkOk_by (N := nBinom) (sc := defScope sBinom) (by decide +kernel))
          (fun _ _ _ _ _ => pg_name (i := 4) nd rfl (Or.inl rfl)) (fun _ _ _ _ _ => pts_nil)
          (fun _ _ _ _ _ => pe_op op_add (pe_ix (show IxR _ (rIxL K) from ix_list) (pv 2) (pv 4) (fun _ _ => rfl)) (pe_ix (show IxR _ (rIxL K) from ix_list) (pv 2) (pe_op op_add (pv 4) pe_int) (fun _ _ => rfl)))))
        (pe_lst (pa_cons pe_int pa_nil))))))
    (pss_one (ps_ret (pe_ix ix_list (pv 2) (pv 1) (fun _ _ => rfl))))), ?_⟩
  refine ⟨Nat.le_trans (by decide) three_le, fun r0 hr0 => ?_⟩
  have s0 := same_new hr0 (.lst [V.int 1])
  refine ⟨_, rfl, _, rfl, by omega, by omega, ?_⟩
  refine for_range (n := a) (fun i σ H' => Same H H' ∧ ∃ (r : Addr) (y : Option V), H' r = some (.lst ((prow i).map natV)) ∧ σ = [some (.int (a : Int)), some (.int (b : Int)), some (.ref r), y, Option.none])
    ⟨s0, r0, Option.none, upd_same, rfl⟩ ?_ ?_
  · rintro i σ H1 hi ⟨sm, r, y, er, rfl⟩
    refine ⟨Nat.le_trans (by decide) three_le, fun l1 hl1 => ?_⟩
    have s1 := same_new hl1 (.lst [V.int 1])
    have er1 := s1 _ _ er
    have el1 : upd H1 l1 (.lst [V.int 1]) l1 = some (.lst [V.int 1]) := upd_same
    have sa := sm.trans s1
    refine ⟨_, rfl, r, _, rfl, .inl (SqL.of er1), _, _, rfl, rfl, _, rfl, ?_⟩
    have el : (((prow i).map natV).length : Int) = (i : Int) + 1 := by rw [List.length_map, prow_len]; rfl
    rw [el]
    refine ⟨by omega, by omega, fun D hD => ?_⟩
    have e0 : ((i : Int) + 1 - 1).toNat = i := by omega
    rw [e0]
    generalize upd H1 l1 (.lst [V.int 1]) = H2 at s1 er1 el1 sa hD
    have nD1 : r ≠ D := ne_of_none er1 hD
    have nD2 : l1 ≠ D := ne_of_none el1 hD
    refine lc_range (n := i) (fun j H' => (∀ b o, H2 b = some o → H' b = some o) ∧ H' D = some (.lst (((adj (prow i)).take j).map natV))) ⟨fun b o e => by rw [upd_ne (ne_of_none e hD)]; exact e, upd_same⟩ ?_ ?_
    · rintro j H3 hj ⟨k1, k2⟩
      have er3 := k1 _ _ er1
      have p1 : j < (prow i).length := by rw [prow_len]; omega
      have p2 : j + 1 < (prow i).length := by rw [prow_len]; omega
      refine ⟨rfl, ?_⟩
      show tOp (rI0 fun i j => V.int (i + j)) (tOp (rIxL K) (tVar 2) (tVar 4)) (tOp (rIxL K) (tVar 2) (tOp (rI0 fun i j => V.int (i + j)) (tVar 4) (tC (V.int 1)))) [some (.int (a : Int)), some (.int (b : Int)), some (.ref r), some (V.int (0 + (i : Int))), some (V.int (0 + (j : Int)))] H3 _
      refine ⟨_, rfl, _, rfl, r, _, _, natV ((prow i).getD j 0), rfl, rfl, SqL.of er3, ?_, ⟨_, rfl, _, rfl, _, _, rfl, rfl, r, _, _, natV ((prow i).getD (j + 1) 0), rfl, rfl, SqL.of er3, ?_, (((prow i).getD j 0 : Nat) : Int), (((prow i).getD (j + 1) 0 : Nat) : Int), rfl, rfl, _, k2, ?_, ?_, ?_⟩⟩
      · rw [Int.zero_add]; exact atI_nat (natV_at p1)
      · have e2 : (0 : Int) + (j : Int) + 1 = ((j + 1 : Nat) : Int) := by omega
        rw [e2]; exact atI_nat (natV_at p2)
      · rw [List.length_map, List.length_take]
        exact Nat.lt_of_le_of_lt (Nat.min_le_left _ _) (small1000 (by omega))
      · refine fun b o e => ?_
        rw [upd_ne (ne_of_none e hD)]
        exact k1 _ _ e
      · rw [upd_same, adj_take _ _ (by rw [prow_len]; omega), List.map_append]
        have e3 : natV ((prow i).getD j 0 + (prow i).getD (j + 1) 0) = V.int (((prow i).getD j 0 : Nat) + ((prow i).getD (j + 1) 0 : Nat)) := congrArg V.int (Int.natCast_add _ _)
        show some (HO.lst (_ ++ [_])) = some (HO.lst (_ ++ [natV _]))
        rw [e3]
    · rintro H3 ⟨k1, k2⟩
      have ht : (adj (prow i)).take i = adj (prow i) := List.take_of_length_le (by rw [adj_len, prow_len]; omega)
      rw [ht] at k2
      have hz : ([V.int 1] : List V).length + ((adj (prow i)).map natV).length ≤ sizeLine := by
        rw [List.length_map, adj_len, prow_len]
        exact Nat.le_of_lt (small1000 (by simp; omega))
      refine ⟨l1, D, _, _, rfl, rfl, k1 _ _ el1, k2, hz, fun t ht => ⟨Nat.le_trans (by decide) three_le, fun l2 hl2 => ?_⟩⟩
      have s4 := same_new ht (.lst ([V.int 1] ++ (adj (prow i)).map natV))
      have s5 := same_new hl2 (.lst [V.int 1])
      have hz2 : ([V.int 1] ++ (adj (prow i)).map natV).length + ([V.int 1] : List V).length ≤ sizeLine := by
        rw [List.length_append, List.length_map, adj_len, prow_len]
        exact Nat.le_of_lt (small1000 (by simp; omega))
      refine ⟨t, l2, _, _, rfl, rfl, s5 _ _ upd_same, upd_same, hz2, fun u hu => ?_⟩
      have s6 := same_new hu (.lst ([V.int 1] ++ (adj (prow i)).map natV ++ [V.int 1]))
      refine ⟨sa.trans ((show Same H2 H3 from k1).trans (s4.trans (s5.trans s6))), u, some (.int (0 + (i : Int))), ?_, rfl⟩
      rw [upd_same]
      show _ = some (HO.lst (([1] ++ adj (prow i) ++ [1] : List Nat).map natV))
      rw [List.map_append, List.map_append]
      rfl
  · rintro σ H1 ⟨sm, r, y, er, rfl⟩
    refine ⟨_, rfl, _, rfl, r, _, _, natV ((prow a).getD b 0), rfl, rfl, SqL.of er, atI_nat (natV_at (by rw [prow_len]; omega)), ?_⟩
    exact q H1 sm
def spLBound : Sp := fun vs H Q _ => ∃ (n h : Nat) (k : Option Nat), vs = nums n h k ∧ 1 ≤ n ∧ n < 2 ^ 20 ∧ h ≤ 12 ∧ kOk k ∧ ∀ H', Same H H' → Q (.int (bnd n h k : Nat)) H'
theorem ok_lbound {f g : Addr} {fd gd : FuncData} (F : Fun K "_law_bound" "_law_bound" sLBound f fd)
    (G : FnOk P w K mg base CX0 1 g gd ["a", "b"] spBinom) (bG : Binds K gd ["a", "b"] []) (kG : PySem.W.keepIn K (.ref g) = true) (mG : mg "_law_binomial" = some (.ref g))
    (mr : mg "range" = none) (mM : mg "min" = none) : FnOk P w K mg base CX0 2 f fd ["n", "h", "k"] spLBound := by
  refine F.ok scLBound (fun vs H Q E h => ?_) (fun cdv A outer s H vs Q E hr h => ?_)
  · obtain ⟨n, h, k, rfl, _⟩ := h
    rfl
  obtain ⟨n, h, k, rfl, h1, h2, hh, hk, q⟩ := h
  have nd := scLBound.nd
  refine ⟨_, pss_cons (ps_if (pt_cmpR op_eq (pv 1) pe_int (nomark _)) (pss_one (ps_ret pe_int)) pss_nil)
    (pss_cons (ps_set (i := 3) nd rfl (.inl rfl) pe_int)
    (pss_cons (ps_set (i := 4) nd rfl (.inl rfl) pe_int)
    (pss_cons (ps_for PassesOwn.never rfl (pi_range1 rfl mr (pa_cons pe_int pa_nil)) (pg_name (i := 5) nd rfl (.inl rfl))
      (pss_cons (ps_if (pt_cmpR op_gt (pe_op op_mul pe_int (pv 3)) (pv 0) (nomark _)) (pss_one ps_break) pss_nil)
      (pss_cons (ps_set (i := 3) nd rfl (.inl rfl) (pe_op op_mul pe_int (pv 3)))
      (pss_one (ps_set (i := 4) nd rfl (.inl rfl) (pe_op op_add (pv 4) pe_int))))))
    (pss_cons (ps_if (pt_cmp (pc_isN (pv 2))) (pss_one (ps_ret (pe_op op_mul (pv 0) (pe_call G hr (by rfl) mG kG bG .nil pass0 (pa_cons (pe_op op_sub (pe_op op_add (pv 4) (pv 1)) pe_int) (pa_cons (pe_op op_sub (pv 1) pe_int) pa_nil)))))) pss_nil)
    (pss_cons (ps_set (i := 6) nd rfl (.inl rfl) (pe_callB (call_min3Nu rfl) (by rfl) mM boot_min (pa_cons (pv 2) (pa_cons (pe_op op_add (pv 1) pe_int) (pa_cons (pe_op op_add (pv 4) pe_int) pa_nil)))))
    (pss_cons (ps_set (i := 7) nd rfl (.inl rfl) (pv 0))
    (pss_cons (ps_for PassesOwn.never rfl (pi_range1 rfl mr (pa_cons (pe_op op_sub (pv 6) pe_int) pa_nil)) (pg_name (i := 5) nd rfl (.inl rfl)) (pss_one (ps_set (i := 7) nd rfl (.inl rfl) (pe_op op_mul pe_int (pv 7)))))
    (pss_one (ps_ret (pe_op op_mul (pe_op op_mul (pv 7) (pe_call G hr (by rfl) mG kG bG .nil pass0 (pa_cons (pv 1) (pa_cons (pe_op op_sub (pv 6) pe_int) pa_nil))))
      (pe_call G hr (by rfl) mG kG bG .nil pass0 (pa_cons (pe_op op_sub (pe_op op_add (pv 4) (pv 6)) pe_int) (pa_cons (pe_op op_sub (pv 6) pe_int) pa_nil))))))))))))), ?_⟩
  unfold bnd at q
  refine ⟨_, rfl, rfl, _, rfl, ite2 (fun z => ?_) (fun z => ?_)⟩
  · have z' : (h : Int) = 0 := V.int.inj (of_decide_eq_true z)
    rw [if_pos (show h = 0 by omega)] at q
    exact q H (.refl H)
  have z' : ¬ (h : Int) = 0 := fun y => z (decide_eq_true (congrArg V.int y))
  rw [if_neg (show ¬ h = 0 by omega)] at q
  have hn0 : n ≠ 0 := by omega
  have hl := log_lt h2 hn0
  refine ⟨64, rfl, by decide, by decide, ?_⟩
  refine for_range (n := 64) (fun i σ H' => H' = H ∧ 2 ^ i ≤ n ∧ ∃ y : Option V, σ = [some (.int (n : Int)), some (.int (h : Int)), some (kv k), some (.int ((2 ^ i : Nat) : Int)), some (.int (i : Int)), y, Option.none, Option.none])
    ⟨rfl, h1, Option.none, rfl⟩ ?_ ?_
  case refine_2 =>
    rintro σ H' ⟨rfl, hb, _⟩
    exfalso
    have : (2 : Nat) ^ 20 ≤ 2 ^ 64 := by decide
    omega
  rintro i σ H' hi ⟨rfl, hb, y, rfl⟩
  refine ⟨_, rfl, _, _, rfl, rfl, .inl ⟨by decide, by decide⟩, _, rfl, _, _, rfl, rfl, _, rfl, ite2 (fun c => ?_) (fun c => ?_)⟩
  case refine_2 =>
    have c' : ¬ (n : Int) < 2 * ((2 ^ i : Nat) : Int) := fun x => c (decide_eq_true x)
    refine ⟨_, rfl, _, _, rfl, rfl, .inl ⟨by decide, by decide⟩, _, rfl, _, _, rfl, rfl, rfl, ?_, some (.int (0 + (i : Int))), ?_⟩
    · rw [Nat.pow_succ]; omega
    · have e1 : (2 : Int) * ((2 ^ i : Nat) : Int) = ((2 ^ (i + 1) : Nat) : Int) := by rw [Nat.pow_succ]; omega
      have e2 : (((i + 1 : Nat)) : Int) = (i : Int) + 1 := Int.natCast_add _ _
      rw [← e1, e2]
      rfl
  -- the loop is left: i is the whole logarithm
  have c' : (n : Int) < 2 * ((2 ^ i : Nat) : Int) := of_decide_eq_true c
  have hE : Nat.log2 n = i := by
    have a1 : Nat.log2 n < i + 1 := (Nat.log2_lt hn0).mpr (by rw [Nat.pow_succ]; omega)
    have a2 : i ≤ Nat.log2 n := (Nat.le_log2 hn0).mpr hb
    omega
  rw [hE] at q hl
  have hn : (-(2 ^ 64) : Int) < (n : Int) ∧ (n : Int) < 2 ^ 64 := by
    have : (n : Int) < 2 ^ 20 := Int.ofNat_lt.mpr h2
    omega
  cases k with
  | none =>
    refine ⟨_, rfl, true, rfl, iteT ?_⟩
    have e1 : (i : Int) + (h : Int) - 1 = ((i + h - 1 : Nat) : Int) := by omega
    have e2 : (h : Int) - 1 = ((h - 1 : Nat) : Int) := by omega
    refine ⟨_, rfl, _, rfl, _, rfl, _, _, rfl, rfl, _, _, rfl, rfl, _, rfl, _, _, rfl, rfl, i + h - 1, h - 1, ?_, by omega, by omega, fun H1 s1 => ⟨_, _, rfl, rfl, .inl hn, ?_⟩⟩
    · show [V.int ((i : Int) + (h : Int) - 1), V.int ((h : Int) - 1)] = _
      rw [e1, e2]
    have e3 : ((n * bco h none i : Nat) : Int) = (n : Int) * ((chN (i + h - 1) (h - 1) : Nat) : Int) := Int.natCast_mul _ _
    rw [e3] at q
    exact q H1 s1
  | some b =>
    have hbk := hk b rfl
    refine ⟨_, rfl, false, rfl, iteF ?_⟩
    refine ⟨_, rfl, _, rfl, _, _, rfl, rfl, _, rfl, _, _, rfl, rfl, ?_⟩
    refine ⟨_, _, _, _, rfl, min3_nu _ _ _, ?_⟩
    generalize hT : min (min b (h + 1)) (i + 1) - 1 = t
    have eT : min (min (b : Int) ((h : Int) + 1)) ((i : Int) + 1) = ((t + 1 : Nat) : Int) := by omega
    have eT2 : ((t + 1 : Nat) : Int) - 1 = (t : Int) := by omega
    have t1 : t ≤ 11 := by omega
    have t2 : t ≤ h := by omega
    rw [eT]
    refine ⟨_, rfl, _, rfl, _, _, rfl, rfl, _, rfl, by omega, by omega, ?_⟩
    have e0 : (((t + 1 : Nat) : Int) - 1).toNat = t := by omega
    rw [e0]
    refine for_range (n := t) (fun j σ H9 => H9 = H' ∧ ∃ y : Option V, σ = [some (.int (n : Int)), some (.int (h : Int)), some (.int (b : Int)), some (.int ((2 ^ i : Nat) : Int)), some (.int (i : Int)), y, some (.int ((t + 1 : Nat) : Int)), some (.int ((n * 2 ^ j : Nat) : Int))])
      ⟨rfl, some (.int (0 + (i : Int))), ?_⟩ ?_ ?_
    · rw [Nat.pow_zero, Nat.mul_one]
      rfl
    · rintro j σ H' hj ⟨rfl, y, rfl⟩
      refine ⟨_, rfl, _, _, rfl, rfl, .inl ⟨by decide, by decide⟩, rfl, some (.int (0 + (j : Int))), ?_⟩
      have e1 : (2 : Int) * ((n * 2 ^ j : Nat) : Int) = ((n * 2 ^ (j + 1) : Nat) : Int) := by rw [Nat.pow_succ, ← Nat.mul_assoc]; omega
      rw [← e1]
      rfl
    · rintro σ H' ⟨rfl, y, rfl⟩
      have p1 : n * 2 ^ t < 2 ^ 32 := by
        have a1 : 2 ^ t ≤ 2 ^ 11 := Nat.pow_le_pow_right (by decide) t1
        have a2 : n * 2 ^ t ≤ n * 2 ^ 11 := Nat.mul_le_mul_left n a1
        omega
      have c1 := ch_lt (a := h) (b := t) (by omega) (by omega)
      have p2 : n * 2 ^ t * chN h t < 2 ^ 42 := by
        have a1 : n * 2 ^ t * chN h t ≤ n * 2 ^ t * 1024 := Nat.mul_le_mul_left _ (by omega)
        omega
      have x2 : ((n * 2 ^ t : Nat) : Int) * ((chN h t : Nat) : Int) = ((n * 2 ^ t * chN h t : Nat) : Int) := (Int.natCast_mul _ _).symm
      generalize hA : n * 2 ^ t = A1 at p1 p2 x2
      refine ⟨_, rfl, _, rfl, _, rfl, _, _, rfl, rfl, h, t, ?_, by omega, t2, fun H1 s1 => ⟨_, _, rfl, rfl, .inl ⟨by omega, by omega⟩, ?_⟩⟩
      · show [V.int (h : Int), V.int (((t + 1 : Nat) : Int) - 1)] = _
        rw [eT2]
      refine ⟨_, rfl, _, rfl, _, _, rfl, rfl, _, _, rfl, rfl, _, rfl, _, _, rfl, rfl, i + t, t, ?_, by omega, by omega, fun H2 s2 => ⟨_, _, rfl, rfl, .inl ?_, ?_⟩⟩
      · have e5 : (i : Int) + ((t + 1 : Nat) : Int) - 1 = ((i + t : Nat) : Int) := by omega
        show [V.int ((i : Int) + ((t + 1 : Nat) : Int) - 1), V.int (((t + 1 : Nat) : Int) - 1)] = _
        rw [eT2, e5]
      · show -(2 ^ 64) < ((A1 : Nat) : Int) * ((chN h t : Nat) : Int) ∧ ((A1 : Nat) : Int) * ((chN h t : Nat) : Int) < 2 ^ 64
        rw [x2]
        omega
      have e1 : n * bco h (some b) i = A1 * chN h t * chN (i + t) t := by
        have e2 : bco h (some b) i = 2 ^ t * chN h t * chN (i + t) t := by
          show 2 ^ _ * chN h _ * chN _ _ = _
          have e3 : i + min (min b (h + 1)) (i + 1) - 1 = i + t := by omega
          rw [hT, e3]
        rw [e2, ← hA, ← Nat.mul_assoc, ← Nat.mul_assoc]
      rw [e1] at q
      have r := q H2 (s1.trans s2)
      show Q (.int (((A1 : Nat) : Int) * ((chN h t : Nat) : Int) * ((chN (i + t) t : Nat) : Int))) H2
      rw [x2, ← Int.natCast_mul]
      exact r
end
end K11
set_option Elab.async false
set_option linter.all false
set_option maxRecDepth 100000
set_option maxHeartbeats 4000000
set_option pp.maxSteps 250
set_option pp.deepTerms false
namespace K11
open PySem PySem.Spec PyProof.Rows L2
/-! ### _law_right, law -/
theorem but_lst {P : Program} {w : World} {a p : Addr} {H H' : Hp} {l : List V} {S : List Leaf → V → Prop} {ks : List (List Leaf)} (T : Tab P w S H a ks) (b : But a H H') (e : H p = some (.lst l)) : H' p = some (.lst l) := by
  obtain ⟨φ, f⟩ := T.holds
  exact b p _ (ne_of e f (fun z => nomatch z)) e
theorem but_seq {P : Program} {w : World} {K : PySem.W.Frag} {a p : Addr} {H H' : Hp} {l : List V} {S : List Leaf → V → Prop} {ks : List (List Leaf)} (T : Tab P w S H a ks) (b : But a H H') (e : SqL K H p l) : SqL K H' p l := by
  obtain ⟨φ, f⟩ := T.holds
  rcases e with (e | ⟨o, e⟩) | e
  · exact .inl (.inl (b p _ (ne_of e f (fun z => nomatch z)) e))
  · exact .inl (.inr ⟨o, b p _ (ne_of e f (fun z => nomatch z)) e⟩)
  · exact .inr e
theorem FnOk.ex {ι : Type} {P : Program} {w : World} {K : PySem.W.Frag} {mg : Str → Option Value} {base : Heap} {CX : CXT} {c : Nat} {f : Addr} {fd : FuncData} {ps : List Str} {sp : ι → Sp} (F : ∀ i, FnOk P w K mg base CX c f fd ps (sp i)) :
    FnOk P w K mg base CX c f fd ps (fun vs H Q E => ∃ i, sp i vs H Q E) := by
  constructor
  · rintro vs H Q E ⟨i, h⟩
    exact (F i).1 vs H Q E h
  · intro A outer s H args us vs Q E g1 g2 g3 g4 h
    obtain ⟨i, h⟩ := h
    exact (F i).2 A outer s H args us vs Q E g1 g2 g3 g4 h
abbrev Roots := {rs : List Nat // (∀ n ∈ rs, n < 2 ^ 20) ∧ rs.length ≤ 3}
def spLSizeX (P : Program) (w : World) : Sp := fun vs H Q E => ∃ i : Roots, spLSize P w i.1 70 vs H Q E
section
variable {P : Program} {w : World} {K : PySem.W.Frag} {mg : Str → Option Value} {base : Heap}
theorem scRight : FnScope ["drawn", "size", "bound", "n", "h", "told", "most"] ["drawn", "size", "bound"] (defScope sRight) := ⟨rfl, rfl, rfl, by decide +kernel, rfl, by decide +kernel, by decide +kernel⟩
theorem scLaw : FnScope ["script", "one", "two", "table", "one_size", "two_size", "one_bound", "two_bound", "three", "three_size"] ["script"] (defScope sLaw) := ⟨rfl, rfl, rfl, by decide +kernel, rfl, by decide +kernel, by decide +kernel⟩
def spRight : Sp := fun vs H Q _ => ∃ (p : Addr) (n h : Nat) (k : Option Nat) (b : Bool), vs = [.ref p, .int (usz h k n : Nat), .int (bnd n h k : Nat)] ∧ H p = some (.lst (drawn n h k b)) ∧ 1 ≤ n ∧ n < 2 ^ 20 ∧ h ≤ 12 ∧ kOk k ∧ ∀ H', Same H H' → Q (.bl true) H'
theorem ok_right {f fU fB fW : Addr} {fd dU dB dW : FuncData} (F : Fun K "_law_right" "_law_right" sRight f fd)
    (GU : FnOk P w K mg base CX0 141 fU dU ps3 spUsize) (FU : FunU K fU dU) (mU : mg "universal_size" = some (.ref fU))
    (GB : FnOk P w K mg base CX0 2 fB dB ps3 spBound) (FB : FunB K fB dB) (mB : mg "size_bound" = some (.ref fB))
    (GW : FnOk P w K mg base CX0 1 fW dW ["value"] spWhole) (bW : Binds K dW ["value"] []) (kW : PySem.W.keepIn K (.ref fW) = true) (mW : mg "_law_whole" = some (.ref fW)) :
    FnOk P w K mg base CX0 142 f fd ["drawn", "size", "bound"] spRight := by
  refine F.ok scRight (fun vs H Q E h => ?_) (fun cdv A outer s H vs Q E hr h => ?_)
  · obtain ⟨p, n, h, k, b, rfl, _⟩ := h
    rfl
  obtain ⟨p, n, h, k, b, rfl, ep, h1, h2, hh, hk, q⟩ := h
  have nd := scRight.nd
  obtain ⟨dsU, rU, bU⟩ := u_binds FU
  obtain ⟨dsB, rB, bB⟩ := b_binds FB
  obtain ⟨_, kbU⟩ := u_kbinds FU
  obtain ⟨_, kbB⟩ := b_kbinds FB
  refine ⟨_, pss_cons (ps_set (i := 3) nd rfl (.inl rfl) (pe_ix ix_list (pv 0) pe_int (fun _ _ => rfl)))
    (pss_cons (ps_set (i := 4) nd rfl (.inl rfl) (pe_ix ix_list (pv 0) pe_int (fun _ _ => rfl)))
    (C8.pss_cut (ps_if (PW.pt (pw_and (pt_cmp (pc_isN (pe_ix ix_list (pv 0) pe_int (fun _ _ => rfl)))) (pw_and1 (pt_val (pe_ix ix_list (pv 0) pe_int (fun _ _ => rfl))))))
      (pss_cons (ps_set (i := 5) nd rfl (.inl rfl) (pe_call GU hr (by rfl) mU FU.kp bU rU pass0 (pa_cons (pv 3) (pa_cons (pv 4) pa_nil))))
        (pss_one (ps_set (i := 6) nd rfl (.inl rfl) (pe_call GB (hr.mono (by decide)) (by rfl) mB FB.kp bB rB pass0 (pa_cons (pv 3) (pa_cons (pv 4) pa_nil))))))
      (pss_cons (ps_set (i := 5) nd rfl (.inl rfl) (pe_callN GU hr (by rfl) mU FU.kp kbU pass0 (pa_cons (pv 3) (pa_cons (pv 4) pa_nil)) (pk_cons (pe_ix ix_list (pv 0) pe_int (fun _ _ => rfl)) pk_nil)))
        (pss_one (ps_set (i := 6) nd rfl (.inl rfl) (pe_callN GB (hr.mono (by decide)) (by rfl) mB FB.kp kbB pass0 (pa_cons (pv 3) (pa_cons (pv 4) pa_nil)) (pk_cons (pe_ix ix_list (pv 0) pe_int (fun _ _ => rfl)) pk_nil))))))
    (pss_cons (ps_if (PW.pt (pw_or (pt_not (pt_val (pe_call GW (hr.mono (by decide)) (by rfl) mW kW bW .nil pass0 (pa_cons (pv 5) pa_nil)))) (pw_or1 (pt_not (pt_val (pe_call GW (hr.mono (by decide)) (by rfl) mW kW bW .nil pass0 (pa_cons (pv 6) pa_nil)))))))
      (pss_one (ps_ret pe_bl)) pss_nil)
    (pss_one (ps_ret (pe_and (pe_cmpR op_eq (pv 5) (pv 1) (nomark _)) (pe_and (pe_cmpR op_eq (pv 6) (pv 2) (nomark _)) (pe_one (pe_cmpR op_le (pv 5) (pv 6) (nomark _)))))))))), ?_⟩
  have hp : SqL K H p (drawn n h k b) := SqL.of ep
  refine ⟨_, rfl, p, _, 0, .int (n : Int), rfl, rfl, hp, atI_nat (j := 0) rfl, ?_⟩
  refine ⟨_, rfl, p, _, 1, .int (h : Int), rfl, rfl, hp, atI_nat (j := 1) rfl, ?_⟩
  refine ⟨fun σ' H' => Same H H' ∧ σ' = [some (.ref p), some (.int (usz h k n : Nat)), some (.int (bnd n h k : Nat)), some (.int (n : Int)), some (.int (h : Int)), some (.int (usz h k n : Nat)), some (.int (bnd n h k : Nat))], ?_, ?_⟩
  · have kw : tSeq (tAsg (tCallN 2 1 spUsize (fun vs zs => vs ++ zs) E0 (tCons (tVar 3) (tCons (tVar 4) tNil)) (tCons (tOp (rIxL K) (tVar 0) (tC (.int 2))) tNil)) (gName 5))
        (tAsg (tCallN 2 1 spBound (fun vs zs => vs ++ zs) E0 (tCons (tVar 3) (tCons (tVar 4) tNil)) (tCons (tOp (rIxL K) (tVar 0) (tC (.int 2))) tNil)) (gName 6))
        { nx := fun σ' H' => Same H H' ∧ σ' = [some (.ref p), some (.int (usz h k n : Nat)), some (.int (bnd n h k : Nat)), some (.int (n : Int)), some (.int (h : Int)), some (.int (usz h k n : Nat)), some (.int (bnd n h k : Nat))], rt := Q }
        [some (.ref p), some (.int (usz h k n : Nat)), some (.int (bnd n h k : Nat)), some (.int (n : Int)), some (.int (h : Int)), Option.none, Option.none] H := by
      refine ⟨_, rfl, _, rfl, _, rfl, p, _, 2, kv k, rfl, rfl, hp, atI_nat (j := 2) rfl, rfl, rfl, n, h, k, rfl, h1, h2, hh, hk, fun H1 s1 => ?_⟩
      refine ⟨_, rfl, _, rfl, _, rfl, p, _, 2, kv k, rfl, rfl, s1.seq hp, atI_nat (j := 2) rfl, rfl, rfl, n, h, k, rfl, h1, h2, hh, hk, s1, rfl⟩
    refine ⟨_, rfl, p, _, 2, kv k, rfl, rfl, hp, atI_nat (j := 2) rfl, ?_⟩
    cases k with
    | some b' => exact ⟨false, rfl, iteF (iteF kw)⟩
    | none =>
      refine ⟨true, rfl, iteT ⟨_, rfl, p, _, 3, .bl b, rfl, rfl, hp, atI_nat (j := 3) rfl, b, rfl, ?_⟩⟩
      cases b with
      | false => exact iteF kw
      | true =>
        refine iteT ⟨_, rfl, _, rfl, n, h, none, rfl, h1, h2, hh, hk, fun H1 s1 => ?_⟩
        exact ⟨_, rfl, _, rfl, n, h, none, rfl, h1, h2, hh, hk, s1, rfl⟩
  · rintro σ' H' ⟨sm, rfl⟩
    refine ⟨_, rfl, _, rfl, true, rfl, iteF ?_⟩
    refine ⟨_, rfl, _, rfl, true, rfl, iteF ?_⟩
    refine ⟨_, rfl, _, rfl, rfl, _, rfl, ?_⟩
    rw [decide_eq_true rfl]
    refine iteT ⟨_, rfl, _, rfl, rfl, _, rfl, ?_⟩
    rw [decide_eq_true rfl]
    refine iteT ⟨_, rfl, _, rfl, _, _, rfl, rfl, ?_⟩
    have le := usz_bound h k n hh hk h1 h2
    show Q (.bl (decide (((usz h k n : Nat) : Int) ≤ ((bnd n h k : Nat) : Int)))) H'
    rw [decide_eq_true (Int.ofNat_le.mpr le)]
    exact q H' sm
def spLaw (K : PySem.W.Frag) : Sp := fun vs H Q _ => ∃ (a : Addr) (ns : List Int), vs = [.ref a] ∧ SqL K H a (ns.map V.int) ∧ ns.length ≤ 63 ∧ ∀ H', Q (.bl true) H'
theorem ok_law {f fP fT fS fB fR fC : Addr} {fd dP dT dS dB dR dC : FuncData} (F : Fun K "law" "law" sLaw f fd)
    (GP : FnOk P w K mg base CX0 2 fP dP ["script", "at"] (spDrawn K)) (bP : Binds K dP ["script", "at"] []) (kP : PySem.W.keepIn K (.ref fP) = true) (mP : mg "_law_parameters" = some (.ref fP))
    (GT : FnOk P w K mg base CX0 2 fT dT ["script", "at"] (spDrawn K)) (bT : Binds K dT ["script", "at"] []) (kT : PySem.W.keepIn K (.ref fT) = true) (mT : mg "_law_utmost" = some (.ref fT))
    (GS : FnOk P w K mg base CX0 70 fS dS psS (spLSizeX P w)) (bS : Binds K dS psS []) (kS : PySem.W.keepIn K (.ref fS) = true) (mS : mg "_law_size" = some (.ref fS))
    (GB : FnOk P w K mg base CX0 2 fB dB ["n", "h", "k"] spLBound) (bB : Binds K dB ["n", "h", "k"] []) (kB : PySem.W.keepIn K (.ref fB) = true) (mB : mg "_law_bound" = some (.ref fB))
    (GR : FnOk P w K mg base CX0 142 fR dR ["drawn", "size", "bound"] spRight) (bR : Binds K dR ["drawn", "size", "bound"] []) (kR : PySem.W.keepIn K (.ref fR) = true) (mR : mg "_law_right" = some (.ref fR))
    (GC : FnOk P w K mg base CX0 1 fC dC ["script", "k"] (spCell K)) (bC : Binds K dC ["script", "k"] []) (kC : PySem.W.keepIn K (.ref fC) = true) (mC : mg "_law_cell" = some (.ref fC))
    (mi : mg "int" = none) : FnOk P w K mg base CX0 143 f fd ["script"] (spLaw K) := by
  refine F.ok scLaw (fun vs H Q E h => ?_) (fun cdv A outer s H vs Q E hr h => ?_)
  · obtain ⟨a, ns, rfl, _⟩ := h
    rfl
  obtain ⟨a, ns, rfl, hS, hl, q⟩ := h
  have nd := scLaw.nd
  refine ⟨_, pss_cons (ps_set (i := 1) nd rfl (.inl rfl) (pe_call GP (hr.mono (by decide)) (by rfl) mP kP bP .nil pass0 (pa_cons (pv 0) (pa_cons pe_int pa_nil))))
    (pss_cons (ps_set (i := 2) nd rfl (.inl rfl) (pe_call GP (hr.mono (by decide)) (by rfl) mP kP bP .nil pass0 (pa_cons (pv 0) (pa_cons pe_int pa_nil))))
    (pss_cons (ps_set (i := 3) nd rfl (.inl rfl) pe_tnew)
    (pss_cons (ps_set (i := 4) nd rfl (.inl rfl) (pe_call GS (hr.mono (by decide)) (by rfl) mS kS bS .nil pass0 (pa_cons (pe_ix ix_list (pv 1) pe_int (fun _ _ => rfl)) (pa_cons (pe_ix ix_list (pv 1) pe_int (fun _ _ => rfl)) (pa_cons (pe_ix ix_list (pv 1) pe_int (fun _ _ => rfl)) (pa_cons (pv 3) pa_nil))))))
    (pss_cons (ps_set (i := 5) nd rfl (.inl rfl) (pe_call GS (hr.mono (by decide)) (by rfl) mS kS bS .nil pass0 (pa_cons (pe_ix ix_list (pv 2) pe_int (fun _ _ => rfl)) (pa_cons (pe_ix ix_list (pv 2) pe_int (fun _ _ => rfl)) (pa_cons (pe_ix ix_list (pv 2) pe_int (fun _ _ => rfl)) (pa_cons (pv 3) pa_nil))))))
    (pss_cons (ps_set (i := 6) nd rfl (.inl rfl) (pe_call GB (hr.mono (by decide)) (by rfl) mB kB bB .nil pass0 (pa_cons (pe_ix ix_list (pv 1) pe_int (fun _ _ => rfl)) (pa_cons (pe_ix ix_list (pv 1) pe_int (fun _ _ => rfl)) (pa_cons (pe_ix ix_list (pv 1) pe_int (fun _ _ => rfl)) pa_nil)))))
    (pss_cons (ps_set (i := 7) nd rfl (.inl rfl) (pe_call GB (hr.mono (by decide)) (by rfl) mB kB bB .nil pass0 (pa_cons (pe_ix ix_list (pv 2) pe_int (fun _ _ => rfl)) (pa_cons (pe_ix ix_list (pv 2) pe_int (fun _ _ => rfl)) (pa_cons (pe_ix ix_list (pv 2) pe_int (fun _ _ => rfl)) pa_nil)))))
    (pss_cons (ps_if (PW.pt (pw_or (pt_not (pt_val (pe_call GR hr (by rfl) mR kR bR .nil pass0 (pa_cons (pv 1) (pa_cons (pv 4) (pa_cons (pv 6) pa_nil)))))) (pw_or1 (pt_not (pt_val (pe_call GR hr (by rfl) mR kR bR .nil pass0 (pa_cons (pv 2) (pa_cons (pv 5) (pa_cons (pv 7) pa_nil)))))))))
      (pss_one (ps_ret pe_bl)) pss_nil)
    (pss_cons (ps_if (pt_cmpR op_eq (pe_op op_mod (pe_callTy call_int1 (by rfl) mi PyProof.Rows.boot_int (pa_cons (pe_call GC (hr.mono (by decide)) (by rfl) mC kC bC .nil pass0 (pa_cons (pv 0) (pa_cons pe_int pa_nil))) pa_nil)) pe_int) pe_int (nomark _))
      (pss_cons (ps_set (i := 8) nd rfl (.inl rfl) (pe_call GT (hr.mono (by decide)) (by rfl) mT kT bT .nil pass0 (pa_cons (pv 0) (pa_cons pe_int pa_nil))))
      (pss_cons (ps_set (i := 9) nd rfl (.inl rfl) (pe_call GS (hr.mono (by decide)) (by rfl) mS kS bS .nil pass0 (pa_cons (pe_ix ix_list (pv 8) pe_int (fun _ _ => rfl)) (pa_cons (pe_ix ix_list (pv 8) pe_int (fun _ _ => rfl)) (pa_cons (pe_ix ix_list (pv 8) pe_int (fun _ _ => rfl)) (pa_cons (pv 3) pa_nil))))))
      (pss_one (ps_if (pt_not (pt_val (pe_call GR hr (by rfl) mR kR bR .nil pass0 (pa_cons (pv 8) (pa_cons (pv 9) (pa_cons (pe_call GB (hr.mono (by decide)) (by rfl) mB kB bB .nil pass0 (pa_cons (pe_ix ix_list (pv 8) pe_int (fun _ _ => rfl)) (pa_cons (pe_ix ix_list (pv 8) pe_int (fun _ _ => rfl)) (pa_cons (pe_ix ix_list (pv 8) pe_int (fun _ _ => rfl)) pa_nil)))) pa_nil))))))
        (pss_one (ps_ret pe_bl)) pss_nil)))) pss_nil)
    (pss_one (ps_ret (pe_call GR hr (by rfl) mR kR bR .nil pass0 (pa_cons (pv 1) (pa_cons (pv 4) (pa_cons (pv 6) pa_nil)))))))))))))), ?_⟩
  refine ⟨_, rfl, a, ns, 0, rfl, hS, hl, by omega, fun p1 n1 h1 k1 b1 H1 s1 e1 x1 x2 x3 x4 => ?_⟩
  refine ⟨_, rfl, a, ns, 1, rfl, s1.seq hS, hl, by omega, fun p2 n2 h2 k2 b2 H2 s2 e2 y1 y2 y3 y4 => ?_⟩
  refine fun t H3 et s3 T0 => ?_
  have e1' := s3 _ _ (s2 _ _ e1)
  have e2' := s3 _ _ e2
  have hS3 := s3.seq (s2.seq (s1.seq hS))
  have T3 := T0 (SL [n1, n2])
  have hrs : ∀ n ∈ [n1, n2], n < 2 ^ 20 := fun n hn => by
    simp only [List.mem_cons, List.not_mem_nil, or_false] at hn
    rcases hn with rfl | rfl
    · exact x2
    · exact y2
  have g1 : SqL K H3 p1 (drawn n1 h1 k1 b1) := SqL.of e1'
  refine ⟨_, rfl, p1, _, 0, .int (n1 : Int), rfl, rfl, g1, atI_nat (j := 0) rfl, _, rfl, p1, _, 1, .int (h1 : Int), rfl, rfl, g1, atI_nat (j := 1) rfl, _, rfl, p1, _, 2, kv k1, rfl, rfl, g1, atI_nat (j := 2) rfl, _, rfl, ⟨[n1, n2], hrs, (show 2 ≤ 3 by decide)⟩,
    n1, h1, k1, t, [], rfl, ⟨x3, x4, n1, List.mem_cons_self .., .root _ _⟩, by omega, by have := bl_le x2; omega, T3, fun H4 ks4 u4 T4 => ?_⟩
  have e1'' := but_lst T3 u4 e1'
  have e2'' := but_lst T3 u4 e2'
  have hS4 := but_seq T3 u4 hS3
  have g2 : SqL K H4 p2 (drawn n2 h2 k2 b2) := SqL.of e2''
  refine ⟨_, rfl, p2, _, 0, .int (n2 : Int), rfl, rfl, g2, atI_nat (j := 0) rfl, _, rfl, p2, _, 1, .int (h2 : Int), rfl, rfl, g2, atI_nat (j := 1) rfl, _, rfl, p2, _, 2, kv k2, rfl, rfl, g2, atI_nat (j := 2) rfl, _, rfl, ⟨[n1, n2], hrs, (show 2 ≤ 3 by decide)⟩,
    n2, h2, k2, t, ks4, rfl, ⟨y3, y4, n2, List.mem_cons_of_mem _ (List.mem_cons_self ..), .root _ _⟩, by omega, by have := bl_le y2; omega, T4, fun H5 ks5 u5 T5 => ?_⟩
  have f1 := but_lst T4 u5 e1''
  have f2 := but_lst T4 u5 e2''
  have hS5 := but_seq T4 u5 hS4
  have g1 : SqL K H5 p1 (drawn n1 h1 k1 b1) := SqL.of f1
  refine ⟨_, rfl, p1, _, 0, .int (n1 : Int), rfl, rfl, g1, atI_nat (j := 0) rfl, _, rfl, p1, _, 1, .int (h1 : Int), rfl, rfl, g1, atI_nat (j := 1) rfl, _, rfl, p1, _, 2, kv k1, rfl, rfl, g1, atI_nat (j := 2) rfl, n1, h1, k1, rfl, x1, x2, x3, x4, fun H6 s6 => ?_⟩
  have g2 : SqL K H6 p2 (drawn n2 h2 k2 b2) := SqL.of (s6 _ _ f2)
  refine ⟨_, rfl, p2, _, 0, .int (n2 : Int), rfl, rfl, g2, atI_nat (j := 0) rfl, _, rfl, p2, _, 1, .int (h2 : Int), rfl, rfl, g2, atI_nat (j := 1) rfl, _, rfl, p2, _, 2, kv k2, rfl, rfl, g2, atI_nat (j := 2) rfl, n2, h2, k2, rfl, y1, y2, y3, y4, fun H7 s7 => ?_⟩
  have r1 := s7 _ _ (s6 _ _ f1)
  have r2 := s7 _ _ (s6 _ _ f2)
  have hS7 := s7.seq (s6.seq hS5)
  have T7 := (T5.keep s6).keep s7
  refine ⟨_, rfl, _, rfl, _, rfl, p1, n1, h1, k1, b1, rfl, r1, x1, x2, x3, x4, fun H8 s8 => ⟨true, rfl, iteF ?_⟩⟩
  refine ⟨_, rfl, _, rfl, _, rfl, p2, n2, h2, k2, b2, rfl, s8 _ _ r2, y1, y2, y3, y4, fun H9 s9 => ⟨true, rfl, iteF ?_⟩⟩
  have w1 := s9 _ _ (s8 _ _ r1)
  have hS9 := s9.seq (s8.seq hS7)
  have T9 := (T7.keep s8).keep s9
  refine ⟨_, rfl, a, ns, 2, rfl, hS9, hl, by omega, fun z => .inl ⟨_, rfl, _, _, rfl, rfl, (by show (0 : Int) < 24; decide), rfl, _, rfl, ite2 (fun _ => ?_) (fun _ => ?_)⟩⟩
  · refine ⟨_, rfl, a, ns, 3, rfl, hS9, hl, by omega, fun p3 n3 h3 k3 b3 H10 s10 e3 z1 z2 z3 z4 => ?_⟩
    have hrs3 : ∀ n ∈ [n1, n2, n3], n < 2 ^ 20 := fun n hn => by
      simp only [List.mem_cons, List.not_mem_nil, or_false] at hn
      rcases hn with rfl | rfl | rfl
      · exact x2
      · exact y2
      · exact z2
    have T10 : Tab P w (SL [n1, n2, n3]) H10 t ks5 := (T9.keep s10).imp fun key v s => by
      obtain ⟨tg, m, h, k, c1, c2, c3, c4, ⟨n0, hn0, rc⟩, c5⟩ := s
      refine ⟨tg, m, h, k, c1, c2, c3, c4, ⟨n0, ?_, rc⟩, c5⟩
      simp only [List.mem_cons, List.not_mem_nil, or_false] at hn0 ⊢
      rcases hn0 with rfl | rfl
      · exact .inl rfl
      · exact .inr (.inl rfl)
    have g3 : SqL K H10 p3 (drawn n3 h3 k3 b3) := SqL.of e3
    refine ⟨_, rfl, p3, _, 0, .int (n3 : Int), rfl, rfl, g3, atI_nat (j := 0) rfl, _, rfl, p3, _, 1, .int (h3 : Int), rfl, rfl, g3, atI_nat (j := 1) rfl, _, rfl, p3, _, 2, kv k3, rfl, rfl, g3, atI_nat (j := 2) rfl, _, rfl, ⟨[n1, n2, n3], hrs3, (show 3 ≤ 3 by decide)⟩,
      n3, h3, k3, t, ks5, rfl, ⟨z3, z4, n3, List.mem_cons_of_mem _ (List.mem_cons_of_mem _ (List.mem_cons_self ..)), .root _ _⟩, by omega, by have := bl_le z2; omega, T10, fun H11 ks11 u11 T11 => ?_⟩
    have v1 := but_lst T10 u11 (s10 _ _ w1)
    have v3 := but_lst T10 u11 e3
    have g3 : SqL K H11 p3 (drawn n3 h3 k3 b3) := SqL.of v3
    refine ⟨_, rfl, _, rfl, _, rfl, p3, _, 0, .int (n3 : Int), rfl, rfl, g3, atI_nat (j := 0) rfl, _, rfl, p3, _, 1, .int (h3 : Int), rfl, rfl, g3, atI_nat (j := 1) rfl, _, rfl, p3, _, 2, kv k3, rfl, rfl, g3, atI_nat (j := 2) rfl, n3, h3, k3, rfl, z1, z2, z3, z4, fun H12 s12 => ?_⟩
    refine ⟨p3, n3, h3, k3, b3, rfl, s12 _ _ v3, z1, z2, z3, z4, fun H13 s13 => ⟨true, rfl, iteF ?_⟩⟩
    exact ⟨_, rfl, _, rfl, _, rfl, p1, n1, h1, k1, b1, rfl, s13 _ _ (s12 _ _ v1), x1, x2, x3, x4, fun H14 _ => q H14⟩
  · exact ⟨_, rfl, _, rfl, _, rfl, p1, n1, h1, k1, b1, rfl, w1, x1, x2, x3, x4, fun H14 _ => q H14⟩
end
end K11
set_option Elab.async false
set_option linter.all false
set_option maxRecDepth 100000
set_option maxHeartbeats 4000000
namespace K11
open PySem PySem.Spec PyProof.Rows L2
/-! ### what the top has left -/
theorem all_mk {l : PySem.W.OpenLaw} {w : World} {K : PySem.W.Frag} {h : Heap} {mg : Str → Option Value} {fa : Addr} (X : K.In h) (G : h.Ns mainGlobals mg) (hfa : mg "law" = some (.ref fa))
    {f1 f2 f3 f4 f5 f6 f7 f8 f9 f10 f11 f12 f13 f14 f15 f16 f17 f18 f19 f20 f21 : Addr}
    {od1 an1 od2 an2 od3 an3 od4 an4 od5 an5 od6 an6 od7 an7 od8 an8 od9 an9 od10 an10 od11 an11 od12 an12 od13 an13 od14 an14 od15 an15 od16 an16 od17 an17 od18 an18 od19 an19 od20 an20 od21 an21 : Option Addr} {sl1 sl2 sl3 sl4 sl5 sl6 sl7 sl8 sl9 sl10 sl11 sl12 sl13 sl14 sl15 sl16 sl17 sl18 sl19 sl20 sl21 : Array (Option Value)}
    {oc1 dc1 pm1 cd1 ct1 kV1 oc2 dc2 pm2 cd2 ct2 kV2 oc3 dc3 pm3 cd3 ct3 kV3 oc4 dc4 pm4 cd4 ct4 kV4 oc5 dc5 pm5 cd5 ct5 kV5 oc6 dc6 pm6 cd6 ct6 kV6 oc7 dc7 pm7 cd7 ct7 kV7 oc8 dc8 pm8 cd8 ct8 kV8 oc9 dc9 pm9 cd9 ct9 kV9 oc10 dc10 pm10 cd10 ct10 kV10 oc11 dc11 pm11 cd11 ct11 kV11 oc12 dc12 pm12 cd12 ct12 kV12 oc13 dc13 pm13 cd13 ct13 kV13 oc14 dc14 pm14 cd14 ct14 kV14 oc15 dc15 pm15 cd15 ct15 kV15 oc16 dc16 pm16 cd16 ct16 kV16 oc17 dc17 pm17 cd17 ct17 kV17 oc18 dc18 pm18 cd18 ct18 kV18 oc19 dc19 pm19 cd19 ct19 kV19 oc20 dc20 pm20 cd20 ct20 oc21 dc21 pm21 cd21 ct21 : Value}
    {D20 D21 : Addr}
    (a1 : PySem.W.nsIn K mainGlobals "plain_node" = some (some (.ref f1)))
    (l1 : K.lookup f1 = some ⟨oc1, od1, .func (PySem.W.fnOf "plain_node" "plain_node" (defArgs sPlain) (defBody sPlain) (defScope sPlain) .none kV1 dc1 pm1 an1 cd1 ct1), sl1⟩)
    (c1 : PySem.W.codeIn K cd1 "plain_node" = true) (k1 : PySem.W.keepIn K (.ref f1) = true)
    (a2 : PySem.W.nsIn K mainGlobals "parts_of_row" = some (some (.ref f2)))
    (l2 : K.lookup f2 = some ⟨oc2, od2, .func (PySem.W.fnOf "parts_of_row" "parts_of_row" (defArgs sRowParts) (defBody sRowParts) (defScope sRowParts) .none kV2 dc2 pm2 an2 cd2 ct2), sl2⟩)
    (c2 : PySem.W.codeIn K cd2 "parts_of_row" = true) (k2 : PySem.W.keepIn K (.ref f2) = true)
    (a3 : PySem.W.nsIn K mainGlobals "parts_of_node" = some (some (.ref f3)))
    (l3 : K.lookup f3 = some ⟨oc3, od3, .func (PySem.W.fnOf "parts_of_node" "parts_of_node" (defArgs sNodeParts) (defBody sNodeParts) (defScope sNodeParts) .none kV3 dc3 pm3 an3 cd3 ct3), sl3⟩)
    (c3 : PySem.W.codeIn K cd3 "parts_of_node" = true) (k3 : PySem.W.keepIn K (.ref f3) = true)
    (a4 : PySem.W.nsIn K mainGlobals "log2" = some (some (.ref f4)))
    (l4 : K.lookup f4 = some ⟨oc4, od4, .func (PySem.W.fnOf "log2" "log2" (defArgs sLog) (defBody sLog) (defScope sLog) .none kV4 dc4 pm4 an4 cd4 ct4), sl4⟩)
    (c4 : PySem.W.codeIn K cd4 "log2" = true) (k4 : PySem.W.keepIn K (.ref f4) = true)
    (a5 : PySem.W.nsIn K mainGlobals "_node_size" = some (some (.ref f5)))
    (l5 : K.lookup f5 = some ⟨oc5, od5, .func (PySem.W.fnOf "_node_size" "_node_size" (defArgs sNode) (defBody sNode) (defScope sNode) .none kV5 dc5 pm5 an5 cd5 ct5), sl5⟩)
    (c5 : PySem.W.codeIn K cd5 "_node_size" = true) (k5 : PySem.W.keepIn K (.ref f5) = true)
    (a6 : PySem.W.nsIn K mainGlobals "_parts_size" = some (some (.ref f6)))
    (l6 : K.lookup f6 = some ⟨oc6, od6, .func (PySem.W.fnOf "_parts_size" "_parts_size" (defArgs sParts) (defBody sParts) (defScope sParts) .none kV6 dc6 pm6 an6 cd6 ct6), sl6⟩)
    (c6 : PySem.W.codeIn K cd6 "_parts_size" = true) (k6 : PySem.W.keepIn K (.ref f6) = true)
    (a7 : PySem.W.nsIn K mainGlobals "_row_size" = some (some (.ref f7)))
    (l7 : K.lookup f7 = some ⟨oc7, od7, .func (PySem.W.fnOf "_row_size" "_row_size" (defArgs sRow) (defBody sRow) (defScope sRow) .none kV7 dc7 pm7 an7 cd7 ct7), sl7⟩)
    (c7 : PySem.W.codeIn K cd7 "_row_size" = true) (k7 : PySem.W.keepIn K (.ref f7) = true)
    (a8 : PySem.W.nsIn K mainGlobals "_law_whole" = some (some (.ref f8)))
    (l8 : K.lookup f8 = some ⟨oc8, od8, .func (PySem.W.fnOf "_law_whole" "_law_whole" (defArgs sWhole) (defBody sWhole) (defScope sWhole) .none kV8 dc8 pm8 an8 cd8 ct8), sl8⟩)
    (c8 : PySem.W.codeIn K cd8 "_law_whole" = true) (k8 : PySem.W.keepIn K (.ref f8) = true)
    (a9 : PySem.W.nsIn K mainGlobals "_law_cell" = some (some (.ref f9)))
    (l9 : K.lookup f9 = some ⟨oc9, od9, .func (PySem.W.fnOf "_law_cell" "_law_cell" (defArgs sCell) (defBody sCell) (defScope sCell) .none kV9 dc9 pm9 an9 cd9 ct9), sl9⟩)
    (c9 : PySem.W.codeIn K cd9 "_law_cell" = true) (k9 : PySem.W.keepIn K (.ref f9) = true)
    (a10 : PySem.W.nsIn K mainGlobals "_law_digits" = some (some (.ref f10)))
    (l10 : K.lookup f10 = some ⟨oc10, od10, .func (PySem.W.fnOf "_law_digits" "_law_digits" (defArgs sDigits) (defBody sDigits) (defScope sDigits) .none kV10 dc10 pm10 an10 cd10 ct10), sl10⟩)
    (c10 : PySem.W.codeIn K cd10 "_law_digits" = true) (k10 : PySem.W.keepIn K (.ref f10) = true)
    (a11 : PySem.W.nsIn K mainGlobals "_law_free" = some (some (.ref f11)))
    (l11 : K.lookup f11 = some ⟨oc11, od11, .func (PySem.W.fnOf "_law_free" "_law_free" (defArgs sFree) (defBody sFree) (defScope sFree) .none kV11 dc11 pm11 an11 cd11 ct11), sl11⟩)
    (c11 : PySem.W.codeIn K cd11 "_law_free" = true) (k11 : PySem.W.keepIn K (.ref f11) = true)
    (a12 : PySem.W.nsIn K mainGlobals "_law_row_size" = some (some (.ref f12)))
    (l12 : K.lookup f12 = some ⟨oc12, od12, .func (PySem.W.fnOf "_law_row_size" "_law_row_size" (defArgs sLRow) (defBody sLRow) (defScope sLRow) .none kV12 dc12 pm12 an12 cd12 ct12), sl12⟩)
    (c12 : PySem.W.codeIn K cd12 "_law_row_size" = true) (k12 : PySem.W.keepIn K (.ref f12) = true)
    (a13 : PySem.W.nsIn K mainGlobals "_law_size" = some (some (.ref f13)))
    (l13 : K.lookup f13 = some ⟨oc13, od13, .func (PySem.W.fnOf "_law_size" "_law_size" (defArgs sLSize) (defBody sLSize) (defScope sLSize) .none kV13 dc13 pm13 an13 cd13 ct13), sl13⟩)
    (c13 : PySem.W.codeIn K cd13 "_law_size" = true) (k13 : PySem.W.keepIn K (.ref f13) = true)
    (a14 : PySem.W.nsIn K mainGlobals "_law_parameters" = some (some (.ref f14)))
    (l14 : K.lookup f14 = some ⟨oc14, od14, .func (PySem.W.fnOf "_law_parameters" "_law_parameters" (defArgs sParams) (defBody sParams) (defScope sParams) .none kV14 dc14 pm14 an14 cd14 ct14), sl14⟩)
    (c14 : PySem.W.codeIn K cd14 "_law_parameters" = true) (k14 : PySem.W.keepIn K (.ref f14) = true)
    (a15 : PySem.W.nsIn K mainGlobals "_law_utmost" = some (some (.ref f15)))
    (l15 : K.lookup f15 = some ⟨oc15, od15, .func (PySem.W.fnOf "_law_utmost" "_law_utmost" (defArgs sUtmost) (defBody sUtmost) (defScope sUtmost) .none kV15 dc15 pm15 an15 cd15 ct15), sl15⟩)
    (c15 : PySem.W.codeIn K cd15 "_law_utmost" = true) (k15 : PySem.W.keepIn K (.ref f15) = true)
    (a16 : PySem.W.nsIn K mainGlobals "_law_binomial" = some (some (.ref f16)))
    (l16 : K.lookup f16 = some ⟨oc16, od16, .func (PySem.W.fnOf "_law_binomial" "_law_binomial" (defArgs sBinom) (defBody sBinom) (defScope sBinom) .none kV16 dc16 pm16 an16 cd16 ct16), sl16⟩)
    (c16 : PySem.W.codeIn K cd16 "_law_binomial" = true) (k16 : PySem.W.keepIn K (.ref f16) = true)
    (a17 : PySem.W.nsIn K mainGlobals "_law_bound" = some (some (.ref f17)))
    (l17 : K.lookup f17 = some ⟨oc17, od17, .func (PySem.W.fnOf "_law_bound" "_law_bound" (defArgs sLBound) (defBody sLBound) (defScope sLBound) .none kV17 dc17 pm17 an17 cd17 ct17), sl17⟩)
    (c17 : PySem.W.codeIn K cd17 "_law_bound" = true) (k17 : PySem.W.keepIn K (.ref f17) = true)
    (a18 : PySem.W.nsIn K mainGlobals "_law_right" = some (some (.ref f18)))
    (l18 : K.lookup f18 = some ⟨oc18, od18, .func (PySem.W.fnOf "_law_right" "_law_right" (defArgs sRight) (defBody sRight) (defScope sRight) .none kV18 dc18 pm18 an18 cd18 ct18), sl18⟩)
    (c18 : PySem.W.codeIn K cd18 "_law_right" = true) (k18 : PySem.W.keepIn K (.ref f18) = true)
    (a19 : PySem.W.nsIn K mainGlobals "law" = some (some (.ref f19)))
    (l19 : K.lookup f19 = some ⟨oc19, od19, .func (PySem.W.fnOf "law" "law" (defArgs sLaw) (defBody sLaw) (defScope sLaw) .none kV19 dc19 pm19 an19 cd19 ct19), sl19⟩)
    (c19 : PySem.W.codeIn K cd19 "law" = true) (k19 : PySem.W.keepIn K (.ref f19) = true)
    (a20 : PySem.W.nsIn K mainGlobals "universal_size" = some (some (.ref f20)))
    (l20 : K.lookup f20 = some ⟨oc20, od20, .func (PySem.W.fnOf "universal_size" "universal_size" (defArgs sUsize) (defBody sUsize) (defScope sUsize) .none (.ref D20) dc20 pm20 an20 cd20 ct20), sl20⟩)
    (c20 : PySem.W.codeIn K cd20 "universal_size" = true) (k20 : PySem.W.keepIn K (.ref f20) = true)
    (d20 : PySem.W.nsIn K D20 "branching" = some (some .none))
    (a21 : PySem.W.nsIn K mainGlobals "size_bound" = some (some (.ref f21)))
    (l21 : K.lookup f21 = some ⟨oc21, od21, .func (PySem.W.fnOf "size_bound" "size_bound" (defArgs sBound) (defBody sBound) (defScope sBound) .none (.ref D21) dc21 pm21 an21 cd21 ct21), sl21⟩)
    (c21 : PySem.W.codeIn K cd21 "size_bound" = true) (k21 : PySem.W.keepIn K (.ref f21) = true)
    (d21 : PySem.W.nsIn K D21 "branching" = some (some .none))
    (z1 : PySem.W.nsIn K mainGlobals "len" = some none)
    (z2 : PySem.W.nsIn K mainGlobals "isinstance" = some none)
    (z3 : PySem.W.nsIn K mainGlobals "int" = some none)
    (z4 : PySem.W.nsIn K mainGlobals "bool" = some none)
    (z5 : PySem.W.nsIn K mainGlobals "range" = some none)
    (z6 : PySem.W.nsIn K mainGlobals "max" = some none)
    (z7 : PySem.W.nsIn K mainGlobals "min" = some none)
    (zc : PySem.W.nsIn K mainGlobals "comb" = some (some (.builtin "math.comb"))) :
    ∃ fd : FuncData, (∀ (s : Shared) (v : Value), BindsTo s fd ⟨[v], []⟩ [("script", v)]) ∧ ∀ base : Heap, K.In base → base.Ns mainGlobals mg → FnOk l.prog w K mg base CX0 143 fa fd ["script"] (spLaw K) := by
  have e := hfa.symm.trans (PySem.W.mg_of X G a19)
  cases e
  have F1 := fun_mk (st := sPlain) l1 c1 k1
  have b1 : Binds K _ ["leaves", "height", "branching"] [] := F1.binds (ps := ["leaves", "height", "branching"]) fun _ _ _ _ _ _ us hl => match us, hl with | [_, _, _], _ => rfl
  have m1 := PySem.W.mg_of X G a1
  have F2 := fun_mk (st := sRowParts) l2 c2 k2
  have b2 : Binds K _ ["row"] [] := F2.binds (ps := ["row"]) fun _ _ _ _ _ _ us hl => match us, hl with | [_], _ => rfl
  have m2 := PySem.W.mg_of X G a2
  have F3 := fun_mk (st := sNodeParts) l3 c3 k3
  have b3 : Binds K _ ["node"] [] := F3.binds (ps := ["node"]) fun _ _ _ _ _ _ us hl => match us, hl with | [_], _ => rfl
  have m3 := PySem.W.mg_of X G a3
  have F4 := fun_mk (st := sLog) l4 c4 k4
  have b4 : Binds K _ ["number"] [] := F4.binds (ps := ["number"]) fun _ _ _ _ _ _ us hl => match us, hl with | [_], _ => rfl
  have m4 := PySem.W.mg_of X G a4
  have F5 := fun_mk (st := sNode) l5 c5 k5
  have b5 : Binds K _ ["node", "sizes"] [] := F5.binds (ps := ["node", "sizes"]) fun _ _ _ _ _ _ us hl => match us, hl with | [_, _], _ => rfl
  have m5 := PySem.W.mg_of X G a5
  have F6 := fun_mk (st := sParts) l6 c6 k6
  have b6 : Binds K _ ["parts", "sizes"] [] := F6.binds (ps := ["parts", "sizes"]) fun _ _ _ _ _ _ us hl => match us, hl with | [_, _], _ => rfl
  have m6 := PySem.W.mg_of X G a6
  have F7 := fun_mk (st := sRow) l7 c7 k7
  have b7 : Binds K _ ["row", "sizes"] [] := F7.binds (ps := ["row", "sizes"]) fun _ _ _ _ _ _ us hl => match us, hl with | [_, _], _ => rfl
  have m7 := PySem.W.mg_of X G a7
  have F8 := fun_mk (st := sWhole) l8 c8 k8
  have b8 : Binds K _ ["value"] [] := F8.binds (ps := ["value"]) fun _ _ _ _ _ _ us hl => match us, hl with | [_], _ => rfl
  have m8 := PySem.W.mg_of X G a8
  have F9 := fun_mk (st := sCell) l9 c9 k9
  have b9 : Binds K _ ["script", "k"] [] := F9.binds (ps := ["script", "k"]) fun _ _ _ _ _ _ us hl => match us, hl with | [_, _], _ => rfl
  have m9 := PySem.W.mg_of X G a9
  have F10 := fun_mk (st := sDigits) l10 c10 k10
  have b10 : Binds K _ ["cell", "sizes"] [] := F10.binds (ps := ["cell", "sizes"]) fun _ _ _ _ _ _ us hl => match us, hl with | [_, _], _ => rfl
  have m10 := PySem.W.mg_of X G a10
  have F11 := fun_mk (st := sFree) l11 c11 k11
  have b11 : Binds K _ ["n", "h", "k"] [] := F11.binds (ps := ["n", "h", "k"]) fun _ _ _ _ _ _ us hl => match us, hl with | [_, _, _], _ => rfl
  have m11 := PySem.W.mg_of X G a11
  have F12 := fun_mk (st := sLRow) l12 c12 k12
  have b12 : Binds K _ psR [] := F12.binds (ps := psR) fun _ _ _ _ _ _ us hl => match us, hl with | [_, _, _, _], _ => rfl
  have m12 := PySem.W.mg_of X G a12
  have F13 := fun_mk (st := sLSize) l13 c13 k13
  have b13 : Binds K _ psS [] := F13.binds (ps := psS) fun _ _ _ _ _ _ us hl => match us, hl with | [_, _, _, _], _ => rfl
  have m13 := PySem.W.mg_of X G a13
  have F14 := fun_mk (st := sParams) l14 c14 k14
  have b14 : Binds K _ ["script", "at"] [] := F14.binds (ps := ["script", "at"]) fun _ _ _ _ _ _ us hl => match us, hl with | [_, _], _ => rfl
  have m14 := PySem.W.mg_of X G a14
  have F15 := fun_mk (st := sUtmost) l15 c15 k15
  have b15 : Binds K _ ["script", "at"] [] := F15.binds (ps := ["script", "at"]) fun _ _ _ _ _ _ us hl => match us, hl with | [_, _], _ => rfl
  have m15 := PySem.W.mg_of X G a15
  have F16 := fun_mk (st := sBinom) l16 c16 k16
  have b16 : Binds K _ ["a", "b"] [] := F16.binds (ps := ["a", "b"]) fun _ _ _ _ _ _ us hl => match us, hl with | [_, _], _ => rfl
  have m16 := PySem.W.mg_of X G a16
  have F17 := fun_mk (st := sLBound) l17 c17 k17
  have b17 : Binds K _ ["n", "h", "k"] [] := F17.binds (ps := ["n", "h", "k"]) fun _ _ _ _ _ _ us hl => match us, hl with | [_, _, _], _ => rfl
  have m17 := PySem.W.mg_of X G a17
  have F18 := fun_mk (st := sRight) l18 c18 k18
  have b18 : Binds K _ ["drawn", "size", "bound"] [] := F18.binds (ps := ["drawn", "size", "bound"]) fun _ _ _ _ _ _ us hl => match us, hl with | [_, _, _], _ => rfl
  have m18 := PySem.W.mg_of X G a18
  have F19 := fun_mk (st := sLaw) l19 c19 k19
  have m19 := PySem.W.mg_of X G a19
  have F20 : FunU K f20 _ := ⟨⟨oc20, od20, .none, .ref D20, dc20, pm20, an20, cd20, ct20, sl20, rfl, l20, c20, .inl ⟨rfl, rfl⟩, .inr ⟨D20, rfl, fun q hq => by
    have e : q = (("branching" : Str), V.non) := by simpa using hq
    subst e
    exact ⟨.none, d20, rfl⟩⟩⟩, k20⟩
  have m20 := PySem.W.mg_of X G a20
  have F21 : FunB K f21 _ := ⟨⟨oc21, od21, .none, .ref D21, dc21, pm21, an21, cd21, ct21, sl21, rfl, l21, c21, .inl ⟨rfl, rfl⟩, .inr ⟨D21, rfl, fun q hq => by
    have e : q = (("branching" : Str), V.non) := by simpa using hq
    subst e
    exact ⟨.none, d21, rfl⟩⟩⟩, k21⟩
  have m21 := PySem.W.mg_of X G a21
  have n_len := PySem.W.mg_none_of X G z1
  have n_isinstance := PySem.W.mg_none_of X G z2
  have n_int := PySem.W.mg_none_of X G z3
  have n_bool := PySem.W.mg_none_of X G z4
  have n_range := PySem.W.mg_none_of X G z5
  have n_max := PySem.W.mg_none_of X G z6
  have n_min := PySem.W.mg_none_of X G z7
  have mc := PySem.W.mg_of X G zc
  refine ⟨PySem.W.fnOf "law" "law" (defArgs sLaw) (defBody sLaw) (defScope sLaw) .none kV19 dc19 pm19 an19 cd19 ct19, fun s v => .of_eq rfl, fun base _ _ => ?_⟩
  have P1 := ok_plain (P := l.prog) (w := w) (mg := mg) (base := base) F1
  have P2 := ok_rowParts (P := l.prog) (w := w) (base := base) F2 P1 b1 k1 m1
  have P3 := ok_nodeParts (P := l.prog) (w := w) (base := base) F3 P1 b1 k1 m1 P2 b2 k2 m2
  have P4 := ok_log (P := l.prog) (w := w) (mg := mg) (base := base) F4
  have PN : ∀ n0, n0 < 2 ^ 20 → FnOk l.prog w K mg base CX0 140 f5 _ ["node", "sizes"] (spNode l.prog w n0 140) := fun n0 hn =>
    (sizes_all (P := l.prog) (w := w) (base := base) hn F5 b5 m5 F6 b6 m6 F7 b7 m7 P3 b3 k3 m3 P2 b2 k2 m2 140).1
  have PU := ok_usize (P := l.prog) (w := w) (base := base) F20 P1 b1 k1 m1 PN b5 k5 m5
  have PB := ok_bound (P := l.prog) (w := w) (base := base) F21 P4 b4 k4 m4 mc n_min
  have PW := ok_whole (P := l.prog) (w := w) (base := base) F8 n_isinstance n_int n_bool
  have PC := ok_cell (P := l.prog) (w := w) (base := base) F9 n_len n_int
  have PD := ok_digits (P := l.prog) (w := w) (base := base) F10 n_len n_int n_range
  have PF := ok_free (P := l.prog) (w := w) (base := base) F11 n_range
  have PS : FnOk l.prog w K mg base CX0 70 f13 _ psS (spLSizeX l.prog w) := FnOk.ex (ι := Roots) fun i => (lsizes_all (P := l.prog) (w := w) (base := base) i.2.1 i.2.2 F12 b12 m12 F13 b13 m13 PF b11 k11 m11 70).2
  have PP := ok_params (P := l.prog) (w := w) (base := base) F14 PC b9 k9 m9 PD b10 k10 m10 n_int n_range n_max
  have PT := ok_utmost (P := l.prog) (w := w) (base := base) F15 PC b9 k9 m9 PD b10 k10 m10
  have PI := ok_binom (P := l.prog) (w := w) (base := base) F16 n_len n_range
  have PL := ok_lbound (P := l.prog) (w := w) (base := base) F17 PI b16 k16 m16 n_range n_min
  have PR := ok_right (P := l.prog) (w := w) (base := base) F18 PU F20 m20 PB F21 m21 PW b8 k8 m8
  exact ok_law F19 PP b14 k14 m14 PT b15 k15 m15 PS b13 k13 m13 PL b17 k17 m17 PR b18 k18 m18 PC b9 k9 m9 n_int
end K11
open PySem PySem.W PyProof.Rows
set_option maxRecDepth 100000 in
set_option maxHeartbeats 0 in
theorem PySem.Challenge.cw_holdsalltrees_k11_sizes_and_bounds_holds : PySem.Challenge.rw_holdsalltrees_k11_sizes_and_bounds.Holds := by
  w_on; o_law; k_head; (case hw => w_witness2)
  k_fill
  refine L2.walk_of (l := PySem.Challenge.rw_holdsalltrees_k11_sizes_and_bounds) (n := 63) (k := 143) (x := "script") (CX := fun _ => L2.CX0) (sp := fun w => K11.spLaw _) rfl (by decide) rfl ⟨rfl, by decide, by decide⟩ (fun w h Y => PySem.W.kIn_of Y) ?F (fun _ _ a ns hl _ hS => ⟨a, ns, rfl, hS, hl, fun _ => rfl⟩) (fun _ _ _ _ _ h => h)
  case F =>
    intro w mg fa h KX G hmg
    refine' K11.all_mk KX G hmg ?a1 ?l1 ?c1 ?k1 ?a2 ?l2 ?c2 ?k2 ?a3 ?l3 ?c3 ?k3 ?a4 ?l4 ?c4 ?k4 ?a5 ?l5 ?c5 ?k5 ?a6 ?l6 ?c6 ?k6 ?a7 ?l7 ?c7 ?k7 ?a8 ?l8 ?c8 ?k8 ?a9 ?l9 ?c9 ?k9 ?a10 ?l10 ?c10 ?k10 ?a11 ?l11 ?c11 ?k11 ?a12 ?l12 ?c12 ?k12 ?a13 ?l13 ?c13 ?k13 ?a14 ?l14 ?c14 ?k14 ?a15 ?l15 ?c15 ?k15 ?a16 ?l16 ?c16 ?k16 ?a17 ?l17 ?c17 ?k17 ?a18 ?l18 ?c18 ?k18 ?a19 ?l19 ?c19 ?k19 ?a20 ?l20 ?c20 ?k20 ?d20 ?a21 ?l21 ?c21 ?k21 ?d21 ?z1 ?z2 ?z3 ?z4 ?z5 ?z6 ?z7 ?zc
    (case a1 => k_is)
    (case l1 => k_is)
    (case c1 => k_is)
    (case k1 => k_is)
    (case a2 => k_is)
    (case l2 => k_is)
    (case c2 => k_is)
    (case k2 => k_is)
    (case a3 => k_is)
    (case l3 => k_is)
    (case c3 => k_is)
    (case k3 => k_is)
    (case a4 => k_is)
    (case l4 => k_is)
    (case c4 => k_is)
    (case k4 => k_is)
    (case a5 => k_is)
    (case l5 => k_is)
    (case c5 => k_is)
    (case k5 => k_is)
    (case a6 => k_is)
    (case l6 => k_is)
    (case c6 => k_is)
    (case k6 => k_is)
    (case a7 => k_is)
    (case l7 => k_is)
    (case c7 => k_is)
    (case k7 => k_is)
    (case a8 => k_is)
    (case l8 => k_is)
    (case c8 => k_is)
    (case k8 => k_is)
    (case a9 => k_is)
    (case l9 => k_is)
    (case c9 => k_is)
    (case k9 => k_is)
    (case a10 => k_is)
    (case l10 => k_is)
    (case c10 => k_is)
    (case k10 => k_is)
    (case a11 => k_is)
    (case l11 => k_is)
    (case c11 => k_is)
    (case k11 => k_is)
    (case a12 => k_is)
    (case l12 => k_is)
    (case c12 => k_is)
    (case k12 => k_is)
    (case a13 => k_is)
    (case l13 => k_is)
    (case c13 => k_is)
    (case k13 => k_is)
    (case a14 => k_is)
    (case l14 => k_is)
    (case c14 => k_is)
    (case k14 => k_is)
    (case a15 => k_is)
    (case l15 => k_is)
    (case c15 => k_is)
    (case k15 => k_is)
    (case a16 => k_is)
    (case l16 => k_is)
    (case c16 => k_is)
    (case k16 => k_is)
    (case a17 => k_is)
    (case l17 => k_is)
    (case c17 => k_is)
    (case k17 => k_is)
    (case a18 => k_is)
    (case l18 => k_is)
    (case c18 => k_is)
    (case k18 => k_is)
    (case a19 => k_is)
    (case l19 => k_is)
    (case c19 => k_is)
    (case k19 => k_is)
    (case a20 => k_is)
    (case l20 => k_is)
    (case c20 => k_is)
    (case k20 => k_is)
    (case d20 => k_is)
    (case a21 => k_is)
    (case l21 => k_is)
    (case c21 => k_is)
    (case k21 => k_is)
    (case d21 => k_is)
    (case z1 => k_is)
    (case z2 => k_is)
    (case z3 => k_is)
    (case z4 => k_is)
    (case z5 => k_is)
    (case z6 => k_is)
    (case z7 => k_is)
    (case zc => k_is)
