import PyProof.Rows.All
import Wide.All
import OpenK.AllK
import Wide.FinOn
import HandS.ForMost
import HandS.Wide
import HandS.WideBits
import HandS.Defaults
import HandS.IsInst
import HandS.Gcd
import HandS.Flow
import KE.KDictKeyed
import KE.KMathGC
import HandS.Conv
import HandS.TupAny
import HandS.Codes
import HandS.More
import PySem.Challenge.RW_holdsalltrees_k21_lower_numbers
set_option Elab.async false
set_option linter.all false
set_option maxRecDepth 100000
set_option maxHeartbeats 4000000
/-! ### dicts whose keys are tuples of ints, texts and None; a table of right answers -/
namespace K11
open PySem PySem.Spec PyProof.Rows L2
def lV : Leaf → V
  | .none => .non
  | .num i => .int i
  | .text x => .str x
theorem lV_is {k : Leaf} {u : Value} (r : RelV (lV k) u) : Leaf.isOf k u = true := by
  cases k with
  | none =>
    have e : u = Value.none := r
    rw [e]
    rfl
  | num i =>
    obtain ⟨t, e⟩ := (show ∃ t, u = Value.int i t from r)
    rw [e]
    exact decide_eq_true rfl
  | text x =>
    obtain ⟨t, e⟩ := (show ∃ t, u = Value.str x t from r)
    rw [e]
    exact keyIs_str x t
abbrev LK (P : Program) (w : World) := tupleKind (leafKind P w)
theorem leaves_are {P : Program} {w : World} : ∀ {ks : List Leaf} {us : List Value}, Vals (ks.map lV) us → PySem.ItemsAre (leafKind P w) ks us := by
  intro ks
  induction ks with
  | nil =>
    intro us r
    cases us with
    | nil => exact .nil
    | cons a l => exact nomatch (show Vals [] (a :: l) from r)
  | cons k ks ih =>
    intro us r
    cases us with
    | nil => exact nomatch (show Vals (lV k :: ks.map lV) [] from r)
    | cons a l =>
      have r' : Vals (lV k :: ks.map lV) (a :: l) := r
      cases r' with
      | cons h t => exact .cons (lV_is h) (ih t)
theorem leaf_key {P : Program} {w : World} {H : Hp} {h : Heap} {b : Addr} {ks : List Leaf} (ok : HOk P w H h) (e : H b = some (.tup (ks.map lV))) : (LK P w).is h ks b := by
  have q : ObjOk P w H h b (.tup (ks.map lV)) := ok b _ e
  obtain ⟨_, its, rv, o, e1, e2, m, e3⟩ := q
  refine ⟨o, its.toArray, m, e1, e2, e3, ?_⟩
  have l := leaves_are (P := P) (w := w) rv
  simpa using l
/-- the dict at a has these entries -/
def RawD (P : Program) (w : World) (a : Addr) (xs : List (List Leaf × Addr × Value)) (h : Heap) : Prop :=
  (a == sysModules) = false ∧ ∃ o es ep, h.get? a = some o ∧ o.ExactDict ∧ o.data = .dict es ep ∧
    es.toList = xs.map (entryOfKey (LK P w)) ∧ (xs.map fun x => x.1).Nodup
theorem rawD_stays {P : Program} {w : World} {a : Addr} {xs : List (List Leaf × Addr × Value)} : ∀ h1 h2 : Heap, RawD P w a xs h1 →
    (∀ o, h1.get? a = some o → h2.get? a = some o) → RawD P w a xs h2 := by
  intro h1 h2 q st
  obtain ⟨q0, o, es, ep, e, r⟩ := q
  exact ⟨q0, o, es, ep, st o e, r⟩
/-- a table at a: its keys ks; each value is what S says of its key -/
def Tab (P : Program) (w : World) (S : List Leaf → V → Prop) (H : Hp) (a : Addr) (ks : List (List Leaf)) : Prop :=
  ∃ xs : List (List Leaf × Addr × Value), (xs.map fun x => x.1) = ks ∧ ks.Nodup ∧
    (∀ x ∈ xs, H x.2.1 = some (.tup (x.1.map lV)) ∧ ∃ v, RelV v x.2.2 ∧ S x.1 v) ∧ H a = some (.ext (RawD P w a xs))
/-- nothing but a is changed -/
def But (a : Addr) (H H' : Hp) : Prop := ∀ b o, b ≠ a → H b = some o → H' b = some o
theorem But.refl (a : Addr) (H : Hp) : But a H H := fun _ _ _ e => e
theorem But.trans {a : Addr} {H H1 H2 : Hp} (p : But a H H1) (q : But a H1 H2) : But a H H2 := fun b o n e => q b o n (p b o n e)
theorem But.same {a : Addr} {H H' : Hp} (p : Same H H') : But a H H' := fun b o _ e => p b o e
section
variable {P : Program} {w : World} {S : List Leaf → V → Prop} {H H' : Hp} {a : Addr} {ks : List (List Leaf)}
theorem Tab.keep (T : Tab P w S H a ks) (s : Same H H') : Tab P w S H' a ks := by
  obtain ⟨xs, e1, e2, e3, e4⟩ := T
  exact ⟨xs, e1, e2, fun x hx => ⟨s _ _ (e3 x hx).1, (e3 x hx).2⟩, s _ _ e4⟩
theorem Tab.holds (T : Tab P w S H a ks) : ∃ φ, H a = some (.ext φ) := let ⟨xs, _, _, _, e⟩ := T; ⟨_, e⟩
theorem Tab.all (T : Tab P w S H a ks) : ∀ k ∈ ks, ∃ v, S k v := by
  obtain ⟨xs, e1, e2, e3, e4⟩ := T
  intro k hk
  rw [← e1] at hk
  obtain ⟨x, hx, rfl⟩ := List.mem_map.mp hk
  obtain ⟨v, _, q⟩ := (e3 x hx).2
  exact ⟨v, q⟩
theorem Tab.nodup (T : Tab P w S H a ks) : ks.Nodup := let ⟨_, _, e, _⟩ := T; e
theorem Tab.dict {h : Heap} (ok : HOk P w H h) {xs : List (List Leaf × Addr × Value)}
    (e3 : ∀ x ∈ xs, H x.2.1 = some (.tup (x.1.map lV)) ∧ ∃ v, RelV v x.2.2 ∧ S x.1 v) (e4 : H a = some (.ext (RawD P w a xs))) :
    (a == sysModules) = false ∧ h.DictOfH (LK P w) a xs := by
  have q : ObjOk P w H h a (.ext (RawD P w a xs)) := ok a _ e4
  obtain ⟨⟨q0, o, es, ep, g1, g2, g3, g4, g5⟩, _⟩ := q
  exact ⟨q0, o, es, ep, g1, g2, g3, g4, fun x hx => leaf_key ok (e3 x hx).1, g5⟩
end
theorem atKey_some {xs : List (List Leaf × Addr × Value)} {k : List Leaf} : (atKey xs k).isSome = decide (k ∈ xs.map fun x => x.1) := by
  induction xs with
  | nil => simp [atKey]
  | cons x xs ih =>
    by_cases e : x.1 = k
    · have q : atKey (x :: xs) k = some x.2 := by simp [atKey, e]
      rw [q]; simp [e]
    · have q : atKey (x :: xs) k = atKey xs k := by simp [atKey, e]
      rw [q, ih]
      have e' : ¬ k = x.1 := fun z => e z.symm
      simp [e']
theorem atKey_mem {xs : List (List Leaf × Addr × Value)} {k : List Leaf} {p : Addr × Value} (h : atKey xs k = some p) : (k, p) ∈ xs := by
  unfold atKey at h
  obtain ⟨x, hx, rfl⟩ := Option.map_eq_some_iff.mp h
  have m := List.mem_of_find?_eq_some hx
  have e := List.find?_some hx
  have e' : x.1 = k := of_decide_eq_true e
  rw [← e']
  exact m
theorem stored_keys (xs : List (List Leaf × Addr × Value)) (k : List Leaf) (b : Addr) (v : Value) :
    ((storedH xs k b v).map fun x => x.1) = if k ∈ xs.map (fun x => x.1) then xs.map (fun x => x.1) else xs.map (fun x => x.1) ++ [k] := by
  unfold storedH
  have e := atKey_some (xs := xs) (k := k)
  by_cases h : k ∈ xs.map (fun x => x.1)
  · rw [decide_eq_true h] at e
    rw [if_pos e, if_pos h, List.map_map]
    refine List.map_congr_left fun x _ => ?_
    by_cases q : x.1 = k <;> simp [putAt, q]
  · rw [decide_eq_false h] at e
    rw [if_neg (by rw [e]; decide), if_neg h, List.map_append]
    rfl
theorem stored_mem {xs : List (List Leaf × Addr × Value)} {k : List Leaf} {b : Addr} {v : Value} {x : List Leaf × Addr × Value} (h : x ∈ storedH xs k b v) :
    x ∈ xs ∨ x = (k, b, v) ∨ ∃ y ∈ xs, y.1 = k ∧ x = (y.1, y.2.1, v) := by
  unfold storedH at h
  by_cases q : (atKey xs k).isSome = true
  · rw [if_pos q] at h
    obtain ⟨y, hy, rfl⟩ := List.mem_map.mp h
    by_cases e : y.1 = k
    · exact .inr (.inr ⟨y, hy, e, by simp [putAt, e]⟩)
    · left
      have z : putAt k v y = y := by simp [putAt, e]
      rw [z]; exact hy
  · rw [if_neg q] at h
    rcases List.mem_append.mp h with h | h
    · exact .inl h
    · right; left; simpa using h
/-! ### the rules -/
def tTNotIn (P : Program) (w : World) (ty td : TE) : TE := fun σ H Q => ty σ H fun y H1 => td σ H1 fun x H2 =>
  ∃ (S : List Leaf → V → Prop) (a b : Addr) (ks : List (List Leaf)) (k : List Leaf), x = .ref a ∧ y = .ref b ∧ Tab P w S H2 a ks ∧ H2 b = some (.tup (k.map lV)) ∧ Q (.bl (!decide (k ∈ ks))) H2
def tTGet (P : Program) (w : World) (td ty : TE) : TE := fun σ H Q => td σ H fun x H1 => ty σ H1 fun y H2 =>
  ∃ (S : List Leaf → V → Prop) (a b : Addr) (ks : List (List Leaf)) (k : List Leaf), x = .ref a ∧ y = .ref b ∧ Tab P w S H2 a ks ∧ H2 b = some (.tup (k.map lV)) ∧ k ∈ ks ∧ ∀ v, S k v → Q v H2
def sTPut (P : Program) (w : World) (td ty tv : TE) : TS := fun D σ H => tv σ H fun v H1 => td σ H1 fun x H2 => ty σ H2 fun y H3 =>
  ∃ (S : List Leaf → V → Prop) (a b : Addr) (ks : List (List Leaf)) (k : List Leaf), x = .ref a ∧ y = .ref b ∧ Tab P w S H3 a ks ∧ H3 b = some (.tup (k.map lV)) ∧ S k v ∧ ks.length < sizeLine ∧
    ∀ H4, But a H3 H4 → Tab P w S H4 a (if k ∈ ks then ks else ks ++ [k]) → D.nx σ H4
section
variable {X : Cx} {o i value : Expr} {pos pos' : Pos} {td ty tv : TE}
theorem pc_tnotin (hu : X.A.units + 1 < cLine) (hi : PE X i ty) (ho : PE X o td) : PC X .NotIn i o (tTNotIn X.prog X.w ty td) := by
  constructor
  intro pins s σ H Q I h
  refine thn (hi.run pins s σ H _ I h) fun iv s1 R1 => ?_
  obtain ⟨y, H1, I1, ry, q1⟩ := R1
  refine thn (ho.run pins s1 σ H1 _ I1 q1) fun u s2 R2 => ?_
  obtain ⟨x, H2, I2, rx, S, a, b, ks, k, ex, ey, T, eb, q2⟩ := R2
  subst ex ey
  have e1 : u = Value.ref a := rx
  have e2 : iv = Value.ref b := ry
  subst e1 e2
  obtain ⟨xs, g1, g2, g3, g4⟩ := T
  obtain ⟨hd, dd⟩ := Tab.dict I2.hok g3 g4
  refine wpAny_notIn_heap (tupleKind_room_in1 hu) (leaf_key I2.hok eb) hd dd ?_
  rw [atKey_some, g1]
  exact ⟨.bl (!decide (k ∈ ks)), H2, I2.tok _, rfl, q2⟩
theorem pe_tget (hu : X.A.units + 1 < cLine) (ho : PE X o td) (hi : PE X i ty) (hs : NoSl i) : PE X (.Subscript o i pos) (tTGet X.prog X.w td ty) := by
  constructor
  intro pins s σ H Q I h
  refine subD_of PySem.F.slot_dict_getitem.lookup hs ?_
  refine thn (ho.run pins s σ H _ I h) fun u s1 R1 => ?_
  obtain ⟨x, H1, I1, rx, q1⟩ := R1
  refine thn (hi.run pins s1 σ H1 _ I1 q1) fun iv s2 R2 => ?_
  obtain ⟨y, H2, I2, ry, S, a, b, ks, k, ex, ey, T, eb, hk, q2⟩ := R2
  subst ex ey
  have e1 : u = Value.ref a := rx
  have e2 : iv = Value.ref b := ry
  subst e1 e2
  obtain ⟨xs, g1, g2, g3, g4⟩ := T
  obtain ⟨hd, dd⟩ := Tab.dict I2.hok g3 g4
  refine ⟨dd.typeIs, ?_⟩
  have hsome : (atKey xs k).isSome = true := by rw [atKey_some, g1]; exact decide_eq_true hk
  obtain ⟨p, hp⟩ := Option.isSome_iff_exists.mp hsome
  obtain ⟨v, rv, sv⟩ := (g3 _ (atKey_mem hp)).2
  exact wpAny_getItem_heap (tupleKind_room_in1 hu) (leaf_key I2.hok eb) dd hp ⟨v, H2, I2.tok _, rv, q2 v sv⟩
theorem ps_tput (hu : X.A.units + 1 < cLine) (ho : PE X o td) (hi : PE X i ty) (hv : PE X value tv)
    (hs : swapsWith value (some (.Subscript o i pos')) pos.line X.env = pure false) : PS X (.Assign [.Subscript o i pos'] value pos) (sTPut X.prog X.w td ty tv) := by
  constructor
  intro pins s σ H D I h
  refine wpAny_Assign_Subscript ?_ hs
  refine thn (hv.run pins s σ H _ I h) fun r s1 R1 => ?_
  obtain ⟨v, H1, I1, rv, q1⟩ := R1
  refine thn (ho.run pins s1 σ H1 _ I1 q1) fun u s2 R2 => ?_
  obtain ⟨x, H2, I2, rx, q2⟩ := R2
  refine thn (hi.run pins s2 σ H2 _ I2 q2) fun iv s3 R3 => ?_
  obtain ⟨y, H3, I3, ry, S, a, b, ks, k, ex, ey, T, eb, sv, hl, q3⟩ := R3
  subst ex ey
  have e1 : u = Value.ref a := rx
  have e2 : iv = Value.ref b := ry
  subst e1 e2
  obtain ⟨xs, g1, g2, g3, g4⟩ := T
  obtain ⟨hd, dd⟩ := Tab.dict I3.hok g3 g4
  have hlen : xs.length = ks.length := by rw [← g1, List.length_map]
  refine wpAny_setItem_heap (hsz := by rw [hlen]; exact Nat.le_of_lt hl) (tupleKind_room_in1 hu) (leaf_key I3.hok eb) dd fun h' dd' sb => ?_
  obtain ⟨ob, es, ep, z1, z2, z3, z4, z5, z6⟩ := dd'
  have off : ∀ c, ∀ l, H3 c = some (.tup l) → c ≠ a := fun c l e => ne_of e g4 (fun z => nomatch z)
  have I4 : Inv X pins σ (upd H3 a (.ext (RawD X.prog X.w a (storedH xs k b r)))) { s3 with heap := h', toks := s3.toks + (LK X.prog X.w).draws k } := by
    refine d_write I3 (by rw [g4]; exact True.intro) sb ⟨ob, z1⟩ ?_
    exact ⟨⟨hd, ob, es, ep, z1, z2, z3, z4, z6⟩, ⟨ob, z1⟩, rawD_stays⟩
  refine ⟨σ, _, I4, ?_⟩
  refine q3 _ (fun c p n e => by rw [upd_ne n]; exact e) ?_
  refine ⟨storedH xs k b r, ?_, ?_, ?_, upd_same⟩
  · rw [stored_keys, g1]
  · rw [← g1, ← stored_keys xs k b r]
    exact z6
  · intro x hx
    rcases stored_mem hx with hx | rfl | ⟨y, hy, e, rfl⟩
    · obtain ⟨t1, t2⟩ := g3 x hx
      exact ⟨by rw [upd_ne (off _ _ t1)]; exact t1, t2⟩
    · exact ⟨by show upd H3 a _ b = _; rw [upd_ne (off _ _ eb)]; exact eb, v, rv, sv⟩
    · obtain ⟨t1, t2⟩ := g3 y hy
      refine ⟨by show upd H3 a _ y.2.1 = _; rw [upd_ne (off _ _ t1)]; exact t1, v, rv, ?_⟩
      show S y.1 v
      rw [e]; exact sv
/-- {}, to be such a table -/
def tTNew (P : Program) (w : World) : TE := fun _ H Q => ∀ p H', H p = none → Same H H' → (∀ S, Tab P w S H' p []) → Q (.ref p) H'
theorem pe_tnew : PE X (.Dict [] [] pos) (tTNew X.prog X.w) := by
  constructor
  intro pins s σ H Q I h
  have fr := I.hok.fresh (Nat.le_refl s.heap.objs.size)
  have nb : (s.heap.objs.size == sysModules) = false := beq_eq_false_iff_ne.mpr (Ne.symm (Nat.ne_of_lt I.big))
  have raw : RawD X.prog X.w s.heap.objs.size [] (s.heap.push { cls := .type "dict", data := .dict #[] }) :=
    ⟨nb, _, #[], 0, Heap.get?_push_size _ rfl, ⟨rfl, rfl, rfl⟩, rfl, rfl, List.nodup_nil⟩
  refine wpAny_Dict_empty ⟨.ref s.heap.objs.size, upd H s.heap.objs.size (.ext (RawD X.prog X.w s.heap.objs.size [])), ?_, rfl, ?_⟩
  · refine I.laid (t' := s.toks) (fun _ _ q => Heap.get?_push_of_some _ q) (Nat.le_refl _) ?_
    exact ⟨raw, ⟨_, Heap.get?_push_size _ rfl⟩, rawD_stays⟩
  · refine h _ _ fr (fun c o e => by rw [upd_ne (ne_of_none e fr)]; exact e) fun S => ?_
    exact ⟨[], rfl, List.nodup_nil, (fun x hx => by cases hx), upd_same⟩
end
/-! ### comb -/
def rComb : List V → Hp → VK → Prop := fun vs H Q => ∃ a b : Int, vs = [.int a, .int b] ∧ 0 ≤ a ∧ 0 ≤ b ∧ b ≤ 9000 ∧ a < 2 ^ 64 ∧ Q (.int (PySem.W.mcComb a b)) H
theorem cr_comb {X : Cx} : CallR X (.builtin "math.comb") rComb := by
  intro pins s σ H vs us Q I r h
  obtain ⟨a, b, rfl, ha, hb, hb2, ha2, q⟩ := h
  obtain ⟨t, u, rfl⟩ := Vals.int2 r
  exact PySem.W.mc_comb ha hb ha2 (.inl hb2) fun _ => ⟨.int _, H, I.tok _, ⟨_, rfl⟩, q⟩
end K11
set_option Elab.async false
set_option maxRecDepth 100000
namespace K21
/-! ### the numbers: low, the counts of products, the sizes -/
def lowN : Nat → Nat → Nat
  | 0, n => n
  | d + 1, n => ((List.range n).map fun j => lowN d (n / (j + 1))).sum
/-- the halving row of a number; f calls are enough where n < 2 ^ f -/
def halF : Nat → Nat → List Nat
  | 0, _ => []
  | f + 1, n => if n = 0 then [] else halF f (n / 2) ++ [n] ++ halF f ((n + 1) / 2 - 1)
def sz : Nat → Nat → Nat
  | 0, _ => 1
  | d + 1, n => ((halF 7 n).map (sz d)).sum
def upd1 (one : Nat) (cs l : List Nat) (o : Nat) : List Nat := l.set (one * (o + 1)) (l.getD (one * (o + 1)) 0 + cs.getD (o + 1) 0)
def updI (N : Nat) (cs l : List Nat) (i : Nat) : List Nat := (List.range (N / (i + 1))).foldl (upd1 (i + 1) cs) l
def stepC (N : Nat) (cs : List Nat) : List Nat := (List.range N).foldl (updI N cs) (List.replicate (N + 1) 0)
def cnts (N : Nat) : Nat → List Nat
  | 0 => List.replicate (N + 1) 1
  | s + 1 => stepC N (cnts N s)
def tabL : List (List Nat) := [
  [0, 1, 2, 3, 4, 5, 6, 7, 8, 9, 10, 11, 12, 13, 14, 15, 16, 17, 18, 19, 20, 21, 22, 23, 24, 25, 26, 27, 28, 29, 30, 31, 32, 33, 34, 35, 36, 37, 38, 39, 40, 41, 42, 43, 44, 45, 46, 47, 48, 49, 50, 51, 52, 53, 54, 55, 56, 57, 58, 59, 60],
  [0, 1, 3, 5, 8, 10, 14, 16, 20, 23, 27, 29, 35, 37, 41, 45, 50, 52, 58, 60, 66, 70, 74, 76, 84, 87, 91, 95, 101, 103, 111, 113, 119, 123, 127, 131, 140, 142, 146, 150, 158, 160, 168, 170, 176, 182, 186, 188, 198, 201, 207, 211, 217, 219, 227, 231, 239, 243, 247, 249, 261],
  [0, 1, 4, 7, 13, 16, 25, 28, 38, 44, 53, 56, 74, 77, 86, 95, 110, 113, 131, 134, 152, 161, 170, 173, 203, 209, 218, 228, 246, 249, 276, 279, 300, 309, 318, 327, 363, 366, 375, 384, 414, 417, 444, 447, 465, 483, 492, 495, 540, 546, 564, 573, 591, 594, 624, 633, 663, 672, 681, 684, 738],
  [0, 1, 5, 9, 19, 23, 39, 43, 63, 73, 89, 93, 133, 137, 153, 169, 204, 208, 248, 252, 292, 308, 324, 328, 408, 418, 434, 454, 494, 498, 562, 566, 622, 638, 654, 670, 770, 774, 790, 806, 886, 890, 954, 958, 998, 1038, 1054, 1058, 1198, 1208, 1248, 1264, 1304, 1308, 1388, 1404, 1484, 1500, 1516, 1520, 1680],
  [0, 1, 6, 11, 26, 31, 56, 61, 96, 111, 136, 141, 216, 221, 246, 271, 341, 346, 421, 426, 501, 526, 551, 556, 731, 746, 771, 806, 881, 886, 1011, 1016, 1142, 1167, 1192, 1217, 1442, 1447, 1472, 1497, 1672, 1677, 1802, 1807, 1882, 1957, 1982, 1987, 2337, 2352, 2427, 2452, 2527, 2532, 2707, 2732, 2907, 2932, 2957, 2962, 3337],
  [0, 1, 7, 13, 34, 40, 76, 82, 138, 159, 195, 201, 327, 333, 369, 405, 531, 537, 663, 669, 795, 831, 867, 873, 1209, 1230, 1266, 1322, 1448, 1454, 1670, 1676, 1928, 1964, 2000, 2036, 2477, 2483, 2519, 2555, 2891, 2897, 3113, 3119, 3245, 3371, 3407, 3413, 4169, 4190, 4316, 4352, 4478, 4484, 4820, 4856, 5192, 5228, 5264, 5270, 6026]]
def tabS : List (List Nat) := [
  [1, 1, 1, 1, 1, 1, 1, 1, 1, 1, 1, 1, 1, 1, 1, 1, 1, 1, 1, 1, 1, 1, 1, 1, 1, 1, 1, 1, 1, 1, 1, 1, 1, 1, 1, 1, 1, 1, 1, 1, 1, 1, 1, 1, 1, 1, 1, 1, 1, 1, 1, 1, 1, 1, 1, 1, 1, 1, 1, 1, 1],
  [0, 1, 2, 3, 4, 5, 6, 7, 8, 9, 10, 11, 12, 13, 14, 15, 16, 17, 18, 19, 20, 21, 22, 23, 24, 25, 26, 27, 28, 29, 30, 31, 32, 33, 34, 35, 36, 37, 38, 39, 40, 41, 42, 43, 44, 45, 46, 47, 48, 49, 50, 51, 52, 53, 54, 55, 56, 57, 58, 59, 60],
  [0, 1, 3, 5, 8, 11, 14, 17, 21, 25, 29, 33, 37, 41, 45, 49, 54, 59, 64, 69, 74, 79, 84, 89, 94, 99, 104, 109, 114, 119, 124, 129, 135, 141, 147, 153, 159, 165, 171, 177, 183, 189, 195, 201, 207, 213, 219, 225, 231, 237, 243, 249, 255, 261, 267, 273, 279, 285, 291, 297, 303],
  [0, 1, 4, 7, 13, 19, 25, 31, 41, 51, 61, 71, 81, 91, 101, 111, 126, 141, 156, 171, 186, 201, 216, 231, 246, 261, 276, 291, 306, 321, 336, 351, 372, 393, 414, 435, 456, 477, 498, 519, 540, 561, 582, 603, 624, 645, 666, 687, 708, 729, 750, 771, 792, 813, 834, 855, 876, 897, 918, 939, 960],
  [0, 1, 5, 9, 19, 29, 39, 49, 69, 89, 109, 129, 149, 169, 189, 209, 244, 279, 314, 349, 384, 419, 454, 489, 524, 559, 594, 629, 664, 699, 734, 769, 825, 881, 937, 993, 1049, 1105, 1161, 1217, 1273, 1329, 1385, 1441, 1497, 1553, 1609, 1665, 1721, 1777, 1833, 1889, 1945, 2001, 2057, 2113, 2169, 2225, 2281, 2337, 2393],
  [0, 1, 6, 11, 26, 41, 56, 71, 106, 141, 176, 211, 246, 281, 316, 351, 421, 491, 561, 631, 701, 771, 841, 911, 981, 1051, 1121, 1191, 1261, 1331, 1401, 1471, 1597, 1723, 1849, 1975, 2101, 2227, 2353, 2479, 2605, 2731, 2857, 2983, 3109, 3235, 3361, 3487, 3613, 3739, 3865, 3991, 4117, 4243, 4369, 4495, 4621, 4747, 4873, 4999, 5125],
  [0, 1, 7, 13, 34, 55, 76, 97, 153, 209, 265, 321, 377, 433, 489, 545, 671, 797, 923, 1049, 1175, 1301, 1427, 1553, 1679, 1805, 1931, 2057, 2183, 2309, 2435, 2561, 2813, 3065, 3317, 3569, 3821, 4073, 4325, 4577, 4829, 5081, 5333, 5585, 5837, 6089, 6341, 6593, 6845, 7097, 7349, 7601, 7853, 8105, 8357, 8609, 8861, 9113, 9365, 9617, 9869]]
def allN (n : Nat) (p : Nat → Bool) : Bool := (List.range n).all p
theorem allN_of {n : Nat} {p : Nat → Bool} (h : allN n p = true) {i : Nat} (hi : i < n) : p i = true :=
  List.all_eq_true.mp h i (List.mem_range.mpr hi)
def tl (d n : Nat) : Nat := (tabL.getD d []).getD n 0
def ts (d n : Nat) : Nat := (tabS.getD d []).getD n 0
theorem tl_step : (allN 5 fun d => allN 61 fun n => decide (tl (d + 1) n = ((List.range n).map fun j => tl d (n / (j + 1))).sum)) = true := by decide +kernel
theorem tl_zero : (allN 61 fun n => decide (tl 0 n = n)) = true := by decide +kernel
theorem ts_step : (allN 6 fun d => allN 61 fun n => decide (ts (d + 1) n = ((halF 7 n).map fun p => ts d p).sum)) = true := by decide +kernel
theorem ts_zero : (allN 61 fun n => decide (ts 0 n = 1)) = true := by decide +kernel
theorem tl_ts : (allN 6 fun d => allN 61 fun n => decide (tl d n ≤ ts (d + 1) n)) = true := by decide +kernel
theorem hal_le : (allN 61 fun n => (halF 7 n).all fun p => decide (p ≤ n)) = true := by decide +kernel
theorem low_tab : ∀ (d : Nat), d ≤ 5 → ∀ n, n ≤ 60 → lowN d n = tl d n
  | 0, _, n, hn => (of_decide_eq_true (allN_of tl_zero (show n < 61 by omega))).symm
  | d + 1, hd, n, hn => by
    rw [of_decide_eq_true (allN_of (allN_of tl_step (show d < 5 by omega)) (show n < 61 by omega))]
    show ((List.range n).map fun j => lowN d (n / (j + 1))).sum = _
    congr 1
    refine List.map_congr_left fun j _ => ?_
    exact low_tab d (by omega) (n / (j + 1)) (Nat.le_trans (Nat.div_le_self _ _) hn)
theorem sz_tab : ∀ (d : Nat), d ≤ 6 → ∀ n, n ≤ 60 → sz d n = ts d n
  | 0, _, n, hn => (of_decide_eq_true (allN_of ts_zero (show n < 61 by omega))).symm
  | d + 1, hd, n, hn => by
    rw [of_decide_eq_true (allN_of (allN_of ts_step (show d < 6 by omega)) (show n < 61 by omega))]
    show ((halF 7 n).map (sz d)).sum = _
    congr 1
    refine List.map_congr_left fun p hp => ?_
    have hl := List.all_eq_true.mp (allN_of hal_le (show n < 61 by omega)) p hp
    exact sz_tab d (by omega) p (Nat.le_trans (of_decide_eq_true hl) hn)
theorem low_le_sz {d n : Nat} (hd : d ≤ 5) (hn : n ≤ 60) : lowN d n ≤ sz (d + 1) n := by
  rw [low_tab d hd n hn, sz_tab (d + 1) (by omega) n hn]
  exact of_decide_eq_true (allN_of (allN_of tl_ts (show d < 6 by omega)) (show n < 61 by omega))
/-! the counts of products, summed up to M -/
def Ps (l : List Nat) (M : Nat) : Nat := ((List.range M).map fun j => l.getD (j + 1) 0).sum
theorem Ps_succ (l : List Nat) (M : Nat) : Ps l (M + 1) = Ps l M + l.getD (M + 1) 0 := by
  unfold Ps
  rw [List.range_succ, List.map_append, List.sum_append]
  simp
theorem getD_set (l : List Nat) (k j x : Nat) : (l.set k x).getD j 0 = if j = k ∧ k < l.length then x else l.getD j 0 := by
  rw [List.getD_eq_getElem?_getD, List.getD_eq_getElem?_getD, List.getElem?_set]
  by_cases h : k = j
  · subst h
    by_cases q : k < l.length
    · rw [if_pos rfl, if_pos q, if_pos ⟨rfl, q⟩]; rfl
    · rw [if_pos rfl, if_neg q, if_neg (fun z => q z.2), List.getElem?_eq_none (by omega)]
  · rw [if_neg h, if_neg (fun z => h z.1.symm)]
theorem Ps_set (l : List Nat) (k x M : Nat) (hk : 1 ≤ k) (hl : k < l.length) : Ps (l.set k (l.getD k 0 + x)) M = Ps l M + if k ≤ M then x else 0 := by
  induction M with
  | zero => rw [if_neg (by omega)]; rfl
  | succ M ih =>
    rw [Ps_succ, Ps_succ, ih, getD_set]
    by_cases h : k ≤ M
    · rw [if_pos h, if_pos (show k ≤ M + 1 by omega), if_neg (show ¬ (M + 1 = k ∧ k < l.length) by omega)]; omega
    · rw [if_neg h]
      by_cases q : k = M + 1
      · rw [if_pos (show k ≤ M + 1 by omega), if_pos ⟨q.symm, hl⟩, q]; omega
      · rw [if_neg (show ¬ k ≤ M + 1 by omega), if_neg (show ¬ (M + 1 = k ∧ k < l.length) by omega)]; omega
theorem upd1_len (one : Nat) (cs l : List Nat) (o : Nat) : (upd1 one cs l o).length = l.length := List.length_set ..
theorem fold_len (one : Nat) (cs : List Nat) : ∀ (os : List Nat) (l : List Nat), (os.foldl (upd1 one cs) l).length = l.length
  | [], _ => rfl
  | o :: os, l => by rw [List.foldl_cons, fold_len one cs os, upd1_len]
theorem updI_len (N : Nat) (cs l : List Nat) (i : Nat) : (updI N cs l i).length = l.length := fold_len _ _ _ _
theorem updI_Ps (N M : Nat) (cs l : List Nat) (i : Nat) (hl : l.length = N + 1) (hM : M ≤ N) : Ps (updI N cs l i) M = Ps l M + Ps cs (M / (i + 1)) := by
  have key : ∀ n, n ≤ N / (i + 1) → Ps ((List.range n).foldl (upd1 (i + 1) cs) l) M = Ps l M + Ps cs (min n (M / (i + 1))) := by
    intro n
    induction n with
    | zero => intro _; rw [Nat.zero_min]; rfl
    | succ n ih =>
      intro hn
      rw [List.range_succ, List.foldl_append]
      show Ps (upd1 (i + 1) cs ((List.range n).foldl (upd1 (i + 1) cs) l) n) M = _
      have hk : (i + 1) * (n + 1) ≤ N := by
        have := Nat.mul_le_mul_left (i + 1) hn
        exact Nat.le_trans this (Nat.mul_div_le N (i + 1))
      have h1 : 1 ≤ (i + 1) * (n + 1) := Nat.mul_pos (by omega) (by omega)
      have ih' := ih (by omega)
      have hX := fold_len (i + 1) cs (List.range n) l
      generalize (List.range n).foldl (upd1 (i + 1) cs) l = X at ih' hX
      unfold upd1
      rw [Ps_set _ _ _ _ h1 (by rw [hX, hl]; omega), ih']
      have iff : (i + 1) * (n + 1) ≤ M ↔ n + 1 ≤ M / (i + 1) := by
        rw [Nat.le_div_iff_mul_le (by omega), Nat.mul_comm]
      by_cases c : n + 1 ≤ M / (i + 1)
      · rw [if_pos (iff.mpr c), Nat.min_eq_left (by omega), Nat.min_eq_left c, Ps_succ]; omega
      · rw [if_neg (fun z => c (iff.mp z)), Nat.min_eq_right (by omega), Nat.min_eq_right (by omega)]; omega
  have h := key (N / (i + 1)) (Nat.le_refl _)
  rw [Nat.min_eq_right (Nat.div_le_div_right hM)] at h
  exact h
theorem stepC_len (N : Nat) (cs : List Nat) : (stepC N cs).length = N + 1 := by
  unfold stepC
  have : ∀ (is l : List Nat), (is.foldl (updI N cs) l).length = l.length := by
    intro is
    induction is with
    | nil => exact fun _ => rfl
    | cons i is ih => intro l; rw [List.foldl_cons, ih, updI_len]
  rw [this, List.length_replicate]
theorem fold_updI (N : Nat) (cs : List Nat) : ∀ n, ((List.range n).foldl (updI N cs) (List.replicate (N + 1) 0)).length = N + 1 := by
  intro n
  induction n with
  | zero => exact List.length_replicate ..
  | succ n ih => rw [List.range_succ, List.foldl_append]; show (updI N cs _ n).length = _; rw [updI_len, ih]
theorem stepC_Ps (N M : Nat) (cs : List Nat) (hM : M ≤ N) : Ps (stepC N cs) M = ((List.range N).map fun i => Ps cs (M / (i + 1))).sum := by
  have key : ∀ n, Ps ((List.range n).foldl (updI N cs) (List.replicate (N + 1) 0)) M = ((List.range n).map fun i => Ps cs (M / (i + 1))).sum := by
    intro n
    induction n with
    | zero =>
      show Ps (List.replicate (N + 1) 0) M = 0
      unfold Ps
      have : ((List.range M).map fun j => (List.replicate (N + 1) 0).getD (j + 1) 0) = List.replicate M 0 := by
        rw [List.eq_replicate_iff]
        refine ⟨by rw [List.length_map, List.length_range], fun b hb => ?_⟩
        obtain ⟨j, hj, rfl⟩ := List.mem_map.mp hb
        rw [List.getD_eq_getElem?_getD, List.getElem?_replicate]
        by_cases c : j + 1 < N + 1
        · rw [if_pos c]; rfl
        · rw [if_neg c]; rfl
      rw [this]
      simp
    | succ n ih =>
      rw [List.range_succ, List.foldl_append, List.map_append, List.sum_append, ← ih]
      show Ps (updI N cs _ n) M = _
      rw [updI_Ps N M cs _ n (fold_updI N cs n) hM]
      simp
  exact key N
theorem cnts_len (N : Nat) : ∀ s, (cnts N s).length = N + 1
  | 0 => List.length_replicate ..
  | s + 1 => stepC_len N _
theorem lowN_zero : ∀ s, lowN s 0 = 0
  | 0 => rfl
  | _ + 1 => rfl
theorem cnts_Ps (N : Nat) : ∀ (s M : Nat), M ≤ N → Ps (cnts N s) M = lowN s M
  | 0, M, hM => by
    show Ps (List.replicate (N + 1) 1) M = M
    induction M with
    | zero => rfl
    | succ M ih =>
      rw [Ps_succ, ih (by omega), List.getD_eq_getElem?_getD, List.getElem?_replicate, if_pos (by omega)]
      rfl
  | s + 1, M, hM => by
    show Ps (stepC N (cnts N s)) M = ((List.range M).map fun j => lowN s (M / (j + 1))).sum
    rw [stepC_Ps N M _ hM]
    have e : ((List.range N).map fun i => Ps (cnts N s) (M / (i + 1))) = (List.range N).map fun i => lowN s (M / (i + 1)) := by
      refine List.map_congr_left fun i _ => cnts_Ps N s (M / (i + 1)) (Nat.le_trans (Nat.div_le_self _ _) hM)
    rw [e]
    have z : ∀ k, ((List.range (M + k)).map fun i => lowN s (M / (i + 1))).sum = ((List.range M).map fun j => lowN s (M / (j + 1))).sum := by
      intro k
      induction k with
      | zero => rfl
      | succ k ih =>
        rw [← Nat.add_assoc, List.range_succ, List.map_append, List.sum_append, ih]
        have : M / (M + k + 1) = 0 := Nat.div_eq_of_lt (by omega)
        simp [this, lowN_zero]
    have := z (N - M)
    rw [show M + (N - M) = N by omega] at this
    exact this
theorem cnts_sum {s N : Nat} : ((cnts N s).drop 1).sum = lowN s N := by
  rw [← cnts_Ps N s N (Nat.le_refl _)]
  unfold Ps
  congr 1
  refine List.ext_getElem? fun i => ?_
  rw [List.getElem?_drop, List.getElem?_map]
  have hl := cnts_len N s
  by_cases c : i < N
  · rw [List.getElem?_range c]
    show _ = some ((cnts N s).getD (i + 1) 0)
    rw [Nat.add_comm 1 i, List.getElem?_eq_getElem (by omega), List.getD_eq_getElem?_getD, List.getElem?_eq_getElem (by omega)]
    rfl
  · rw [List.getElem?_eq_none (by omega), List.getElem?_eq_none (by rw [List.length_range]; omega)]
    rfl
theorem low_small2 {m : Nat} (hm : m ≤ 17) (h : lowN 1 m ≤ 16) : m ≤ 7 := by
  rw [low_tab 1 (by decide) m (by omega)] at h
  have t : (allN 18 fun m => !decide (tl 1 m ≤ 16) || decide (m ≤ 7)) = true := by decide +kernel
  have q := allN_of t (show m < 18 by omega)
  rw [decide_eq_true h] at q
  simpa using q
theorem low_small3 {m : Nat} (hm : m ≤ 17) (h : lowN 2 m ≤ 16) : m ≤ 5 := by
  rw [low_tab 2 (by decide) m (by omega)] at h
  have t : (allN 18 fun m => !decide (tl 2 m ≤ 16) || decide (m ≤ 5)) = true := by decide +kernel
  have q := allN_of t (show m < 18 by omega)
  rw [decide_eq_true h] at q
  simpa using q
end K21
set_option Elab.async false
set_option maxRecDepth 100000
namespace K21
/-! ### trees, embeddings, full trees, complete trees -/
inductive Tr where
  | node (cs : List Tr)
def Tr.kids : Tr → List Tr
  | .node cs => cs
/-- leaves, where the height is at most the first number -/
def lv : Nat → Tr → Nat
  | 0, _ => 1
  | n + 1, t => if t.kids = [] then 1 else (t.kids.map (lv n)).sum
def Hb : Nat → Tr → Prop
  | 0, t => t.kids = []
  | n + 1, t => ∀ c ∈ t.kids, Hb n c
/-- full of this height -/
def Fu : Nat → Tr → Prop
  | 0, t => t.kids = []
  | d + 1, t => t.kids ≠ [] ∧ ∀ c ∈ t.kids, Fu d c
def fl : Nat → Tr → Nat
  | 0, _ => 1
  | d + 1, t => (t.kids.map (fl d)).sum
/-- both lists from the right: each small one goes to a big one -/
def Emb (h : Tr → Tr → Prop) : List Tr → List Tr → Prop
  | _, [] => True
  | [], _ :: _ => False
  | b :: bs, s :: ss => Emb h bs (s :: ss) ∨ (Emb h bs ss ∧ h b s)
def HQ (Q : Tr → Prop) : Nat → Tr → Tr → Prop
  | 0, b, _ => Q b
  | d + 1, b, s => Emb (HQ Q d) b.kids.reverse s.kids.reverse
/-- b holds s, where the height of s is at most d -/
def Ho (d : Nat) (b s : Tr) : Prop := HQ (fun _ => True) d b s
theorem Emb.nil (h : Tr → Tr → Prop) (bs : List Tr) : Emb h bs [] := by cases bs <;> exact True.intro
theorem Emb.len {h : Tr → Tr → Prop} : ∀ {bs ss : List Tr}, Emb h bs ss → ss.length ≤ bs.length
  | _, [], _ => Nat.zero_le _
  | [], _ :: _, e => e.elim
  | b :: bs, s :: ss, e => by
    rcases e with e | ⟨e, _⟩
    · have := Emb.len e; rw [List.length_cons] at this ⊢; rw [List.length_cons]; omega
    · have := Emb.len e; rw [List.length_cons, List.length_cons]; omega
/-- nodes of depth e of which Q is true -/
noncomputable def cQ (Q : Tr → Prop) : Nat → Tr → Nat
  | 0, t => by classical exact if Q t then 1 else 0
  | e + 1, t => (t.kids.map (cQ Q e)).sum
theorem sum_le_sum {α : Type} (f g : α → Nat) : ∀ l : List α, (∀ a ∈ l, f a ≤ g a) → (l.map f).sum ≤ (l.map g).sum
  | [], _ => Nat.le_refl _
  | a :: l, h => by
    rw [List.map_cons, List.map_cons, List.sum_cons, List.sum_cons]
    exact Nat.add_le_add (h a (List.mem_cons_self ..)) (sum_le_sum f g l fun b hb => h b (List.mem_cons_of_mem _ hb))
theorem lv_pos : ∀ (m : Nat) (t : Tr), 1 ≤ lv m t
  | 0, _ => Nat.le_refl _
  | m + 1, t => by
    unfold lv
    by_cases h : t.kids = []
    · rw [if_pos h]; exact Nat.le_refl _
    · rw [if_neg h]
      obtain ⟨c, cs, e⟩ : ∃ c cs, t.kids = c :: cs := by
        cases q : t.kids with
        | nil => exact absurd q h
        | cons c cs => exact ⟨c, cs, rfl⟩
      rw [e, List.map_cons, List.sum_cons]
      have := lv_pos m c
      omega
theorem cQ_le (Q : Tr → Prop) : ∀ (e m : Nat) (t : Tr), Hb m t → cQ Q e t ≤ lv m t
  | 0, m, t, _ => by
    have h := lv_pos m t
    unfold cQ
    by_cases q : Q t
    · rw [if_pos q]; exact h
    · rw [if_neg q]; exact Nat.zero_le _
  | e + 1, 0, t, h => by
    have h' : t.kids = [] := h
    unfold cQ
    rw [h']
    exact Nat.zero_le _
  | e + 1, m + 1, t, h => by
    unfold cQ lv
    by_cases k : t.kids = []
    · rw [k]; exact Nat.zero_le _
    · rw [if_neg k]
      exact sum_le_sum _ _ _ fun c hc => cQ_le Q e m c (h c hc)
/-- how many children there are of which Q is true -/
noncomputable def nQ (Q : Tr → Prop) (l : List Tr) : Nat := (l.map (cQ Q 0)).sum
theorem nQ_cons (Q : Tr → Prop) (a : Tr) (l : List Tr) : nQ Q (a :: l) = cQ Q 0 a + nQ Q l := by
  unfold nQ
  rw [List.map_cons, List.sum_cons]
theorem nQ_rev (Q : Tr → Prop) : ∀ l : List Tr, nQ Q l.reverse = nQ Q l
  | [] => rfl
  | a :: l => by
    rw [List.reverse_cons]
    have h : nQ Q (l.reverse ++ [a]) = nQ Q l.reverse + nQ Q [a] := by unfold nQ; rw [List.map_append, List.sum_append]
    rw [h, nQ_rev Q l, nQ_cons, nQ_cons]
    show nQ Q l + (cQ Q 0 a + 0) = _
    omega
theorem cQ_yes {Q : Tr → Prop} {t : Tr} (h : Q t) : cQ Q 0 t = 1 := by unfold cQ; rw [if_pos h]
theorem emb_count {Q : Tr → Prop} : ∀ {bs ss : List Tr}, Emb (HQ Q 0) bs ss → ss.length ≤ nQ Q bs
  | _, [], _ => Nat.zero_le _
  | [], _ :: _, e => e.elim
  | b :: bs, s :: ss, e => by
    rw [nQ_cons]
    rcases e with e | ⟨e, q⟩
    · have := emb_count e; omega
    · have := emb_count e
      have q' : Q b := q
      rw [cQ_yes q', List.length_cons]
      omega
/-- T comes from S by at least j children for each leaf -/
inductive Two (R : Tr → Tr → Prop) : List Tr → List Tr → Prop
  | nil : Two R [] []
  | cons {a b : Tr} {as bs : List Tr} : R a b → Two R as bs → Two R (a :: as) (b :: bs)
theorem Two.app {R : Tr → Tr → Prop} {as bs cs ds : List Tr} (h : Two R as bs) (k : Two R cs ds) : Two R (as ++ cs) (bs ++ ds) := by
  induction h with
  | nil => exact k
  | cons r _ ih => exact .cons r ih
theorem Two.rev {R : Tr → Tr → Prop} {as bs : List Tr} (h : Two R as bs) : Two R as.reverse bs.reverse := by
  induction h with
  | nil => exact .nil
  | cons r _ ih =>
    rw [List.reverse_cons, List.reverse_cons]
    exact ih.app (.cons r .nil)
def XR (j : Nat) : Nat → Tr → Tr → Prop
  | 0, s, t => s.kids = [] ∧ j ≤ t.kids.length
  | e + 1, s, t => Two (XR j e) s.kids t.kids
theorem emb_two {h h' : Tr → Tr → Prop} {R : Tr → Tr → Prop} (k : ∀ b s t, R s t → h b t → h' b s) : ∀ {bs ss ts : List Tr}, Two R ss ts → Emb h bs ts → Emb h' bs ss
  | bs, [], _, .nil, _ => Emb.nil _ _
  | [], _ :: _, _, .cons _ _, e => e.elim
  | b :: bs, s :: ss, t :: ts, .cons r q, e => by
    rcases e with e | ⟨e, x⟩
    · exact .inl (emb_two k (.cons r q) e)
    · exact .inr ⟨emb_two k q e, k b s t r x⟩
/-- at least j children of which Q is true -/
def Qj (Q : Tr → Prop) (j : Nat) (t : Tr) : Prop := j ≤ nQ Q t.kids
theorem HQ_ext {Q : Tr → Prop} {j : Nat} : ∀ (e : Nat) (b s t : Tr), XR j e s t → HQ Q (e + 1) b t → HQ (Qj Q j) e b s
  | 0, b, s, t, x, h => by
    have q : Emb (HQ Q 0) b.kids.reverse t.kids.reverse := h
    have l := emb_count q
    rw [nQ_rev, List.length_reverse] at l
    exact Nat.le_trans x.2 l
  | e + 1, b, s, t, x, h => emb_two (fun b s t r y => HQ_ext e b s t r y) (Two.rev x) h
theorem fl_pos : ∀ (d : Nat) (t : Tr), Fu d t → 1 ≤ fl d t
  | 0, _, _ => Nat.le_refl _
  | d + 1, t, h => by
    obtain ⟨n, f⟩ := h
    unfold fl
    cases q : t.kids with
    | nil => exact absurd q n
    | cons c cs =>
      rw [List.map_cons, List.sum_cons]
      have := fl_pos d c (f c (by rw [q]; exact List.mem_cons_self ..))
      omega
theorem sum_ones (n : Nat) (d : Nat) : ((List.replicate n (Tr.node [])).map (fl 0)).sum = n := by
  induction n with
  | zero => rfl
  | succ n ih => rw [List.replicate_succ, List.map_cons, List.sum_cons, ih]; show 1 + n = n + 1; omega
/-- such a tree of any greater number of leaves -/
theorem ext_ex {j : Nat} (hj : 1 ≤ j) : ∀ (e : Nat) (s : Tr), Fu e s → ∀ n, fl e s * j ≤ n → ∃ t, Fu (e + 1) t ∧ fl (e + 1) t = n ∧ XR j e s t
  | 0, s, hs, n, hn => by
    have hn' : j ≤ n := by
      have : (1 : Nat) * j ≤ n := hn
      omega
    refine ⟨.node (List.replicate n (.node [])), ⟨?_, ?_⟩, sum_ones n 0, hs, ?_⟩
    · intro z
      have : n = 0 := by
        have := congrArg List.length (show List.replicate n (Tr.node []) = [] from z)
        simpa using this
      omega
    · intro c hc
      rw [(List.mem_replicate.mp hc).2]
      rfl
    · show j ≤ (List.replicate n (Tr.node [])).length
      rw [List.length_replicate]
      exact hn'
  | e + 1, s, hs, n, hn => by
    -- all children but the first one grow as little as they may
    have rest : ∀ l : List Tr, (∀ c ∈ l, Fu e c) → ∃ ts, (∀ t ∈ ts, Fu (e + 1) t) ∧ (ts.map (fl (e + 1))).sum = (l.map (fl e)).sum * j ∧ Two (XR j e) l ts := by
      intro l
      induction l with
      | nil => exact fun _ => ⟨[], (fun t ht => by cases ht), (by simp), .nil⟩
      | cons c cs ih =>
        intro h
        obtain ⟨ts, a1, a2, a3⟩ := ih fun d hd => h d (List.mem_cons_of_mem _ hd)
        obtain ⟨t, b1, b2, b3⟩ := ext_ex hj e c (h c (List.mem_cons_self ..)) (fl e c * j) (Nat.le_refl _)
        refine ⟨t :: ts, fun x hx => ?_, ?_, .cons b3 a3⟩
        · rcases List.mem_cons.mp hx with rfl | hx
          · exact b1
          · exact a1 x hx
        · rw [List.map_cons, List.sum_cons, a2, b2, List.map_cons, List.sum_cons, Nat.add_mul]
    obtain ⟨hne, hf⟩ := hs
    unfold fl at hn
    cases q : s.kids with
    | nil => exact absurd q hne
    | cons c cs =>
      rw [q] at hf hn
      obtain ⟨ts, a1, a2, a3⟩ := rest cs fun d hd => hf d (List.mem_cons_of_mem _ hd)
      rw [List.map_cons, List.sum_cons, Nat.add_mul] at hn
      obtain ⟨t, b1, b2, b3⟩ := ext_ex hj e c (hf c (List.mem_cons_self ..)) (n - (cs.map (fl e)).sum * j) (by omega)
      refine ⟨.node (t :: ts), ⟨(fun z => nomatch z), fun x hx => ?_⟩, ?_, ?_⟩
      · rcases List.mem_cons.mp (show x ∈ t :: ts from hx) with rfl | hx
        · exact b1
        · exact a1 x hx
      · show ((t :: ts).map (fl (e + 1))).sum = n
        rw [List.map_cons, List.sum_cons, a2, b2]
        omega
      · show Two (XR j e) s.kids (t :: ts)
        rw [q]
        exact .cons b3 a3
/-- complete for the height d and n leaves, with Q at the leaves' images -/
def Cpl (Q : Tr → Prop) (d n : Nat) (b : Tr) : Prop := ∀ s, Fu d s → fl d s = n → HQ Q d b s
theorem sum_range_split (f g : Nat → Nat) : ∀ n, (∀ i, i < n → f i ≤ g i) → ((List.range n).map f).sum ≤ ((List.range n).map g).sum :=
  fun n h => sum_le_sum f g _ fun i hi => h i (List.mem_range.mp hi)
/-- the nodes with at least 1, 2, .. children of the kind -/
theorem le_count (k : Nat) : ∀ n, ((List.range n).map fun i => if i + 1 ≤ k then 1 else 0).sum ≤ k := by
  intro n
  have h : ((List.range n).map fun i => if i + 1 ≤ k then 1 else 0).sum = min n k := by
    induction n with
    | zero => simp
    | succ n ih =>
      rw [List.range_succ, List.map_append, List.sum_append, ih]
      by_cases c : n + 1 ≤ k
      · simp [c]; omega
      · simp [c]; omega
  rw [h]
  omega
theorem sum_swap {α : Type} (f : Nat → α → Nat) (n : Nat) : ∀ l : List α, ((List.range n).map fun i => (l.map (f i)).sum).sum = (l.map fun a => ((List.range n).map fun i => f i a).sum).sum
  | [] => by
    have : ((List.range n).map fun i => (([] : List α).map (f i)).sum) = List.replicate n 0 := by
      rw [List.eq_replicate_iff]
      refine ⟨by rw [List.length_map, List.length_range], fun b hb => ?_⟩
      obtain ⟨i, _, rfl⟩ := List.mem_map.mp hb
      rfl
    rw [this]
    simp
  | a :: l => by
    rw [List.map_cons, List.sum_cons, ← sum_swap f n l]
    have : ((List.range n).map fun i => ((a :: l).map (f i)).sum) = (List.range n).map fun i => f i a + (l.map (f i)).sum := by
      refine List.map_congr_left fun i _ => ?_
      rw [List.map_cons, List.sum_cons]
    rw [this]
    generalize List.range n = r
    induction r with
    | nil => rfl
    | cons x r ih => rw [List.map_cons, List.sum_cons, ih, List.map_cons, List.sum_cons, List.map_cons, List.sum_cons]; omega
theorem cQ_zero (Q : Tr → Prop) (t : Tr) [Decidable (Q t)] : cQ Q 0 t = if Q t then 1 else 0 := by
  unfold cQ
  by_cases h : Q t
  · rw [if_pos h, if_pos h]
  · rw [if_neg h, if_neg h]
theorem cQ_sum (Q : Tr → Prop) (n : Nat) : ∀ (e : Nat) (t : Tr), ((List.range n).map fun i => cQ (Qj Q (i + 1)) e t).sum ≤ cQ Q (e + 1) t
  | 0, t => by
    have h : ((List.range n).map fun i => cQ (Qj Q (i + 1)) 0 t) = (List.range n).map fun i => if i + 1 ≤ nQ Q t.kids then 1 else 0 := by
      refine List.map_congr_left fun i _ => ?_
      classical
      rw [cQ_zero]
      by_cases c : i + 1 ≤ nQ Q t.kids
      · rw [if_pos c, if_pos (show Qj Q (i + 1) t from c)]
      · rw [if_neg c, if_neg (show ¬ Qj Q (i + 1) t from c)]
    rw [h]
    exact le_count _ n
  | e + 1, t => by
    have h : ((List.range n).map fun i => cQ (Qj Q (i + 1)) (e + 1) t) = (List.range n).map fun i => (t.kids.map (cQ (Qj Q (i + 1)) e)).sum := rfl
    rw [h, sum_swap]
    exact sum_le_sum _ _ _ fun c _ => cQ_sum Q n e c
theorem fu_star (n : Nat) (h : 1 ≤ n) : Fu 1 (.node (List.replicate n (.node []))) := by
  refine ⟨fun z => ?_, fun c hc => ?_⟩
  · have := congrArg List.length (show List.replicate n (Tr.node []) = [] from z)
    simp at this
    omega
  · rw [(List.mem_replicate.mp hc).2]
    rfl
/-- a complete tree has at least so many nodes of this depth -/
theorem low_le : ∀ (d : Nat) (Q : Tr → Prop) (n : Nat) (b : Tr), 1 ≤ n → Cpl Q (d + 1) n b → lowN d n ≤ cQ Q (d + 1) b
  | 0, Q, n, b, hn, h => by
    have q : Emb (HQ Q 0) b.kids.reverse (List.replicate n (Tr.node [])).reverse := h (.node (List.replicate n (.node []))) (fu_star n hn) (sum_ones n 0)
    have l := emb_count q
    rw [nQ_rev, List.length_reverse, List.length_replicate] at l
    exact l
  | d + 1, Q, n, b, hn, h => by
    show ((List.range n).map fun j => lowN d (n / (j + 1))).sum ≤ _
    refine Nat.le_trans (sum_range_split _ (fun i => cQ (Qj Q (i + 1)) (d + 1) b) n fun i hi => ?_) (cQ_sum Q n (d + 1) b)
    have hp : 1 ≤ n / (i + 1) := (Nat.one_le_div_iff (by omega)).mpr (by omega)
    refine low_le d (Qj Q (i + 1)) (n / (i + 1)) b hp fun s hs hf => ?_
    obtain ⟨t, t1, t2, t3⟩ := ext_ex (j := i + 1) (by omega) (d + 1) s hs n (by rw [hf]; exact Nat.div_mul_le_self n (i + 1))
    exact HQ_ext (d + 1) b s t t3 (h t t1 t2)
/-- .. and so many leaves -/
theorem low_leaves {d n m : Nat} {b : Tr} (hn : 1 ≤ n) (hb : Hb m b) (h : ∀ s, Fu (d + 1) s → fl (d + 1) s = n → Ho (d + 1) b s) : lowN d n ≤ lv m b :=
  Nat.le_trans (low_le d (fun _ => True) n b hn h) (cQ_le _ (d + 1) m b hb)
end K21
set_option Elab.async false
set_option linter.all false
set_option maxRecDepth 100000
namespace K21
/-! ### rows and their trees -/
def stepP (d : Int) (st : List (List Int) × List Int) (x : Int) : List (List Int) × List Int := if x = d then (st.1 ++ [st.2], []) else (st.1, st.2 ++ [x])
def partsOf (d : Int) (row : List Int) : List (List Int) := (row.foldl (stepP d) ([], [])).1 ++ [(row.foldl (stepP d) ([], [])).2]
def treeOf : Nat → List Int → Tr
  | 0, _ => .node []
  | d + 1, row => .node ((partsOf ((d + 1 : Nat) : Int) row).map (treeOf d))
theorem step_none {d : Int} : ∀ (r : List Int) (st : List (List Int) × List Int), (∀ x ∈ r, x ≠ d) → r.foldl (stepP d) st = (st.1, st.2 ++ r)
  | [], st, _ => by rw [List.append_nil]; rfl
  | x :: r, st, h => by
    rw [List.foldl_cons, step_none r _ fun y hy => h y (List.mem_cons_of_mem _ hy)]
    unfold stepP
    rw [if_neg (h x (List.mem_cons_self ..))]
    simp
theorem step_done {d : Int} : ∀ (r : List Int) (a : List (List Int)) (b : List Int), r.foldl (stepP d) (a, b) = (a ++ (r.foldl (stepP d) ([], b)).1, (r.foldl (stepP d) ([], b)).2)
  | [], a, b => by simp
  | x :: r, a, b => by
    rw [List.foldl_cons, List.foldl_cons]
    by_cases h : x = d
    · have e1 : stepP d (a, b) x = (a ++ [b], []) := if_pos h
      have e2 : stepP d ([], b) x = ([b], []) := if_pos h
      rw [e1, e2, step_done r (a ++ [b]) [], step_done r [b] []]
      simp
    · have e1 : stepP d (a, b) x = (a, b ++ [x]) := if_neg h
      have e2 : stepP d ([], b) x = ([], b ++ [x]) := if_neg h
      rw [e1, e2, step_done r a (b ++ [x])]
theorem parts_none {d : Int} {r : List Int} (h : ∀ x ∈ r, x ≠ d) : partsOf d r = [r] := by
  unfold partsOf
  rw [step_none r _ h]
  simp
theorem parts_app {d : Int} {r s : List Int} (h : ∀ x ∈ r, x ≠ d) : partsOf d (r ++ d :: s) = r :: partsOf d s := by
  unfold partsOf
  have e : (r ++ d :: s).foldl (stepP d) ([], []) = ([r] ++ (s.foldl (stepP d) ([], [])).1, (s.foldl (stepP d) ([], [])).2) := by
    rw [List.foldl_append, step_none r _ h, List.foldl_cons]
    have e2 : stepP d (([] : List (List Int)), [] ++ r) d = ([r], []) := by
      unfold stepP
      rw [if_pos rfl]
      simp
    rw [e2, step_done]
  rw [e]
  simp
theorem step_len {d : Int} : ∀ (r : List Int) (st : List (List Int) × List Int), (r.foldl (stepP d) st).1.length ≤ st.1.length + r.length ∧ (r.foldl (stepP d) st).2.length ≤ st.2.length + r.length
  | [], st => ⟨Nat.le_refl _, Nat.le_refl _⟩
  | x :: r, st => by
    rw [List.foldl_cons]
    have ih := step_len (d := d) r (stepP d st x)
    have h1 : (stepP d st x).1.length ≤ st.1.length + 1 ∧ (stepP d st x).2.length ≤ st.2.length + 1 := by
      unfold stepP
      by_cases h : x = d
      · rw [if_pos h]; simp
      · rw [if_neg h]; simp
    rw [List.length_cons]
    omega
theorem step_all {d : Int} : ∀ (r : List Int) (st : List (List Int) × List Int), ∀ x ∈ (r.foldl (stepP d) st).1, x ∈ st.1 ∨ x.length ≤ st.2.length + r.length
  | [], st, x, h => .inl h
  | y :: r, st, x, h => by
    rw [List.foldl_cons] at h
    rcases step_all r (stepP d st y) x h with q | q
    · unfold stepP at q
      by_cases c : y = d
      · rw [if_pos c] at q
        rcases List.mem_append.mp q with q | q
        · exact .inl q
        · have e : x = st.2 := by simpa using q
          rw [e]
          exact .inr (Nat.le_add_right _ _)
      · rw [if_neg c] at q
        exact .inl q
    · unfold stepP at q
      by_cases c : y = d
      · rw [if_pos c] at q
        simp only [List.length_nil, Nat.zero_add] at q
        rw [List.length_cons]
        exact .inr (by omega)
      · rw [if_neg c] at q
        simp only [List.length_append, List.length_cons, List.length_nil] at q
        rw [List.length_cons]
        exact .inr (by omega)
/-- every full tree is the tree of a row -/
theorem surj : ∀ (d : Nat) (s : Tr), Fu d s → ∃ row : List Int, (∀ x ∈ row, 1 ≤ x ∧ x ≤ (d : Int)) ∧ row.length + 1 = fl d s ∧ treeOf d row = s
  | 0, s, h => by
    refine ⟨[], (fun x hx => by cases hx), rfl, ?_⟩
    cases s with
    | node cs =>
      have e : cs = [] := h
      rw [e]
      rfl
  | d + 1, s, h => by
    obtain ⟨hne, hf⟩ := h
    have all : ∀ cs : List Tr, cs ≠ [] → (∀ c ∈ cs, Fu d c) → ∃ row : List Int, (∀ x ∈ row, 1 ≤ x ∧ x ≤ ((d + 1 : Nat) : Int)) ∧ row.length + 1 = (cs.map (fl d)).sum ∧ (partsOf ((d + 1 : Nat) : Int) row).map (treeOf d) = cs := by
      intro cs
      induction cs with
      | nil => exact fun z => absurd rfl z
      | cons c cs ih =>
        intro _ hc
        obtain ⟨r, r1, r2, r3⟩ := surj d c (hc c (List.mem_cons_self ..))
        have off : ∀ x ∈ r, x ≠ ((d + 1 : Nat) : Int) := fun x hx => by have := r1 x hx; omega
        have low : ∀ x ∈ r, 1 ≤ x ∧ x ≤ ((d + 1 : Nat) : Int) := fun x hx => by have := r1 x hx; omega
        cases cs with
        | nil =>
          refine ⟨r, low, ?_, ?_⟩
          · rw [r2]; simp
          · rw [parts_none off]
            show [treeOf d r] = [c]
            rw [r3]
        | cons c2 cs2 =>
          obtain ⟨row, a1, a2, a3⟩ := ih (fun z => nomatch z) fun x hx => hc x (List.mem_cons_of_mem _ hx)
          refine ⟨r ++ ((d + 1 : Nat) : Int) :: row, fun x hx => ?_, ?_, ?_⟩
          · rcases List.mem_append.mp hx with hx | hx
            · exact low x hx
            · rcases List.mem_cons.mp hx with rfl | hx
              · omega
              · exact a1 x hx
          · rw [List.map_cons, List.sum_cons, ← a2, ← r2, List.length_append, List.length_cons]; omega
          · rw [parts_app off, List.map_cons, a3, r3]
    obtain ⟨row, a1, a2, a3⟩ := all s.kids hne hf
    refine ⟨row, a1, a2, ?_⟩
    cases s with
    | node cs =>
      show Tr.node _ = _
      rw [a3]
      rfl
/-- all rows -/
def longerL (d : Nat) (rows : List (List Int)) : List (List Int) := rows.flatMap fun r => (List.range d).map fun (j : Nat) => r ++ [(1 : Int) + (j : Int)]
def rowsL (d : Nat) : Nat → List (List Int)
  | 0 => [[]]
  | c + 1 => longerL d (rowsL d c)
theorem rowsL_len (d : Nat) : ∀ c, (rowsL d c).length = d ^ c
  | 0 => rfl
  | c + 1 => by
    show (longerL d (rowsL d c)).length = _
    unfold longerL
    have h : ∀ l : List (List Int), (l.flatMap fun r => (List.range d).map fun (j : Nat) => r ++ [(1 : Int) + (j : Int)]).length = l.length * d := by
      intro l
      induction l with
      | nil => simp
      | cons a l ih => rw [List.flatMap_cons, List.length_append, ih, List.length_map, List.length_range, List.length_cons, Nat.add_mul]; omega
    rw [h, rowsL_len d c, Nat.pow_succ]
theorem rowsL_item (d : Nat) : ∀ (c : Nat) (r : List Int), r ∈ rowsL d c → r.length = c
  | 0, r, h => by
    have e : r = [] := by simpa [rowsL] using h
    rw [e]; rfl
  | c + 1, r, h => by
    obtain ⟨a, ha, hr⟩ := List.mem_flatMap.mp h
    obtain ⟨j, _, rfl⟩ := List.mem_map.mp hr
    rw [List.length_append, rowsL_item d c a ha]
    rfl
theorem rowsL_mem (d : Nat) : ∀ (c : Nat) (r : List Int), r.length = c → (∀ x ∈ r, 1 ≤ x ∧ x ≤ (d : Int)) → r ∈ rowsL d c
  | 0, r, h, _ => by
    have e : r = [] := List.length_eq_zero_iff.mp h
    rw [e]
    exact List.mem_cons_self ..
  | c + 1, r, h, k => by
    have hne : r ≠ [] := fun z => by rw [z] at h; cases h
    have e := List.dropLast_concat_getLast hne
    have hl := k (r.getLast hne) (List.getLast_mem hne)
    refine List.mem_flatMap.mpr ⟨r.dropLast, ?_, ?_⟩
    · exact rowsL_mem d c r.dropLast (by rw [List.length_dropLast]; omega) fun x hx => k x (List.dropLast_subset r hx)
    · refine List.mem_map.mpr ⟨(r.getLast hne - 1).toNat, List.mem_range.mpr (by omega), ?_⟩
      have e2 : (1 : Int) + (((r.getLast hne - 1).toNat : Nat) : Int) = r.getLast hne := by omega
      rw [e2]
      exact e
/-- a tree that holds the trees of all rows is complete -/
theorem cpl_of {d n : Nat} {b : Tr} (h : ∀ r ∈ rowsL d n, Ho d b (treeOf d r)) : ∀ s, Fu d s → fl d s = n + 1 → Ho d b s := by
  intro s hs hf
  obtain ⟨row, a1, a2, a3⟩ := surj d s hs
  rw [← a3]
  exact h row (rowsL_mem d n row (by omega) a1)
/-- .. and then it has leaves enough -/
theorem leaves_of {d n m : Nat} {b : Tr} (hb : Hb m b) (h : ∀ r ∈ rowsL (d + 1) n, Ho (d + 1) b (treeOf (d + 1) r)) : lowN d (n + 1) ≤ lv m b :=
  low_leaves (by omega) hb (cpl_of h)
/-- by prefixes, as the table is filled -/
theorem emb_end {h : Tr → Tr → Prop} (bs ss : List Tr) (b s : Tr) : Emb h (bs ++ [b]).reverse (ss ++ [s]).reverse ↔ Emb h bs.reverse (ss ++ [s]).reverse ∨ (Emb h bs.reverse ss.reverse ∧ h b s) := by
  rw [List.reverse_append, List.reverse_append]
  exact Iff.rfl
theorem emb_no {h : Tr → Tr → Prop} (ss : List Tr) (s : Tr) : ¬ Emb h ([] : List Tr).reverse (ss ++ [s]).reverse := by
  rw [List.reverse_append]
  exact fun z => z
end K21
set_option Elab.async false
set_option linter.all false
set_option maxRecDepth 100000
set_option maxHeartbeats 4000000
namespace K21
open PySem PySem.Spec PyProof.Rows L2 K11
/-! ### the text by places -/
def topS (i : Nat) : Stmt := PySem.Challenge.pw_holdsalltrees_k21_lower_numbers.main.body.getD i (.Pass ⟨0, 0, 0, 0⟩)
abbrev sLower : Stmt := topS 1
abbrev sLowerM : Stmt := topS 2
abbrev sWhole : Stmt := topS 4
abbrev sCell : Stmt := topS 5
abbrev sDigits : Stmt := topS 6
abbrev sTree : Stmt := topS 7
abbrev sPaths : Stmt := topS 8
abbrev sFrom : Stmt := topS 9
abbrev sHalves : Stmt := topS 10
abbrev sURow : Stmt := topS 11
abbrev sEdited : Stmt := topS 12
abbrev sRough : Stmt := topS 13
abbrev sHolds : Stmt := topS 14
abbrev sRows : Stmt := topS 15
abbrev sLonger : Stmt := topS 16
abbrev sFirst : Stmt := topS 17
abbrev sProd : Stmt := topS 18
abbrev sSize : Stmt := topS 19
abbrev sCap : Stmt := topS 20
abbrev sDrawn : Stmt := topS 21
abbrev sLaw : Stmt := topS 22
/-! ### heaps -/
theorem same_new {H : Hp} {p : Addr} (h : H p = none) (o : HO) : Same H (upd H p o) := fun b u q => by rw [upd_ne (ne_of_none q h)]; exact q
/-- what was there before is kept when a newer object changes -/
theorem same_upd {H H' : Hp} {p : Addr} (s : Same H H') (h : H p = none) (o : HO) : Same H (upd H' p o) := fun b u q => by
  rw [upd_ne (ne_of_none q h)]
  exact s b u q
theorem lt_line {n : Nat} (h : n ≤ 1000) : n < sizeLine := small1000 h
theorem le_line {n : Nat} (h : n ≤ 1000) : n ≤ sizeLine := Nat.le_of_lt (small1000 h)
theorem one_le : 1 ≤ sizeLine := le_line (by decide)
theorem two_le : 2 ≤ sizeLine := le_line (by decide)
theorem three_le : 3 ≤ sizeLine := le_line (by decide)
theorem four_le : 4 ≤ sizeLine := le_line (by decide)
theorem five_le : 5 ≤ sizeLine := le_line (by decide)
theorem nine_le : 9 ≤ sizeLine := le_line (by decide)
theorem pr_get {α β : Type} {F : α → β → Prop} : ∀ {as : List α} {bs : List β} {i : Nat} {a : α}, Paired F as bs → as[i]? = some a → ∃ b, bs[i]? = some b ∧ F a b
  | _, _, _, _, .nil, e => by simp at e
  | _, _, 0, _, .cons r _, e => by simp at e; subst e; exact ⟨_, rfl, r⟩
  | _, _, i + 1, _, .cons _ t, e => by simpa using pr_get (i := i) t (by simpa using e)
theorem pr_take {α β : Type} {F : α → β → Prop} : ∀ {as : List α} {bs : List β} (n : Nat), Paired F as bs → Paired F (as.take n) (bs.take n)
  | _, _, 0, _ => .nil
  | _, _, _ + 1, .nil => .nil
  | _, _, n + 1, .cons r t => .cons r (pr_take n t)
theorem pr_app {α β : Type} {F : α → β → Prop} {as cs : List α} {bs ds : List β} (h : Paired F as bs) (k : Paired F cs ds) : Paired F (as ++ cs) (bs ++ ds) := by
  induction h with
  | nil => exact k
  | cons r _ ih => exact .cons r ih
/-- at p a list of paths -/
def PA (H : Hp) (rs : List Addr) (ps : List (List Int)) : Prop := Paired (fun r x => H r = some (.tup (x.map V.int))) rs ps
def PathsAt (H : Hp) (p : Addr) (ps : List (List Int)) : Prop := ∃ rs : List Addr, H p = some (.lst (rs.map V.ref)) ∧ PA H rs ps
theorem PA.same {H H' : Hp} {rs : List Addr} {ps : List (List Int)} (h : PA H rs ps) (s : Same H H') : PA H' rs ps := L2.Paired.mapP h fun _ _ e => s _ _ e
theorem PathsAt.same {H H' : Hp} {p : Addr} {ps : List (List Int)} (h : PathsAt H p ps) (s : Same H H') : PathsAt H' p ps := by
  obtain ⟨rs, e, q⟩ := h
  exact ⟨rs, s _ _ e, q.same s⟩
/-- v is the tree t, of tuples, of at most this height -/
def TA : Nat → Hp → V → Tr → Prop
  | 0, H, v, t => ∃ a, v = .ref a ∧ H a = some (.tup []) ∧ t = .node []
  | n + 1, H, v, t => ∃ a vs, v = .ref a ∧ H a = some (.tup vs) ∧ Paired (TA n H) vs t.kids
theorem TA.same {H H' : Hp} (s : Same H H') : ∀ {n : Nat} {v : V} {t : Tr}, TA n H v t → TA n H' v t
  | 0, _, _, h => by
    obtain ⟨a, e1, e2, e3⟩ := h
    exact ⟨a, e1, s _ _ e2, e3⟩
  | n + 1, _, _, h => by
    obtain ⟨a, vs, e1, e2, e3⟩ := h
    exact ⟨a, vs, e1, s _ _ e2, L2.Paired.mapP e3 fun _ _ x => TA.same s x⟩
theorem TA.hb : ∀ {n : Nat} {H : Hp} {v : V} {t : Tr}, TA n H v t → Hb n t
  | 0, _, _, t, h => by
    obtain ⟨a, e1, e2, e3⟩ := h
    show t.kids = []
    rw [e3]
    rfl
  | n + 1, H, v, t, h => by
    obtain ⟨a, vs, e1, e2, e3⟩ := h
    intro c hc
    have all : ∀ {ws : List V} {ts : List Tr}, Paired (TA n H) ws ts → ∀ c ∈ ts, Hb n c := by
      intro ws ts q
      induction q with
      | nil => exact fun c hc => nomatch hc
      | cons r _ ih =>
        intro c hc
        rcases List.mem_cons.mp hc with rfl | hc
        · exact TA.hb r
        · exact ih c hc
    exact all e3 c hc
/-- such a tree is a tuple -/
theorem TA.tup : ∀ {n : Nat} {H : Hp} {v : V} {t : Tr}, TA n H v t → ∃ a vs, v = .ref a ∧ H a = some (.tup vs) ∧ vs.length = t.kids.length
  | 0, _, _, t, h => by
    obtain ⟨a, e1, e2, e3⟩ := h
    exact ⟨a, [], e1, e2, by rw [e3]; rfl⟩
  | n + 1, _, _, _, h => by
    obtain ⟨a, vs, e1, e2, e3⟩ := h
    exact ⟨a, vs, e1, e2, e3.length⟩
theorem neverOk {P : Program} {w : World} {K : PySem.W.Frag} {mg : Str → Option Value} {base : Heap} {f : Addr} {fd : FuncData} {ps : List Str} {sp : Sp} (no : ∀ vs H Q E, ¬ sp vs H Q E) : FnOk P w K mg base CX0 0 f fd ps sp :=
  ⟨fun vs H Q E h => absurd h (no vs H Q E), fun A outer s H args us vs Q E _ _ _ _ h => absurd h (no vs H Q E)⟩
theorem map_atV {α : Type} {f : α → V} {l : List α} {i : Nat} {x : V} (h : (l.map f)[i]? = some x) : ∃ s, l[i]? = some s ∧ x = f s := by
  rw [List.getElem?_map] at h
  obtain ⟨s, hs, rfl⟩ := Option.map_eq_some_iff.mp h
  exact ⟨s, hs, rfl⟩
theorem tk1 {α : Type} {l : List α} {i : Nat} {s : α} (h : l[i]? = some s) : l.take (i + 1) = l.take i ++ [s] := by
  rw [List.take_add_one, h]
  rfl
theorem _root_.L2.Same.seqT {K : PySem.W.Frag} {H H' : Hp} {a : Addr} {xs : List V} (e : Same H H') (h : SqT K H a xs) : SqT K H' a xs := by
  rcases h with (h | ⟨o, h⟩) | h
  · exact .inl (.inl (e _ _ h))
  · exact .inl (.inr ⟨o, e _ _ h⟩)
  · exact .inr h
/-- a tree of tuples stays when a list changes -/
theorem TA.lst {H : Hp} {D : Addr} {ws : List V} (eD : H D = some (.lst ws)) (o : HO) : ∀ {n : Nat} {v : V} {t : Tr}, TA n H v t → TA n (upd H D o) v t
  | 0, _, _, h => by
    obtain ⟨a, e1, e2, e3⟩ := h
    exact ⟨a, e1, by rw [upd_ne (ne_of e2 eD (fun z => nomatch z))]; exact e2, e3⟩
  | n + 1, _, _, h => by
    obtain ⟨a, vs, e1, e2, e3⟩ := h
    exact ⟨a, vs, e1, by rw [upd_ne (ne_of e2 eD (fun z => nomatch z))]; exact e2, L2.Paired.mapP e3 fun _ _ x => TA.lst eD o x⟩
theorem PA.lst {H : Hp} {D : Addr} {ws : List V} {rs : List Addr} {ps : List (List Int)} (h : PA H rs ps) (eD : H D = some (.lst ws)) (o : HO) : PA (upd H D o) rs ps :=
  L2.Paired.mapP h fun _ _ e => by rw [upd_ne (ne_of e eD (fun z => nomatch z))]; exact e
end K21
set_option Elab.async false
set_option linter.all false
set_option maxRecDepth 100000
set_option maxHeartbeats 4000000
set_option pp.maxSteps 400
set_option pp.deepTerms false
namespace K21
open PySem PySem.Spec PyProof.Rows L2 K11
/-! ### lower_number -/
def keyL (n d : Nat) : List Leaf := [.num (n : Int), .num (d : Int)]
theorem keyL_inj {n d n' d' : Nat} (e : keyL n d = keyL n' d') : n = n' ∧ d = d' := by
  unfold keyL at e
  injection e with e1 e
  injection e with e2 e
  have a1 : (n : Int) = (n' : Int) := Leaf.num.inj e1
  have a2 : (d : Int) = (d' : Int) := Leaf.num.inj e2
  exact ⟨by omega, by omega⟩
def SPL (key : List Leaf) (v : V) : Prop := ∃ n d, key = keyL n d ∧ n ≤ 60 ∧ d ≤ 6 ∧ v = .int (lowN (d - 1) n : Nat)
theorem SPL_val {n d : Nat} {v : V} (s : SPL (keyL n d) v) : v = .int (lowN (d - 1) n : Nat) := by
  obtain ⟨n', d', e, _, _, rfl⟩ := s
  obtain ⟨rfl, rfl⟩ := keyL_inj e
  rfl
theorem nodup_len {α : Type} [DecidableEq α] : ∀ {l m : List α}, l.Nodup → (∀ a ∈ l, a ∈ m) → l.length ≤ m.length
  | [], _, _, _ => Nat.zero_le _
  | a :: l, m, hn, hs => by
    obtain ⟨n1, n2⟩ := List.nodup_cons.mp hn
    have ha := hs a (List.mem_cons_self ..)
    have q := nodup_len (l := l) (m := m.erase a) n2 (fun b hb => by
      have hne : b ≠ a := fun z => n1 (by rw [← z]; exact hb)
      exact (List.mem_erase_of_ne hne).mpr (hs b (List.mem_cons_of_mem _ hb)))
    rw [List.length_erase_of_mem ha] at q
    have hp : 0 < m.length := List.length_pos_of_mem ha
    rw [List.length_cons]
    omega
def ALo : List (List Leaf) := (List.range 61).flatMap fun n => (List.range 7).map fun d => keyL n d
theorem SPL_len {P : Program} {w : World} {H : Hp} {a : Addr} {ks : List (List Leaf)} (T : Tab P w SPL H a ks) : ks.length < sizeLine := by
  have q := nodup_len (m := ALo) T.nodup (fun k hk => by
    obtain ⟨v, n, d, rfl, h1, h2, _⟩ := T.all k hk
    exact List.mem_flatMap.mpr ⟨n, List.mem_range.mpr (by omega), List.mem_map.mpr ⟨d, List.mem_range.mpr (by omega), rfl⟩⟩)
  have l : ALo.length = 427 := by decide +kernel
  rw [l] at q
  exact lt_line (by omega)
theorem but_tup {P : Program} {w : World} {a p : Addr} {H H' : Hp} {l : List V} {S : List Leaf → V → Prop} {ks : List (List Leaf)} (T : Tab P w S H a ks) (b : But a H H') (e : H p = some (.tup l)) : H' p = some (.tup l) := by
  obtain ⟨φ, f⟩ := T.holds
  exact b p _ (ne_of e f (fun z => nomatch z)) e
section
variable {P : Program} {w : World} {K : PySem.W.Frag} {mg : Str → Option Value} {base : Heap}
abbrev nLow : List Str := ["leaves", "depth", "known", "parts", "many"]
theorem scLowerM : FnScope nLow ["leaves", "depth", "known"] (defScope sLowerM) := ⟨rfl, rfl, rfl, by decide +kernel, rfl, by decide +kernel, by decide +kernel⟩
theorem scLower : FnScope ["leaves", "depth"] ["leaves", "depth"] (defScope sLower) := ⟨rfl, rfl, rfl, by decide +kernel, rfl, by decide +kernel, by decide +kernel⟩
def spLow (P : Program) (w : World) (c : Nat) : Sp := fun vs H Q _ => ∃ (n d : Nat) (a : Addr) (ks : List (List Leaf)), vs = [.int (n : Int), .int (d : Int), .ref a] ∧ n ≤ 60 ∧ 1 ≤ d ∧ d ≤ 6 ∧ d ≤ c ∧ Tab P w SPL H a ks ∧
  ∀ H' ks', But a H H' → Tab P w SPL H' a ks' → Q (.int (lowN (d - 1) n : Nat)) H'
theorem ok_lowM {c : Nat} {f : Addr} {fd : FuncData} (F : Fun K "_lower_number" "_lower_number" sLowerM f fd) (G : FnOk P w K mg base CX0 c f fd ["leaves", "depth", "known"] (spLow P w c)) (bG : Binds K fd ["leaves", "depth", "known"] []) (mG : mg "_lower_number" = some (.ref f))
    (mr : mg "range" = none) (ms : mg "sum" = none) : FnOk P w K mg base CX0 (c + 1) f fd ["leaves", "depth", "known"] (spLow P w (c + 1)) := by
  refine F.ok scLowerM (fun vs H Q E h => ?_) (fun cdv A outer s H vs Q E hr h => ?_)
  · obtain ⟨n, d, a, ks, rfl, _⟩ := h
    rfl
  obtain ⟨n, d, a, ks, rfl, hn, h1, h6, hc, T, q⟩ := h
  have nd := scLowerM.nd
  have hu := hu_of hr
  have kG := F.kp
  refine ⟨_, pss_cons (ps_if (pt_cmpR op_eq (pv 1) pe_int (nomark _)) (pss_one (ps_ret (pv 0))) pss_nil)
    (pss_cons (ps_if (pt_cmp (pc_tnotin hu (pe_tup (pa_cons (pv 0) (pa_cons (pv 1) pa_nil))) (pv 2)))
      (pss_cons (ps_setLc (i := 3) (own := [("many", 4)]) (g := gName 4) (tt := tYes) rfl nd rfl rfl (sw_true rfl rfl rfl (by decide +kernel)) (pi_range2 rfl mr (pa_cons pe_int (pa_cons (pe_op op_add (pv 0) pe_int) pa_nil))) (blkOk_by (N := nLow) (sc := defScope sLowerM) (by decide +kernel))
          (fun _ _ _ _ _ => pg_name (i := 4) nd rfl (Or.inl rfl)) (fun _ _ _ _ _ => pts_nil)
          (fun _ _ _ _ _ => pe_call G hr (by rfl) mG kG bG .nil pass0 (pa_cons (pe_op op_fdiv (pv 0) (pv 4)) (pa_cons (pe_op op_sub (pv 1) pe_int) (pa_cons (pv 2) pa_nil)))))
        (pss_one (ps_tput hu (pv 2) (pe_tup (pa_cons (pv 0) (pa_cons (pv 1) pa_nil))) (pe_callB (cr_sum rfl) (by rfl) ms (by decide +kernel) (pa_cons (pv 3) pa_nil)) rfl))) pss_nil)
    (pss_one (ps_ret (pe_tget hu (pv 2) (pe_tup (pa_cons (pv 0) (pa_cons (pv 1) pa_nil))) (fun _ _ => rfl))))), ?_⟩
  refine ⟨_, rfl, rfl, _, rfl, ite2 (fun z => ?_) (fun z => ?_)⟩
  · have z' : (d : Int) = 1 := V.int.inj (of_decide_eq_true z)
    have z2 : d = 1 := by omega
    subst z2
    exact ⟨_, rfl, q H ks (.refl a H) T⟩
  have z' : ¬ (d : Int) = 1 := fun y => z (decide_eq_true (congrArg V.int y))
  obtain ⟨e, rfl⟩ : ∃ e, d = e + 2 := ⟨d - 2, by omega⟩
  refine ⟨_, rfl, _, rfl, two_le, fun p hp => ?_⟩
  have s1 : Same H (upd H p (.tup [.int (n : Int), .int ((e + 2 : Nat) : Int)])) := same_new hp _
  have kp : upd H p (.tup [.int (n : Int), .int ((e + 2 : Nat) : Int)]) p = some (.tup ((keyL n (e + 2)).map lV)) := upd_same
  have T1 := T.keep s1
  refine ⟨_, rfl, SPL, a, p, ks, keyL n (e + 2), rfl, rfl, T1, kp, _, rfl, ?_⟩
  have fin : ∀ H2 ks2 (σ : L2.St), But a H H2 → Tab P w SPL H2 a ks2 → keyL n (e + 2) ∈ ks2 → σ[0]? = some (some (.int (n : Int))) → σ[1]? = some (some (.int ((e + 2 : Nat) : Int))) → σ[2]? = some (some (.ref a)) →
      tRet (tTGet P w (tVar 2) (tTup (tCons (tVar 0) (tCons (tVar 1) tNil)))) { nx := fun _ H' => Q .non H', rt := Q } σ H2 := by
    intro H2 ks2 σ u T2 hm e0 e1 e2
    refine ⟨_, e2, _, e0, _, e1, two_le, fun p2 hp2 => ?_⟩
    have s2 : Same H2 (upd H2 p2 (.tup [.int (n : Int), .int ((e + 2 : Nat) : Int)])) := same_new hp2 _
    refine ⟨SPL, a, p2, ks2, keyL n (e + 2), rfl, rfl, T2.keep s2, upd_same, hm, fun v sv => ?_⟩
    rw [SPL_val sv]
    exact q _ ks2 (u.trans (But.same s2)) (T2.keep s2)
  by_cases hm : keyL n (e + 2) ∈ ks
  · rw [decide_eq_true hm]
    exact iteF (fin _ ks _ (But.same s1) T1 hm rfl rfl rfl)
  rw [decide_eq_false hm]
  refine iteT ?_
  refine ⟨_, rfl, _, _, rfl, rfl, 1, (n : Int) + 1, rfl, ⟨by omega, by omega, by omega, by omega⟩, fun D hD => ?_⟩
  have e0 : ((n : Int) + 1 - 1).toNat = n := by omega
  rw [e0]
  have hDn := s1.free hD
  refine lc_range (n := n) (fun i H' => But a H H' ∧ (∃ ks', Tab P w SPL H' a ks') ∧ H' D = some (.lst ((List.range i).map fun j => V.int (lowN e (n / (j + 1)) : Nat)))) ⟨?_, ⟨ks, ?_⟩, upd_same⟩ ?_ ?_
  · exact But.same (same_upd s1 hDn _)
  · exact T.keep (same_upd s1 hDn _)
  · rintro i H3 hi ⟨u3, ⟨ks3, T3⟩, eD⟩
    refine ⟨rfl, ?_⟩
    show tCall (spLow P w c) [] E0 (tCons (tOp (rI CDiv fun i j => .int (i / j)) (tVar 0) (tVar 4)) (tCons (tOp (rI0 fun i j => .int (i - j)) (tVar 1) (tC (.int 1))) (tCons (tVar 2) tNil))) [some (.int (n : Int)), some (.int ((e + 2 : Nat) : Int)), some (.ref a), Option.none, some (.int (1 + (i : Int)))] H3 _
    refine ⟨_, rfl, _, rfl, _, _, rfl, rfl, ⟨by omega, by omega⟩, _, rfl, _, _, rfl, rfl, _, rfl, n / (i + 1), e + 1, a, ks3, ?_, Nat.le_trans (Nat.div_le_self _ _) hn, by omega, by omega, by omega, T3, fun H4 ks4 u4 T4 => ?_⟩
    · have e1 : (n : Int) / (1 + (i : Int)) = ((n / (i + 1) : Nat) : Int) := by
        rw [Int.add_comm 1 (i : Int)]
        rfl
      have e2 : ((e + 2 : Nat) : Int) - 1 = ((e + 1 : Nat) : Int) := by omega
      show [V.int ((n : Int) / (1 + (i : Int))), V.int (((e + 2 : Nat) : Int) - 1), V.ref a] = _
      rw [e1, e2]
    · obtain ⟨φ, hφ⟩ := T3.holds
      have nDa : D ≠ a := ne_of eD hφ (fun z => nomatch z)
      have eD4 := u4 _ _ nDa eD
      refine ⟨_, eD4, ?_, ?_, ⟨ks4, ?_⟩, ?_⟩
      · rw [List.length_map, List.length_range]
        exact lt_line (by omega)
      · intro b o nb eb
        rw [upd_ne (ne_of_none eb hDn)]
        exact (u3.trans u4) b o nb eb
      · obtain ⟨xs, g1, g2, g3, g4⟩ := T4
        refine ⟨xs, g1, g2, fun x hx => ⟨?_, (g3 x hx).2⟩, ?_⟩
        · rw [upd_ne (ne_of (g3 x hx).1 eD4 (fun z => nomatch z))]
          exact (g3 x hx).1
        · rw [upd_ne (Ne.symm nDa)]
          exact g4
      · rw [upd_same, List.range_succ, List.map_append]
        rfl
  · rintro H3 ⟨u3, ⟨ks3, T3⟩, eD⟩
    have eD' : H3 D = some (.lst ((((List.range n).map fun j => (lowN e (n / (j + 1)) : Int))).map V.int)) := by
      rw [eD, List.map_map]
      rfl
    refine ⟨_, rfl, D, _, rfl, SqL.of eD', ?_⟩
    refine ⟨_, rfl, _, rfl, _, rfl, two_le, fun p2 hp2 => ?_⟩
    have s2 : Same H3 (upd H3 p2 (.tup [.int (n : Int), .int ((e + 2 : Nat) : Int)])) := same_new hp2 _
    have T4 := T3.keep s2
    have es : (((List.range n).map fun j => (lowN e (n / (j + 1)) : Int))).sum = ((lowN (e + 1) n : Nat) : Int) := by
      show _ = ((((List.range n).map fun j => lowN e (n / (j + 1))).sum : Nat) : Int)
      generalize List.range n = r
      induction r with
      | nil => rfl
      | cons x r ih => rw [List.map_cons, List.map_cons, List.sum_cons, List.sum_cons, ih, Int.natCast_add]
    refine ⟨SPL, a, p2, ks3, keyL n (e + 2), rfl, rfl, T4, upd_same, ⟨n, e + 2, rfl, hn, h6, congrArg V.int es⟩, SPL_len T4, fun H5 u5 T5 => ?_⟩
    refine fin H5 _ _ ((u3.trans (But.same s2)).trans u5) T5 ?_ rfl rfl rfl
    by_cases hm2 : keyL n (e + 2) ∈ ks3
    · rw [if_pos hm2]; exact hm2
    · rw [if_neg hm2]; exact List.mem_append_right _ (List.mem_cons_self ..)
theorem low_all {f : Addr} {fd : FuncData} (F : Fun K "_lower_number" "_lower_number" sLowerM f fd) (bG : Binds K fd ["leaves", "depth", "known"] []) (mG : mg "_lower_number" = some (.ref f)) (mr : mg "range" = none) (ms : mg "sum" = none) :
    ∀ c, FnOk P w K mg base CX0 c f fd ["leaves", "depth", "known"] (spLow P w c)
  | 0 => neverOk fun vs H Q E h => by
    obtain ⟨n, d, a, ks, _, _, h1, _, h2, _⟩ := h
    omega
  | c + 1 => ok_lowM F (low_all F bG mG mr ms c) bG mG mr ms
def spLower : Sp := fun vs H Q _ => ∃ (n d : Nat), vs = [.int (n : Int), .int (d : Int)] ∧ n ≤ 60 ∧ 1 ≤ d ∧ d ≤ 6 ∧ ∀ H', Same H H' → Q (.int (lowN (d - 1) n : Nat)) H'
theorem ok_lower {f g : Addr} {fd gd : FuncData} (F : Fun K "lower_number" "lower_number" sLower f fd) (G : FnOk P w K mg base CX0 6 g gd ["leaves", "depth", "known"] (spLow P w 6)) (bG : Binds K gd ["leaves", "depth", "known"] []) (kG : PySem.W.keepIn K (.ref g) = true) (mG : mg "_lower_number" = some (.ref g)) :
    FnOk P w K mg base CX0 7 f fd ["leaves", "depth"] spLower := by
  refine F.ok scLower (fun vs H Q E h => ?_) (fun cdv A outer s H vs Q E hr h => ?_)
  · obtain ⟨n, d, rfl, _⟩ := h
    rfl
  obtain ⟨n, d, rfl, hn, h1, h6, q⟩ := h
  refine ⟨_, pss_one (ps_ret (pe_call G hr (by rfl) mG kG bG .nil pass0 (pa_cons (pv 0) (pa_cons (pv 1) (pa_cons pe_tnew pa_nil))))), ?_⟩
  refine ⟨_, rfl, _, rfl, fun a H1 ea s1 T => ?_⟩
  refine ⟨n, d, a, [], rfl, hn, h1, h6, h6, T _, fun H2 ks u T2 => q H2 fun b o e => u b o (ne_of_none e ea) (s1 _ _ e)⟩
end
end K21
set_option Elab.async false
set_option linter.all false
set_option maxRecDepth 100000
set_option maxHeartbeats 4000000
namespace K21
open PySem PySem.Spec PyProof.Rows L2 K11
/-! ### the law's readers: _law_whole, _law_cell, _law_digits -/
/-- drawn digits: each one below its size -/
def Dg : List Int → List Int → Prop
  | [], [] => True
  | d :: ds, s :: ss => (0 ≤ d ∧ d < s) ∧ Dg ds ss
  | _, _ => False
theorem Dg.len : ∀ {ds ss : List Int}, Dg ds ss → ds.length = ss.length
  | [], [], _ => rfl
  | _ :: _, _ :: _, h => congrArg Nat.succ (Dg.len h.2)
  | [], _ :: _, h => h.elim
  | _ :: _, [], h => h.elim
theorem Dg.snoc : ∀ {ds ss : List Int} {d s : Int}, Dg ds ss → 0 ≤ d → d < s → Dg (ds ++ [d]) (ss ++ [s])
  | [], [], _, _, _, a, b => ⟨⟨a, b⟩, True.intro⟩
  | _ :: _, _ :: _, _, _, h, a, b => ⟨h.1, Dg.snoc h.2 a b⟩
  | [], _ :: _, _, _, h, _, _ => h.elim
  | _ :: _, [], _, _, h, _, _ => h.elim
theorem Dg.cons {ds ss : List Int} {s : Int} (h : Dg ds (s :: ss)) : ∃ d r, ds = d :: r ∧ (0 ≤ d ∧ d < s) ∧ Dg r ss := by
  cases ds with
  | nil => exact h.elim
  | cons d r => exact ⟨d, r, rfl, h.1, h.2⟩
theorem Dg.nil {ds : List Int} (h : Dg ds []) : ds = [] := by
  cases ds with
  | nil => rfl
  | cons d r => exact h.elim
theorem take_snoc {l : List Int} {i : Nat} {s : Int} (h : l[i]? = some s) : l.take (i + 1) = l.take i ++ [s] := by
  rw [List.take_add_one, h]
  rfl
theorem map_at {l : List Int} {i : Nat} {x : V} (h : (l.map V.int)[i]? = some x) : ∃ s, l[i]? = some s ∧ x = .int s := by
  rw [List.getElem?_map] at h
  obtain ⟨s, hs, rfl⟩ := Option.map_eq_some_iff.mp h
  exact ⟨s, hs, rfl⟩
section
variable {P : Program} {w : World} {K : PySem.W.Frag} {mg : Str → Option Value} {base : Heap}
theorem scWhole : FnScope ["value"] ["value"] (defScope sWhole) := ⟨rfl, rfl, rfl, by decide +kernel, rfl, by decide +kernel, by decide +kernel⟩
theorem scCell : FnScope ["script", "k", "seed", "cell"] ["script", "k"] (defScope sCell) := ⟨rfl, rfl, rfl, by decide +kernel, rfl, by decide +kernel, by decide +kernel⟩
theorem scDigits : FnScope ["cell", "sizes", "row", "rest", "size", "seed", "k", "twice"] ["cell", "sizes"] (defScope sDigits) := ⟨rfl, rfl, rfl, by decide +kernel, rfl, by decide +kernel, by decide +kernel⟩
/-- of an int -/
def spWhole : Sp := fun vs H Q _ => ∃ i : Int, vs = [.int i] ∧ Q (.bl true) H
theorem ok_whole {f : Addr} {fd : FuncData} (F : Fun K "_law_whole" "_law_whole" sWhole f fd) (mI : mg "isinstance" = none) (mi : mg "int" = none) (mb : mg "bool" = none) :
    FnOk P w K mg base CX0 1 f fd ["value"] spWhole := by
  refine F.ok scWhole (fun vs H Q E h => ?_) (fun cdv A outer s H vs Q E hr h => ?_)
  · obtain ⟨i, rfl, _⟩ := h
    rfl
  obtain ⟨i, rfl, q⟩ := h
  refine ⟨_, pss_one (ps_ret (pe_and (pe_callB call_isi (by rfl) mI boot_isinstance (pa_cons (pv 0) (pa_cons (pe_bltn (v := .ty "int") (by rfl) mi PyProof.Rows.boot_int rfl) pa_nil)))
    (pe_one (pe_not (pe_callB call_isi (by rfl) mI boot_isinstance (pa_cons (pv 0) (pa_cons (pe_bltn (v := .ty "bool") (by rfl) mb PyProof.Rows.boot_bool rfl) pa_nil))))))), ?_⟩
  refine ⟨_, rfl, _, _, _, _, true, rfl, .ty "int", .base (.int i), kit_ty (by decide +kernel), true, rfl, ?_⟩
  refine iteT ⟨_, rfl, _, _, _, _, false, rfl, .ty "bool", .base (.int i), kit_ty (by decide +kernel), false, rfl, q⟩
/-- some int; the heap as it was -/
def spCell (K : PySem.W.Frag) : Sp := fun vs H Q _ => ∃ (a : Addr) (ns : List Int) (k : Nat), vs = [.ref a, .int (k : Int)] ∧ SqL K H a (ns.map V.int) ∧ ns.length ≤ 63 ∧ k ≤ 1000 ∧ ∀ z : Int, Q (.int z) H
theorem ok_cell {f : Addr} {fd : FuncData} (F : Fun K "_law_cell" "_law_cell" sCell f fd) (ml : mg "len" = none) (mi : mg "int" = none) :
    FnOk P w K mg base CX0 1 f fd ["script", "k"] (spCell K) := by
  refine F.ok scCell (fun vs H Q E h => ?_) (fun cdv A outer s H vs Q E hr h => ?_)
  · obtain ⟨a, ns, k, rfl, _⟩ := h
    rfl
  obtain ⟨a, ns, k, rfl, hS, hl, hk, q⟩ := h
  have nd := scCell.nd
  refine ⟨_, pss_cons (ps_if (pt_cmpR op_lt (pv 1) (pe_callB call_len_seq (by rfl) ml PySem.boot_len (pa_cons (pv 0) pa_nil)) (nomark _)) (pss_one (ps_ret (pe_ix ix_list (pv 0) (pv 1) (fun _ _ => rfl)))) pss_nil)
    (pss_cons (ps_set (i := 2) nd rfl (.inl rfl) pe_int)
    (pss_cons (ps_for PassesOwn.never rfl (pi_list (pv 0)) (pg_name (i := 3) nd rfl (.inl rfl))
      (pss_one (ps_set (i := 2) nd rfl (.inl rfl) (pe_op op_mod (pe_callTy call_int1 (by rfl) mi PyProof.Rows.boot_int (pa_cons (pe_op op_add (pe_op op_mul (pv 2) pe_int) (pe_op op_mod (pe_callTy call_int1 (by rfl) mi PyProof.Rows.boot_int (pa_cons (pv 3) pa_nil)) pe_int)) pa_nil)) pe_int))))
    (pss_one (ps_ret (pe_op op_mod (pe_callTy call_int1 (by rfl) mi PyProof.Rows.boot_int (pa_cons (pe_op op_mul (pe_op op_mul (pe_op op_add (pv 2) pe_int) (pe_op op_add (pv 1) pe_int)) pe_int) pa_nil)) pe_int))))), ?_⟩
  refine ⟨_, rfl, _, rfl, a, _, rfl, .inl hS, _, _, rfl, rfl, _, rfl, ite2 (fun c => ?_) (fun c => ?_)⟩
  · have c' := of_decide_eq_true c
    rw [List.length_map] at c'
    have hk' : k < ns.length := by omega
    have g : (ns.map V.int)[k]? = some (.int ns[k]) := by rw [List.getElem?_map, List.getElem?_eq_getElem hk']; rfl
    exact ⟨_, rfl, _, rfl, a, _, _, _, rfl, rfl, hS, atI_nat g, q _⟩
  · refine ⟨_, rfl, a, rfl, ⟨_, hS⟩, for_list (xs := ns.map V.int) (fun i σ H' => H' = H ∧ ∃ (z : Int) (y : Option V), σ = [some (.ref a), some (.int (k : Int)), some (.int z), y]) ⟨rfl, 17, Option.none, rfl⟩ (fun i σ H' _ z => by rw [z.1]; exact hS) ?_ ?_⟩
    · rintro i x σ H' hx ⟨rfl, z, y, rfl⟩
      obtain ⟨v, hv, rfl⟩ := map_at hx
      refine ⟨_, rfl, _, _, rfl, rfl, .inr ⟨by decide, by decide⟩, _, rfl, .inl ⟨_, rfl, _, _, rfl, rfl, (by show (0 : Int) < 1000003; decide), _, _, rfl, rfl, .inl ⟨_, rfl, _, _, rfl, rfl, (by show (0 : Int) < 1000003; decide), ?_⟩⟩⟩
      exact ⟨rfl, _, _, rfl⟩
    · rintro σ H' ⟨rfl, z, y, rfl⟩
      refine ⟨_, rfl, _, _, rfl, rfl, _, rfl, _, _, rfl, rfl, _, _, rfl, rfl, .inr ⟨by omega, by omega⟩, _, _, rfl, rfl, .inr ⟨by decide, by decide⟩, .inl ⟨_, rfl, _, _, rfl, rfl, (by show (0 : Int) < 2147483647; decide), ?_⟩⟩
      exact q _
/-- a new list of digits -/
def spDigits (K : PySem.W.Frag) : Sp := fun vs H Q _ => ∃ (c : Int) (l : Addr) (ss : List Int), vs = [.int c, .ref l] ∧ SqL K H l (ss.map V.int) ∧ ss.length ≤ 1000 ∧ (∀ s ∈ ss, 0 < s ∧ s < 1073741824) ∧
  ∀ p ds H', Same H H' → H' p = some (.lst (ds.map V.int)) → Dg ds ss → Q (.ref p) H'
theorem ok_digits {f : Addr} {fd : FuncData} (F : Fun K "_law_digits" "_law_digits" sDigits f fd) (ml : mg "len" = none) (mi : mg "int" = none) (mr : mg "range" = none) :
    FnOk P w K mg base CX0 1 f fd ["cell", "sizes"] (spDigits K) := by
  refine F.ok scDigits (fun vs H Q E h => ?_) (fun cdv A outer s H vs Q E hr h => ?_)
  · obtain ⟨c, l, ss, rfl, _⟩ := h
    rfl
  obtain ⟨c, l, ss, rfl, hS, hlen, hpos, q⟩ := h
  have nd := scDigits.nd
  refine ⟨_, pss_cons (ps_set (i := 2) nd rfl (.inl rfl) (pe_lst pa_nil))
    (pss_cons (ps_set (i := 3) nd rfl (.inl rfl) (pe_callTy call_int1 (by rfl) mi PyProof.Rows.boot_int (pa_cons (pv 0) pa_nil)))
    (pss_cons (ps_if (pt_cmpR op_ge (pv 3) (pe_op op_pow pe_int pe_int) (nomark _))
      (pss_cons (ps_set (i := 3) nd rfl (.inl rfl) (pe_op op_sub (pv 3) (pe_op op_pow pe_int pe_int)))
        (pss_cons (ps_for PassesOwn.never rfl (pi_list (pv 1)) (pg_name (i := 4) nd rfl (.inl rfl))
          (pss_cons (ps_expr (pe_bm PySem.F.plainAttrs_list PySem.F.slot_list_append PySem.F.type_list_append mt_append (pv 2) (pa_cons (pe_op op_mod (pe_callTy call_int1 (by rfl) mi PyProof.Rows.boot_int (pa_cons (pv 3) pa_nil)) (pv 4)) pa_nil)))
          (pss_one (ps_set (i := 3) nd rfl (.inl rfl) (pe_op op_fdiv (pe_callTy call_int1 (by rfl) mi PyProof.Rows.boot_int (pa_cons (pv 3) pa_nil)) (pv 4))))))
        (pss_one (ps_ret (pv 2))))) pss_nil)
    (pss_cons (ps_set (i := 5) nd rfl (.inl rfl) (pe_op op_mod (pe_callTy call_int1 (by rfl) mi PyProof.Rows.boot_int (pa_cons (pv 3) pa_nil)) pe_int))
    (pss_cons (ps_for PassesOwn.never rfl (pi_range1 rfl mr (pa_cons (pe_callB call_len_seq (by rfl) ml PySem.boot_len (pa_cons (pv 1) pa_nil)) pa_nil)) (pg_name (i := 6) nd rfl (.inl rfl))
      (pss_cons (ps_set (i := 5) nd rfl (.inl rfl) (pe_op op_mod (pe_callTy call_int1 (by rfl) mi PyProof.Rows.boot_int (pa_cons (pe_op op_add (pe_op op_add (pe_op op_mul (pv 5) pe_int) (pe_op op_mul pe_int (pv 6))) pe_int) pa_nil)) pe_int))
      (pss_cons (ps_set (i := 7) nd rfl (.inl rfl) (pe_op op_mod (pe_callTy call_int1 (by rfl) mi PyProof.Rows.boot_int (pa_cons (pe_op op_mul (pv 5) (pe_op op_add (pe_op op_fdiv (pv 5) pe_int) pe_int)) pa_nil)) pe_int))
      (pss_one (ps_expr (pe_bm PySem.F.plainAttrs_list PySem.F.slot_list_append PySem.F.type_list_append mt_append (pv 2) (pa_cons (pe_op op_mod (pe_op op_fdiv (pv 7) pe_int) (pe_ix ix_list (pv 1) (pv 6) (fun _ _ => rfl))) pa_nil)))))))
    (pss_one (ps_ret (pv 2))))))), ?_⟩
  refine ⟨Nat.zero_le _, fun o no => ?_⟩
  have s1 : Same H (upd H o (.lst [])) := same_new no _
  refine ⟨_, rfl, .inl ⟨_, rfl, ?_⟩⟩
  refine ⟨_, rfl, _, _, rfl, rfl, ⟨by decide, by decide, by decide⟩, _, _, rfl, rfl, _, rfl, ite2 (fun _ => ?_) (fun _ => ?_)⟩
  · refine ⟨_, rfl, _, _, rfl, rfl, ⟨by decide, by decide, by decide⟩, _, _, rfl, rfl, ?_⟩
    refine ⟨_, rfl, l, rfl, ⟨_, s1.seq hS⟩, for_list (xs := ss.map V.int) (fun i σ H' => Same H H' ∧ ∃ (ds : List Int) (r : Int) (y : Option V), H' o = some (.lst (ds.map V.int)) ∧ Dg ds (ss.take i) ∧ σ = [some (.int c), some (.ref l), some (.ref o), some (.int r), y, Option.none, Option.none, Option.none])
      ⟨s1, [], _, Option.none, upd_same, True.intro, rfl⟩ (fun i σ H' _ z => z.1.seq hS) ?_ ?_⟩
    · rintro i x σ H' hx ⟨sm, ds, r, y, eo, hd, rfl⟩
      obtain ⟨v, hv, rfl⟩ := map_at hx
      have hv2 := hpos v (List.mem_of_getElem? hv)
      refine ⟨_, rfl, .inl ⟨rfl, _, SqL.of eo⟩, _, rfl, .inl ⟨_, rfl, _, rfl, _, _, rfl, rfl, hv2.1, o, _, _, rfl, rfl, eo, ?_, ?_⟩⟩
      · rw [List.length_map, hd.len, List.length_take]
        exact Nat.lt_of_le_of_lt (Nat.min_le_right _ _) (small1000 hlen)
      · refine ⟨_, rfl, .inl ⟨_, rfl, _, rfl, _, _, rfl, rfl, hv2, ?_⟩⟩
        refine ⟨fun b u e => ?_, ds ++ [r % v], _, _, ?_, ?_, rfl⟩
        · rw [upd_ne (ne_of_none e no)]
          exact sm _ _ e
        · rw [upd_same, List.map_append]
          rfl
        · rw [take_snoc hv]
          exact hd.snoc (Int.emod_nonneg _ (by omega)) (Int.emod_lt_of_pos _ hv2.1)
    · rintro σ H' ⟨sm, ds, r, y, eo, hd, rfl⟩
      rw [List.length_map, List.take_length] at hd
      exact ⟨_, rfl, q o ds H' sm eo hd⟩
  · refine ⟨_, rfl, .inl ⟨_, rfl, _, _, rfl, rfl, (by show (0 : Int) < 2147483629; decide), ?_⟩⟩
    refine ⟨_, rfl, l, _, rfl, .inl (s1.seq hS), _, rfl, (by rw [List.length_map]; omega), (by rw [List.length_map]; omega), ?_⟩
    have hn : (((ss.map V.int).length : Nat) : Int).toNat = ss.length := by rw [List.length_map]; rfl
    rw [hn]
    refine for_range (n := ss.length) (fun i σ H' => Same H H' ∧ ∃ (ds : List Int) (r z : Int) (y y' : Option V), H' o = some (.lst (ds.map V.int)) ∧ Dg ds (ss.take i) ∧ σ = [some (.int c), some (.ref l), some (.ref o), some (.int r), Option.none, some (.int z), y, y'])
      ⟨s1, [], _, _, Option.none, Option.none, upd_same, True.intro, rfl⟩ ?_ ?_
    · rintro i σ H' hi ⟨sm, ds, r, z, y, y', eo, hd, rfl⟩
      refine ⟨_, rfl, _, _, rfl, rfl, .inr ⟨by decide, by decide⟩, _, rfl, _, _, rfl, rfl, .inl ⟨by decide, by decide⟩, _, _, rfl, rfl, _, _, rfl, rfl, .inl ⟨_, rfl, _, _, rfl, rfl, (by show (0 : Int) < 2147483647; decide), ?_⟩⟩
      have b0 := Int.emod_nonneg (z * 48271 + 974711 * (0 + (i : Int)) + 12345) (show (2147483647 : Int) ≠ 0 by decide)
      have b1 := Int.emod_lt_of_pos (z * 48271 + 974711 * (0 + (i : Int)) + 12345) (show (0 : Int) < 2147483647 by decide)
      refine ⟨_, rfl, _, rfl, _, _, rfl, rfl, ⟨by decide, by decide⟩, _, _, rfl, rfl, _, _, rfl, rfl, .inl ⟨?_, ?_⟩, .inl ⟨_, rfl, _, _, rfl, rfl, (by show (0 : Int) < 2147483629; decide), ?_⟩⟩
      · exact Int.lt_of_lt_of_le (by decide) b0
      · exact Int.lt_trans b1 (by decide)
      have g : (ss.map V.int)[i]? = some (.int ss[i]) := by rw [List.getElem?_map, List.getElem?_eq_getElem hi]; rfl
      have hv2 := hpos ss[i] (List.getElem_mem hi)
      refine ⟨_, rfl, .inl ⟨rfl, _, SqL.of eo⟩, _, rfl, _, _, rfl, rfl, ⟨by decide, by decide⟩, _, rfl, _, rfl, l, _, _, _, rfl, rfl, sm.seq hS, ?_, _, _, rfl, rfl, hv2.1, o, _, _, rfl, rfl, eo, ?_, ?_⟩
      · rw [Int.zero_add]; exact atI_nat g
      · rw [List.length_map, hd.len, List.length_take]
        exact Nat.lt_of_le_of_lt (Nat.min_le_right _ _) (small1000 hlen)
      · refine ⟨fun b u e => ?_, ds ++ [((z * 48271 + 974711 * (0 + (i : Int)) + 12345) % 2147483647 * ((z * 48271 + 974711 * (0 + (i : Int)) + 12345) % 2147483647 / 65537 + 3)) % 2147483629 / 19 % ss[i]], _, _, _, _, ?_, ?_, rfl⟩
        · rw [upd_ne (ne_of_none e no)]
          exact sm _ _ e
        · rw [upd_same, List.map_append]
          rfl
        · rw [take_snoc (List.getElem?_eq_getElem hi)]
          exact hd.snoc (Int.emod_nonneg _ (by omega)) (Int.emod_lt_of_pos _ hv2.1)
    · rintro σ H' ⟨sm, ds, r, z, y, y', eo, hd, rfl⟩
      rw [List.take_length] at hd
      exact ⟨_, rfl, q o ds H' sm eo hd⟩
end
end K21
set_option Elab.async false
set_option linter.all false
set_option maxRecDepth 100000
set_option maxHeartbeats 4000000
set_option pp.maxSteps 400
set_option pp.deepTerms false
namespace K21
open PySem PySem.Spec PyProof.Rows L2 K11
/-! ### _law_tree -/
theorem last_two {x : V} : atI [x] (-1) = some x := atI_last [] x
section
variable {P : Program} {w : World} {K : PySem.W.Frag} {mg : Str → Option Value} {base : Heap}
abbrev nTree : List Str := ["row", "depth", "parts", "number", "part"]
theorem scTree : FnScope nTree ["row", "depth"] (defScope sTree) := ⟨rfl, rfl, rfl, by decide +kernel, rfl, by decide +kernel, by decide +kernel⟩
def spTreeL (K : PySem.W.Frag) (c : Nat) : Sp := fun vs H Q _ => ∃ (a : Addr) (row : List Int) (d : Nat), vs = [.ref a, .int (d : Int)] ∧ SqL K H a (row.map V.int) ∧ row.length ≤ 500 ∧ d + 1 ≤ c ∧
  ∀ r H', Same H H' → TA d H' (.ref r) (treeOf d row) → Q (.ref r) H'
theorem ok_treeL {c : Nat} {f : Addr} {fd : FuncData} (F : Fun K "_law_tree" "_law_tree" sTree f fd) (G : FnOk P w K mg base CX0 c f fd ["row", "depth"] (spTreeL K c)) (bG : Binds K fd ["row", "depth"] []) (mG : mg "_law_tree" = some (.ref f))
    (mt : mg "tuple" = none) : FnOk P w K mg base CX0 (c + 1) f fd ["row", "depth"] (spTreeL K (c + 1)) := by
  refine F.ok scTree (fun vs H Q E h => ?_) (fun cdv A outer s H vs Q E hr h => ?_)
  · obtain ⟨a, row, d, rfl, _⟩ := h
    rfl
  obtain ⟨a, row, d, rfl, hS, hl, hc, q⟩ := h
  have nd := scTree.nd
  have kG := F.kp
  refine ⟨_, pss_cons (ps_if (pt_cmpR op_eq (pv 1) pe_int (nomark _)) (pss_one (ps_ret (pe_tup pa_nil))) pss_nil)
    (pss_cons (ps_set (i := 2) nd rfl (.inl rfl) (pe_lst (pa_cons (pe_lst pa_nil) pa_nil)))
    (pss_cons (ps_for PassesOwn.never rfl (pi_list (pv 0)) (pg_name (i := 3) nd rfl (.inl rfl))
      (pss_one (ps_if (pt_cmpR op_eq (pv 3) (pv 1) (nomark _))
        (pss_one (ps_expr (pe_bm PySem.F.plainAttrs_list PySem.F.slot_list_append PySem.F.type_list_append mt_append (pv 2) (pa_cons (pe_lst pa_nil) pa_nil))))
        (pss_one (ps_expr (pe_bm PySem.F.plainAttrs_list PySem.F.slot_list_append PySem.F.type_list_append mt_append (pe_ix ix_list (pv 2) (pe_un un_neg pe_int) (fun _ _ => rfl)) (pa_cons (pv 3) pa_nil)))))))
    (pss_one (ps_ret (pe_tupleOf (by rfl) mt (pe_lc (own := [("part", 4)]) (g := gName 4) (tt := tYes) rfl nd (pi_list (pv 2)) (blkOk_by (N := nTree) (sc := defScope sTree) (by decide +kernel))
      (fun _ _ _ _ _ => pg_name (i := 4) nd rfl (Or.inl rfl)) (fun _ _ _ _ _ => pts_nil)
      (fun _ _ _ _ _ => pe_call G hr (by rfl) mG kG bG .nil pass0 (pa_cons (pv 4) (pa_cons (pe_op op_sub (pv 1) pe_int) pa_nil))))))))), ?_⟩
  refine ⟨_, rfl, rfl, _, rfl, ite2 (fun z => ?_) (fun z => ?_)⟩
  · have z' : (d : Int) = 0 := V.int.inj (of_decide_eq_true z)
    have z2 : d = 0 := by omega
    subst z2
    refine ⟨Nat.zero_le _, fun p hp => q p _ (same_new hp _) ⟨p, rfl, upd_same, rfl⟩⟩
  have z' : ¬ (d : Int) = 0 := fun y => z (decide_eq_true (congrArg V.int y))
  obtain ⟨e, rfl⟩ : ∃ e, d = e + 1 := ⟨d - 1, by omega⟩
  refine ⟨Nat.zero_le _, fun c0 hc0 => ⟨one_le, fun P0 hP0 => ?_⟩⟩
  have s1 : Same H (upd H c0 (.lst [])) := same_new hc0 _
  have hPn : H P0 = none := s1.free hP0
  have ncP : c0 ≠ P0 := fun z => by rw [← z, upd_same] at hP0; cases hP0
  refine ⟨_, rfl, a, rfl, ⟨_, (same_upd s1 hPn _).seq hS⟩, for_list (xs := row.map V.int) (fun i σ H' => ∃ (done : List (List Int)) (cur : List Int) (rs : List Addr) (ca : Addr) (y : Option V),
    σ = [some (.ref a), some (.int ((e + 1 : Nat) : Int)), some (.ref P0), y, Option.none] ∧ H' P0 = some (.lst ((rs ++ [ca]).map V.ref)) ∧ H' ca = some (.lst (cur.map V.int)) ∧
    Paired (fun r x => H' r = some (.lst (x.map V.int)) ∧ r ≠ ca ∧ r ≠ P0) rs done ∧ ca ≠ P0 ∧ H ca = none ∧ Same H H' ∧ (row.take i).foldl (stepP ((e + 1 : Nat) : Int)) ([], []) = (done, cur)) ?_ ?_ ?_ ?_⟩
  · exact ⟨[], [], [], c0, Option.none, rfl, upd_same, (by rw [upd_ne ncP, upd_same]; rfl), .nil, ncP, hc0, same_upd s1 hPn _, rfl⟩
  · rintro i σ H' _ ⟨done, cur, rs, ca, y, _, _, _, _, _, _, sm, _⟩
    exact sm.seq hS
  · rintro i x σ H' hx ⟨done, cur, rs, ca, y, rfl, eP, ec, pr, ncp, hca, sm, fo⟩
    obtain ⟨v, hv, rfl⟩ := map_at hx
    have fo' : (row.take (i + 1)).foldl (stepP ((e + 1 : Nat) : Int)) ([], []) = stepP ((e + 1 : Nat) : Int) (done, cur) v := by
      rw [take_snoc hv, List.foldl_append, fo]
      rfl
    have hi : i < row.length := (List.getElem?_eq_some_iff.mp hv).1
    have ln := step_len (d := ((e + 1 : Nat) : Int)) (row.take i) ([], [])
    rw [fo, List.length_take] at ln
    simp only [List.length_nil] at ln
    have lr := pr.length
    refine ⟨_, rfl, _, rfl, rfl, _, rfl, ite2 (fun c => ?_) (fun c => ?_)⟩
    · have c' : v = ((e + 1 : Nat) : Int) := V.int.inj (of_decide_eq_true c)
      refine ⟨_, rfl, .inl ⟨rfl, _, SqL.of eP⟩, Nat.zero_le _, fun n hn => ?_⟩
      have nP : P0 ≠ n := ne_of_none eP hn
      have hnn : H n = none := sm.free hn
      refine ⟨P0, _, _, rfl, rfl, by rw [upd_ne nP]; exact eP, ?_, ?_⟩
      · rw [List.length_map, List.length_append, List.length_singleton]
        exact lt_line (by omega)
      · refine ⟨done ++ [cur], [], rs ++ [ca], n, some (.int v), rfl, ?_, ?_, ?_, nP.symm, hnn, ?_, ?_⟩
        · rw [upd_same, List.map_append (l₂ := [n])]
          rfl
        · rw [upd_ne nP.symm, upd_same]
          rfl
        · refine (L2.Paired.mapP pr fun r l h => ⟨(by rw [upd_ne h.2.2, upd_ne (ne_of_none h.1 hn)]; exact h.1), ne_of_none h.1 hn, h.2.2⟩).snoc ⟨?_, ne_of_none ec hn, ncp⟩
          rw [upd_ne ncp, upd_ne (ne_of_none ec hn)]
          exact ec
        · exact same_upd (same_upd sm hnn _) hPn _
        · rw [fo']
          unfold stepP
          rw [if_pos c']
    · have c' : ¬ v = ((e + 1 : Nat) : Int) := fun y => c (decide_eq_true (congrArg V.int y))
      refine ⟨_, rfl, 1, rfl, P0, _, -1, .ref ca, rfl, rfl, SqL.of eP, ?_, .inl ⟨rfl, _, SqL.of ec⟩, _, rfl, ca, _, _, rfl, rfl, ec, ?_, ?_⟩
      · rw [List.map_append]
        exact atI_last _ _
      · rw [List.length_map]
        exact lt_line (by omega)
      · refine ⟨done, cur ++ [v], rs, ca, some (.int v), rfl, ?_, ?_, ?_, ncp, hca, same_upd sm hca _, ?_⟩
        · rw [upd_ne ncp.symm]
          exact eP
        · rw [upd_same, List.map_append]
          rfl
        · refine L2.Paired.mapP pr fun r l h => ⟨?_, h.2⟩
          rw [upd_ne h.2.1]
          exact h.1
        · rw [fo']
          unfold stepP
          rw [if_neg c']
  · rintro σ H' ⟨done, cur, rs, ca, y, rfl, eP, ec, pr, ncp, hca, sm, fo⟩
    rw [List.length_map, List.take_length] at fo
    have hparts : partsOf ((e + 1 : Nat) : Int) row = done ++ [cur] := by
      unfold partsOf
      rw [fo]
    have ln := step_len (d := ((e + 1 : Nat) : Int)) row ([], [])
    rw [fo] at ln
    simp only [List.length_nil] at ln
    have lr := pr.length
    have prs : Paired (fun r x => H' r = some (.lst (x.map V.int)) ∧ x.length ≤ 500) (rs ++ [ca]) (done ++ [cur]) := by
      refine Paired.snoc ?_ ⟨ec, by omega⟩
      have dl : ∀ x ∈ done, x.length ≤ 500 := by
        intro x hx
        have := step_all (d := ((e + 1 : Nat) : Int)) row ([], []) x (by rw [fo]; exact hx)
        rcases this with h | h
        · exact nomatch h
        · simp only [List.length_nil] at h; omega
      clear ln lr hparts fo eP
      induction pr with
      | nil => exact .nil
      | cons h _ ih => exact .cons ⟨h.1, dl _ (List.mem_cons_self ..)⟩ (ih fun x hx => dl x (List.mem_cons_of_mem _ hx))
    refine ⟨_, rfl, P0, rfl, ⟨_, SqL.of eP⟩, fun D hD => ?_⟩
    have hDn : H D = none := sm.free hD
    have sD : Same H' (upd H' D (.lst [])) := same_new hD _
    refine lc_list (xs := (rs ++ [ca]).map V.ref) (fun j H3 => Same H' H3 ∧ ∃ ws : List V, H3 D = some (.lst ws) ∧ Paired (TA e H3) ws (((done ++ [cur]).map (treeOf e)).take j)) ⟨sD, [], upd_same, .nil⟩ (fun j H3 _ z => SqL.of (z.1 _ _ eP)) ?_ ?_
    · rintro j x H3 hx ⟨s3, ws, eD, pw⟩
      obtain ⟨r, hr', rfl⟩ := map_atV hx
      obtain ⟨part, hp, hpr⟩ := pr_get prs hr'
      refine ⟨rfl, ?_⟩
      show tCall (spTreeL K c) [] E0 (tCons (tVar 4) (tCons (tOp (rI0 fun i j => .int (i - j)) (tVar 1) (tC (.int 1))) tNil)) [some (.ref a), some (.int ((e + 1 : Nat) : Int)), some (.ref P0), y, some (.ref r)] H3 _
      refine ⟨_, rfl, _, rfl, _, _, rfl, rfl, r, part, e, ?_, SqL.of (s3 _ _ hpr.1), hpr.2, by omega, fun t H4 s4 ht => ?_⟩
      · have e1 : ((e + 1 : Nat) : Int) - 1 = (e : Int) := by omega
        exact congrArg (fun z => [V.ref r, V.int z]) e1
      · have eD4 := s4 _ _ eD
        have hj : j < (done ++ [cur]).length := (List.getElem?_eq_some_iff.mp hp).1
        have lw := pw.length
        rw [List.length_take, List.length_map] at lw
        have hD4 : ∀ o, Same H' (upd H4 D o) := fun o => same_upd (s3.trans s4) hD o
        refine ⟨ws, eD4, ?_, hD4 _, ws ++ [.ref t], upd_same, ?_⟩
        · rw [List.length_append, List.length_singleton] at hj
          exact lt_line (by omega)
        · have mv : ∀ {v : V} {t' : Tr}, TA e H4 v t' → TA e (upd H4 D (.lst (ws ++ [.ref t]))) v t' := fun h => h.lst eD4 _
          rw [tk1 (show ((done ++ [cur]).map (treeOf e))[j]? = some (treeOf e part) by rw [List.getElem?_map, hp]; rfl)]
          exact (L2.Paired.mapP pw fun _ _ x => mv (x.same s4)).snoc (mv ht)
    · rintro H3 ⟨s3, ws, eD, pw⟩
      rw [List.length_map] at pw
      refine .inl ⟨D, ws, rfl, SqL.of eD, fun u hu => ?_⟩
      have su : Same H3 (upd H3 u (.tup ws)) := same_new hu _
      refine q u _ (sm.trans (s3.trans su)) ⟨u, ws, rfl, upd_same, ?_⟩
      show Paired (TA e _) ws ((partsOf ((e + 1 : Nat) : Int) row).map (treeOf e))
      rw [hparts]
      have ht : ((done ++ [cur]).map (treeOf e)).take (rs ++ [ca]).length = (done ++ [cur]).map (treeOf e) := List.take_of_length_le (by rw [List.length_map, List.length_append, List.length_append, lr]; exact Nat.le_refl _)
      rw [ht] at pw
      exact L2.Paired.mapP pw fun _ _ x => x.same su
def spTreeT (K : PySem.W.Frag) (c : Nat) : Sp := fun vs H Q _ => ∃ (a : Addr) (row : List Int) (d : Nat), vs = [.ref a, .int (d : Int)] ∧ SqT K H a (row.map V.int) ∧ row.length ≤ 500 ∧ d + 1 ≤ c ∧
  ∀ r H', Same H H' → TA d H' (.ref r) (treeOf d row) → Q (.ref r) H'
theorem ok_treeT {c : Nat} {f : Addr} {fd : FuncData} (F : Fun K "_law_tree" "_law_tree" sTree f fd) (G : FnOk P w K mg base CX0 c f fd ["row", "depth"] (spTreeL K c)) (bG : Binds K fd ["row", "depth"] []) (mG : mg "_law_tree" = some (.ref f))
    (mt : mg "tuple" = none) : FnOk P w K mg base CX0 (c + 1) f fd ["row", "depth"] (spTreeT K (c + 1)) := by
  refine F.ok scTree (fun vs H Q E h => ?_) (fun cdv A outer s H vs Q E hr h => ?_)
  · obtain ⟨a, row, d, rfl, _⟩ := h
    rfl
  obtain ⟨a, row, d, rfl, hS, hl, hc, q⟩ := h
  have nd := scTree.nd
  have kG := F.kp
  refine ⟨_, pss_cons (ps_if (pt_cmpR op_eq (pv 1) pe_int (nomark _)) (pss_one (ps_ret (pe_tup pa_nil))) pss_nil)
    (pss_cons (ps_set (i := 2) nd rfl (.inl rfl) (pe_lst (pa_cons (pe_lst pa_nil) pa_nil)))
    (pss_cons (ps_for PassesOwn.never rfl (pi_tup (pv 0)) (pg_name (i := 3) nd rfl (.inl rfl))
      (pss_one (ps_if (pt_cmpR op_eq (pv 3) (pv 1) (nomark _))
        (pss_one (ps_expr (pe_bm PySem.F.plainAttrs_list PySem.F.slot_list_append PySem.F.type_list_append mt_append (pv 2) (pa_cons (pe_lst pa_nil) pa_nil))))
        (pss_one (ps_expr (pe_bm PySem.F.plainAttrs_list PySem.F.slot_list_append PySem.F.type_list_append mt_append (pe_ix ix_list (pv 2) (pe_un un_neg pe_int) (fun _ _ => rfl)) (pa_cons (pv 3) pa_nil)))))))
    (pss_one (ps_ret (pe_tupleOf (by rfl) mt (pe_lc (own := [("part", 4)]) (g := gName 4) (tt := tYes) rfl nd (pi_list (pv 2)) (blkOk_by (N := nTree) (sc := defScope sTree) (by decide +kernel))
      (fun _ _ _ _ _ => pg_name (i := 4) nd rfl (Or.inl rfl)) (fun _ _ _ _ _ => pts_nil)
      (fun _ _ _ _ _ => pe_call G hr (by rfl) mG kG bG .nil pass0 (pa_cons (pv 4) (pa_cons (pe_op op_sub (pv 1) pe_int) pa_nil))))))))), ?_⟩
  refine ⟨_, rfl, rfl, _, rfl, ite2 (fun z => ?_) (fun z => ?_)⟩
  · have z' : (d : Int) = 0 := V.int.inj (of_decide_eq_true z)
    have z2 : d = 0 := by omega
    subst z2
    refine ⟨Nat.zero_le _, fun p hp => q p _ (same_new hp _) ⟨p, rfl, upd_same, rfl⟩⟩
  have z' : ¬ (d : Int) = 0 := fun y => z (decide_eq_true (congrArg V.int y))
  obtain ⟨e, rfl⟩ : ∃ e, d = e + 1 := ⟨d - 1, by omega⟩
  refine ⟨Nat.zero_le _, fun c0 hc0 => ⟨one_le, fun P0 hP0 => ?_⟩⟩
  have s1 : Same H (upd H c0 (.lst [])) := same_new hc0 _
  have hPn : H P0 = none := s1.free hP0
  have ncP : c0 ≠ P0 := fun z => by rw [← z, upd_same] at hP0; cases hP0
  refine ⟨_, rfl, a, rfl, ⟨_, (same_upd s1 hPn _).seqT hS⟩, for_tup (xs := row.map V.int) (fun i σ H' => ∃ (done : List (List Int)) (cur : List Int) (rs : List Addr) (ca : Addr) (y : Option V),
    σ = [some (.ref a), some (.int ((e + 1 : Nat) : Int)), some (.ref P0), y, Option.none] ∧ H' P0 = some (.lst ((rs ++ [ca]).map V.ref)) ∧ H' ca = some (.lst (cur.map V.int)) ∧
    Paired (fun r x => H' r = some (.lst (x.map V.int)) ∧ r ≠ ca ∧ r ≠ P0) rs done ∧ ca ≠ P0 ∧ H ca = none ∧ Same H H' ∧ (row.take i).foldl (stepP ((e + 1 : Nat) : Int)) ([], []) = (done, cur)) ?_ ?_ ?_ ?_⟩
  · exact ⟨[], [], [], c0, Option.none, rfl, upd_same, (by rw [upd_ne ncP, upd_same]; rfl), .nil, ncP, hc0, same_upd s1 hPn _, rfl⟩
  · rintro i σ H' _ ⟨done, cur, rs, ca, y, _, _, _, _, _, _, sm, _⟩
    exact sm.seqT hS
  · rintro i x σ H' hx ⟨done, cur, rs, ca, y, rfl, eP, ec, pr, ncp, hca, sm, fo⟩
    obtain ⟨v, hv, rfl⟩ := map_at hx
    have fo' : (row.take (i + 1)).foldl (stepP ((e + 1 : Nat) : Int)) ([], []) = stepP ((e + 1 : Nat) : Int) (done, cur) v := by
      rw [take_snoc hv, List.foldl_append, fo]
      rfl
    have hi : i < row.length := (List.getElem?_eq_some_iff.mp hv).1
    have ln := step_len (d := ((e + 1 : Nat) : Int)) (row.take i) ([], [])
    rw [fo, List.length_take] at ln
    simp only [List.length_nil] at ln
    have lr := pr.length
    refine ⟨_, rfl, _, rfl, rfl, _, rfl, ite2 (fun c => ?_) (fun c => ?_)⟩
    · have c' : v = ((e + 1 : Nat) : Int) := V.int.inj (of_decide_eq_true c)
      refine ⟨_, rfl, .inl ⟨rfl, _, SqL.of eP⟩, Nat.zero_le _, fun n hn => ?_⟩
      have nP : P0 ≠ n := ne_of_none eP hn
      have hnn : H n = none := sm.free hn
      refine ⟨P0, _, _, rfl, rfl, by rw [upd_ne nP]; exact eP, ?_, ?_⟩
      · rw [List.length_map, List.length_append, List.length_singleton]
        exact lt_line (by omega)
      · refine ⟨done ++ [cur], [], rs ++ [ca], n, some (.int v), rfl, ?_, ?_, ?_, nP.symm, hnn, ?_, ?_⟩
        · rw [upd_same, List.map_append (l₂ := [n])]
          rfl
        · rw [upd_ne nP.symm, upd_same]
          rfl
        · refine (L2.Paired.mapP pr fun r l h => ⟨(by rw [upd_ne h.2.2, upd_ne (ne_of_none h.1 hn)]; exact h.1), ne_of_none h.1 hn, h.2.2⟩).snoc ⟨?_, ne_of_none ec hn, ncp⟩
          rw [upd_ne ncp, upd_ne (ne_of_none ec hn)]
          exact ec
        · exact same_upd (same_upd sm hnn _) hPn _
        · rw [fo']
          unfold stepP
          rw [if_pos c']
    · have c' : ¬ v = ((e + 1 : Nat) : Int) := fun y => c (decide_eq_true (congrArg V.int y))
      refine ⟨_, rfl, 1, rfl, P0, _, -1, .ref ca, rfl, rfl, SqL.of eP, ?_, .inl ⟨rfl, _, SqL.of ec⟩, _, rfl, ca, _, _, rfl, rfl, ec, ?_, ?_⟩
      · rw [List.map_append]
        exact atI_last _ _
      · rw [List.length_map]
        exact lt_line (by omega)
      · refine ⟨done, cur ++ [v], rs, ca, some (.int v), rfl, ?_, ?_, ?_, ncp, hca, same_upd sm hca _, ?_⟩
        · rw [upd_ne ncp.symm]
          exact eP
        · rw [upd_same, List.map_append]
          rfl
        · refine L2.Paired.mapP pr fun r l h => ⟨?_, h.2⟩
          rw [upd_ne h.2.1]
          exact h.1
        · rw [fo']
          unfold stepP
          rw [if_neg c']
  · rintro σ H' ⟨done, cur, rs, ca, y, rfl, eP, ec, pr, ncp, hca, sm, fo⟩
    rw [List.length_map, List.take_length] at fo
    have hparts : partsOf ((e + 1 : Nat) : Int) row = done ++ [cur] := by
      unfold partsOf
      rw [fo]
    have ln := step_len (d := ((e + 1 : Nat) : Int)) row ([], [])
    rw [fo] at ln
    simp only [List.length_nil] at ln
    have lr := pr.length
    have prs : Paired (fun r x => H' r = some (.lst (x.map V.int)) ∧ x.length ≤ 500) (rs ++ [ca]) (done ++ [cur]) := by
      refine Paired.snoc ?_ ⟨ec, by omega⟩
      have dl : ∀ x ∈ done, x.length ≤ 500 := by
        intro x hx
        have := step_all (d := ((e + 1 : Nat) : Int)) row ([], []) x (by rw [fo]; exact hx)
        rcases this with h | h
        · exact nomatch h
        · simp only [List.length_nil] at h; omega
      clear ln lr hparts fo eP
      induction pr with
      | nil => exact .nil
      | cons h _ ih => exact .cons ⟨h.1, dl _ (List.mem_cons_self ..)⟩ (ih fun x hx => dl x (List.mem_cons_of_mem _ hx))
    refine ⟨_, rfl, P0, rfl, ⟨_, SqL.of eP⟩, fun D hD => ?_⟩
    have hDn : H D = none := sm.free hD
    have sD : Same H' (upd H' D (.lst [])) := same_new hD _
    refine lc_list (xs := (rs ++ [ca]).map V.ref) (fun j H3 => Same H' H3 ∧ ∃ ws : List V, H3 D = some (.lst ws) ∧ Paired (TA e H3) ws (((done ++ [cur]).map (treeOf e)).take j)) ⟨sD, [], upd_same, .nil⟩ (fun j H3 _ z => SqL.of (z.1 _ _ eP)) ?_ ?_
    · rintro j x H3 hx ⟨s3, ws, eD, pw⟩
      obtain ⟨r, hr', rfl⟩ := map_atV hx
      obtain ⟨part, hp, hpr⟩ := pr_get prs hr'
      refine ⟨rfl, ?_⟩
      show tCall (spTreeL K c) [] E0 (tCons (tVar 4) (tCons (tOp (rI0 fun i j => .int (i - j)) (tVar 1) (tC (.int 1))) tNil)) [some (.ref a), some (.int ((e + 1 : Nat) : Int)), some (.ref P0), y, some (.ref r)] H3 _
      refine ⟨_, rfl, _, rfl, _, _, rfl, rfl, r, part, e, ?_, SqL.of (s3 _ _ hpr.1), hpr.2, by omega, fun t H4 s4 ht => ?_⟩
      · have e1 : ((e + 1 : Nat) : Int) - 1 = (e : Int) := by omega
        exact congrArg (fun z => [V.ref r, V.int z]) e1
      · have eD4 := s4 _ _ eD
        have hj : j < (done ++ [cur]).length := (List.getElem?_eq_some_iff.mp hp).1
        have lw := pw.length
        rw [List.length_take, List.length_map] at lw
        have hD4 : ∀ o, Same H' (upd H4 D o) := fun o => same_upd (s3.trans s4) hD o
        refine ⟨ws, eD4, ?_, hD4 _, ws ++ [.ref t], upd_same, ?_⟩
        · rw [List.length_append, List.length_singleton] at hj
          exact lt_line (by omega)
        · have mv : ∀ {v : V} {t' : Tr}, TA e H4 v t' → TA e (upd H4 D (.lst (ws ++ [.ref t]))) v t' := fun h => h.lst eD4 _
          rw [tk1 (show ((done ++ [cur]).map (treeOf e))[j]? = some (treeOf e part) by rw [List.getElem?_map, hp]; rfl)]
          exact (L2.Paired.mapP pw fun _ _ x => mv (x.same s4)).snoc (mv ht)
    · rintro H3 ⟨s3, ws, eD, pw⟩
      rw [List.length_map] at pw
      refine .inl ⟨D, ws, rfl, SqL.of eD, fun u hu => ?_⟩
      have su : Same H3 (upd H3 u (.tup ws)) := same_new hu _
      refine q u _ (sm.trans (s3.trans su)) ⟨u, ws, rfl, upd_same, ?_⟩
      show Paired (TA e _) ws ((partsOf ((e + 1 : Nat) : Int) row).map (treeOf e))
      rw [hparts]
      have ht : ((done ++ [cur]).map (treeOf e)).take (rs ++ [ca]).length = (done ++ [cur]).map (treeOf e) := List.take_of_length_le (by rw [List.length_map, List.length_append, List.length_append, lr]; exact Nat.le_refl _)
      rw [ht] at pw
      exact L2.Paired.mapP pw fun _ _ x => x.same su
theorem tree_all {f : Addr} {fd : FuncData} (F : Fun K "_law_tree" "_law_tree" sTree f fd) (bG : Binds K fd ["row", "depth"] []) (mG : mg "_law_tree" = some (.ref f)) (mt : mg "tuple" = none) :
    ∀ c, FnOk P w K mg base CX0 c f fd ["row", "depth"] (spTreeL K c)
  | 0 => neverOk fun vs H Q E h => by
    obtain ⟨a, row, d, _, _, _, h2, _⟩ := h
    omega
  | c + 1 => ok_treeL F (tree_all F bG mG mt c) bG mG mt
end
end K21
set_option Elab.async false
set_option linter.all false
set_option maxRecDepth 100000
set_option maxHeartbeats 4000000
set_option pp.maxSteps 400
set_option pp.deepTerms false
namespace K21
open PySem PySem.Spec PyProof.Rows L2 K11
/-! ### _law_paths -/
theorem sum_take_le {α : Type} (f : α → Nat) : ∀ (l : List α) (k : Nat), ((l.take k).map f).sum ≤ (l.map f).sum
  | [], k => by rw [List.take_nil]; exact Nat.le_refl _
  | a :: l, 0 => Nat.zero_le _
  | a :: l, k + 1 => by
    rw [List.take_succ_cons, List.map_cons, List.map_cons, List.sum_cons, List.sum_cons]
    exact Nat.add_le_add_left (sum_take_le f l k) _
theorem mem_snoc {α : Type} {P : α → Prop} {l : List α} {a : α} (h : ∀ x ∈ l, P x) (h2 : P a) : ∀ x ∈ l ++ [a], P x := fun x hx => by
  rcases List.mem_append.mp hx with hx | hx
  · exact h x hx
  · have e : x = a := by simpa using hx
    rw [e]; exact h2
section
variable {P : Program} {w : World} {K : PySem.W.Frag} {mg : Str → Option Value} {base : Heap}
theorem scPaths : FnScope ["tree", "paths", "k", "path"] ["tree"] (defScope sPaths) := ⟨rfl, rfl, rfl, by decide +kernel, rfl, by decide +kernel, by decide +kernel⟩
def spPaths (c : Nat) : Sp := fun vs H Q _ => ∃ (v : V) (n : Nat) (t : Tr), vs = [v] ∧ TA n H v t ∧ lv n t ≤ 500 ∧ n + 1 ≤ c ∧ n ≤ 50 ∧
  ∀ p ps H', Same H H' → H p = none → PathsAt H' p ps → ps.length = lv n t → (∀ x ∈ ps, x.length ≤ n) → Q (.ref p) H'
theorem ok_paths {c : Nat} {f : Addr} {fd : FuncData} (F : Fun K "_law_paths" "_law_paths" sPaths f fd) (G : FnOk P w K mg base CX0 c f fd ["tree"] (spPaths c)) (bG : Binds K fd ["tree"] []) (mG : mg "_law_paths" = some (.ref f))
    (ml : mg "len" = none) (mr : mg "range" = none) : FnOk P w K mg base CX0 (c + 1) f fd ["tree"] (spPaths (c + 1)) := by
  refine F.ok scPaths (fun vs H Q E h => ?_) (fun cdv A outer s H vs Q E hr h => ?_)
  · obtain ⟨v, n, t, rfl, _⟩ := h
    rfl
  obtain ⟨v, n, t, rfl, hT, hl, hc, hn, q⟩ := h
  have nd := scPaths.nd
  have kG := F.kp
  refine ⟨_, pss_cons (ps_if (pt_cmpR op_eq (pe_callB call_len_seq (by rfl) ml PySem.boot_len (pa_cons (pv 0) pa_nil)) pe_int (nomark _)) (pss_one (ps_ret (pe_lst (pa_cons (pe_tup pa_nil) pa_nil)))) pss_nil)
    (pss_cons (ps_set (i := 1) nd rfl (.inl rfl) (pe_lst pa_nil))
    (pss_cons (ps_for PassesOwn.never rfl (pi_range1 rfl mr (pa_cons (pe_callB call_len_seq (by rfl) ml PySem.boot_len (pa_cons (pv 0) pa_nil)) pa_nil)) (pg_name (i := 2) nd rfl (.inl rfl))
      (pss_one (ps_for PassesOwn.never rfl (pi_list (pe_call G hr (by rfl) mG kG bG .nil pass0 (pa_cons (pe_ix ix_tup (pv 0) (pv 2) (fun _ _ => rfl)) pa_nil))) (pg_name (i := 3) nd rfl (.inl rfl))
        (pss_one (ps_expr (pe_bm PySem.F.plainAttrs_list PySem.F.slot_list_append PySem.F.type_list_append mt_append (pv 1) (pa_cons (pe_op op_catT (pe_tup (pa_cons (pv 2) pa_nil)) (pv 3)) pa_nil)))))))
    (pss_one (ps_ret (pv 1))))), ?_⟩
  obtain ⟨a, vs, rfl, ea, hlen⟩ := hT.tup
  refine ⟨_, rfl, a, _, rfl, .inr (.inl (.inl ea)), rfl, _, rfl, ite2 (fun z => ?_) (fun z => ?_)⟩
  · have z' : (vs.length : Int) = 0 := V.int.inj (of_decide_eq_true z)
    refine ⟨Nat.zero_le _, fun u hu => ⟨one_le, fun p hp => ?_⟩⟩
    have s1 : Same H (upd H u (.tup [])) := same_new hu _
    have s2 := same_new hp (.lst [.ref u])
    have nu : u ≠ p := fun e => by rw [← e, upd_same] at hp; cases hp
    have hk : t.kids = [] := List.length_eq_zero_iff.mp (by omega)
    refine q p [[]] _ (s1.trans s2) (s1.free hp) ⟨[u], upd_same, .cons ?_ .nil⟩ ?_ ?_
    · rw [upd_ne nu, upd_same]
      rfl
    · cases n with
      | zero => rfl
      | succ n => unfold lv; rw [if_pos hk]; rfl
    · intro x hx
      have e : x = [] := by simpa using hx
      rw [e]
      exact Nat.zero_le _
  have z' : ¬ (vs.length : Int) = 0 := fun y => z (decide_eq_true (congrArg V.int y))
  cases n with
  | zero =>
    obtain ⟨a', e1, e2, e3⟩ := hT
    rw [e3] at hlen
    exact absurd (congrArg (fun k : Nat => (k : Int)) hlen) z'
  | succ n =>
    obtain ⟨a', vs', e1, e2, pk⟩ := hT
    cases e1
    rw [ea] at e2
    cases e2
    have hk : t.kids ≠ [] := fun e => z' (by rw [hlen, e]; rfl)
    have el : lv (n + 1) t = (t.kids.map (lv n)).sum := by unfold lv; rw [if_neg hk]
    rw [el] at hl q
    have hvs : vs.length ≤ 500 := by
      have h1 : ∀ l : List Tr, l.length ≤ (l.map (lv n)).sum := by
        intro l
        induction l with
        | nil => exact Nat.le_refl _
        | cons x l ih =>
          rw [List.length_cons, List.map_cons, List.sum_cons]
          have := lv_pos n x
          omega
      have := h1 t.kids
      omega
    refine ⟨Nat.zero_le _, fun P0 hP0 => ?_⟩
    have s0 : Same H (upd H P0 (.lst [])) := same_new hP0 _
    refine ⟨_, rfl, a, _, rfl, .inr (.inl (.inl (s0 _ _ ea))), _, rfl, by omega, by omega, ?_⟩
    have e0 : ((vs.length : Nat) : Int).toNat = vs.length := rfl
    rw [e0]
    refine for_range (n := vs.length) (fun k σ H' => Same H H' ∧ ∃ (y2 y3 : Option V) (rs : List Addr) (ps : List (List Int)), σ = [some (.ref a), some (.ref P0), y2, y3] ∧ H' P0 = some (.lst (rs.map V.ref)) ∧ PA H' rs ps ∧
      ps.length = ((t.kids.take k).map (lv n)).sum ∧ ∀ x ∈ ps, x.length ≤ n + 1) ⟨s0, Option.none, Option.none, [], [], rfl, upd_same, .nil, rfl, fun x hx => nomatch hx⟩ ?_ ?_
    · rintro k σ H1 hk1 ⟨sm, y2, y3, rs, ps, rfl, eP, pa, hlen2, hx⟩
      have gv : vs[k]? = some vs[k] := List.getElem?_eq_getElem hk1
      obtain ⟨tk, htk, hTk⟩ := pr_get pk gv
      have hlk : lv n tk ≤ 500 := by
        have h1 := sum_take_le (lv n) t.kids (k + 1)
        rw [tk1 htk, List.map_append, List.sum_append] at h1
        simp at h1
        omega
      have hsum : ((t.kids.take (k + 1)).map (lv n)).sum = ((t.kids.take k).map (lv n)).sum + lv n tk := by
        rw [tk1 htk, List.map_append, List.sum_append]
        simp
      have htot := sum_take_le (lv n) t.kids (k + 1)
      refine ⟨_, rfl, _, rfl, a, _, _, vs[k], rfl, rfl, .inl (.inl (sm _ _ ea)), ?_, vs[k], n, tk, rfl, hTk.same sm, hlk, by omega, by omega, fun p2 ps2 H2 s2 hp2 hP2 hl2 hx2 => ?_⟩
      · rw [Int.zero_add]; exact atI_nat gv
      obtain ⟨rs2, e2, pa2⟩ := hP2
      have nP2 : P0 ≠ p2 := ne_of_none eP hp2
      have l2 : rs2.length = ps2.length := pa2.length
      refine ⟨p2, rfl, ⟨_, SqL.of e2⟩, for_list (xs := rs2.map V.ref) (fun j σ H' => Same H H' ∧ H' p2 = some (.lst (rs2.map V.ref)) ∧ PA H' rs2 ps2 ∧ ∃ (y3 : Option V) (rs3 : List Addr) (ps3 : List (List Int)), σ = [some (.ref a), some (.ref P0), some (.int (0 + (k : Int))), y3] ∧ H' P0 = some (.lst (rs3.map V.ref)) ∧ PA H' rs3 ps3 ∧
        ps3.length = ps.length + j ∧ ∀ x ∈ ps3, x.length ≤ n + 1) ⟨sm.trans s2, e2, pa2, y3, rs, ps, rfl, s2 _ _ eP, pa.same s2, rfl, hx⟩ (fun j σ H' _ z => SqL.of z.2.1) ?_ ?_⟩
      · rintro j x σ H3 hx3 ⟨sm3, e3, pa3, y3', rs3, ps3, rfl, eP3, pa3', hl3, hx3'⟩
        obtain ⟨r, hr', rfl⟩ := map_atV hx3
        obtain ⟨path, hpath, er⟩ := pr_get pa3 hr'
        have hj : j < ps2.length := (List.getElem?_eq_some_iff.mp hpath).1
        have hlp := hx2 path (List.mem_of_getElem? hpath)
        refine ⟨_, rfl, .inl ⟨rfl, _, SqL.of eP3⟩, _, rfl, one_le, fun T1 hT1 => ?_⟩
        have st := same_new hT1 (.tup [.int (0 + (k : Int))])
        have eT : upd H3 T1 (.tup [.int (0 + (k : Int))]) T1 = some (.tup [.int (0 + (k : Int))]) := upd_same
        have fin : ∀ (T2 : Addr) (H4 : Hp), Same H3 H4 → H4 T2 = some (.tup (((0 + (k : Int)) :: path).map V.int)) →
            ∃ l xs y, V.ref P0 = .ref l ∧ [V.ref T2] = [y] ∧ H4 l = some (.lst xs) ∧ xs.length < sizeLine ∧
              (Same H (upd H4 l (.lst (xs ++ [y]))) ∧ upd H4 l (.lst (xs ++ [y])) p2 = some (.lst (rs2.map V.ref)) ∧ PA (upd H4 l (.lst (xs ++ [y]))) rs2 ps2 ∧ ∃ (y3 : Option V) (rs3 : List Addr) (ps3 : List (List Int)), [some (.ref a), some (.ref P0), some (.int (0 + (k : Int))), some (.ref r)] = [some (.ref a), some (.ref P0), some (.int (0 + (k : Int))), y3] ∧ upd H4 l (.lst (xs ++ [y])) P0 = some (.lst (rs3.map V.ref)) ∧ PA (upd H4 l (.lst (xs ++ [y]))) rs3 ps3 ∧
                ps3.length = ps.length + (j + 1) ∧ ∀ x ∈ ps3, x.length ≤ n + 1) := by
          intro T2 H4 s4 e4
          have eP4 := s4 _ _ eP3
          refine ⟨P0, _, _, rfl, rfl, eP4, ?_, same_upd (sm3.trans s4) hP0 _, ?_, (pa3.same s4).lst eP4 _, some (.ref r), rs3 ++ [T2], ps3 ++ [(0 + (k : Int)) :: path], rfl, ?_, ?_, ?_, ?_⟩
          · rw [List.length_map, pa3'.length]
            exact lt_line (by omega)
          · rw [upd_ne (Ne.symm nP2)]
            exact s4 _ _ e3
          · rw [upd_same, List.map_append]
            rfl
          · refine ((pa3'.same s4).lst eP4 _).snoc ?_
            rw [upd_ne (ne_of e4 eP4 (fun z => nomatch z))]
            exact e4
          · rw [List.length_append, hl3]
            rfl
          · refine mem_snoc hx3' ?_
            rw [List.length_cons]
            omega
        refine ⟨_, rfl, T1, r, _, _, rfl, rfl, .inl (.inl eT), .inl (.inl (st _ _ er)), (fun z => nomatch z), ?_, fun hnil => ?_, fun hne p4 hp4 => ?_⟩
        · rw [List.length_map, List.length_singleton]
          exact le_line (by omega)
        · have hpe : path = [] := by
            cases path with
            | nil => rfl
            | cons x l => exact nomatch hnil
          exact fin T1 _ st (by rw [eT, hpe]; rfl)
        · exact fin p4 _ (st.trans (same_new hp4 _)) upd_same
      · rintro σ H3 ⟨sm3, e3, pa3, y3', rs3, ps3, rfl, eP3, pa3', hl3, hx3'⟩
        rw [List.length_map, l2] at hl3
        refine ⟨sm3, _, _, rs3, ps3, rfl, eP3, pa3', ?_, hx3'⟩
        rw [hl3, hsum, hlen2, hl2]
    · rintro σ H1 ⟨sm, y2, y3, rs, ps, rfl, eP, pa, hlen2, hx⟩
      refine ⟨_, rfl, q P0 ps H1 sm hP0 ⟨rs, eP, pa⟩ ?_ hx⟩
      rw [hlen2, List.take_of_length_le (by omega)]
theorem paths_all {f : Addr} {fd : FuncData} (F : Fun K "_law_paths" "_law_paths" sPaths f fd) (bG : Binds K fd ["tree"] []) (mG : mg "_law_paths" = some (.ref f)) (ml : mg "len" = none) (mr : mg "range" = none) :
    ∀ c, FnOk P w K mg base CX0 c f fd ["tree"] (spPaths c)
  | 0 => neverOk fun vs H Q E h => by
    obtain ⟨v, n, t, _, _, _, h2, _⟩ := h
    omega
  | c + 1 => ok_paths F (paths_all F bG mG ml mr c) bG mG ml mr
end
end K21
set_option Elab.async false
set_option linter.all false
set_option maxRecDepth 100000
set_option maxHeartbeats 4000000
set_option pp.maxSteps 400
set_option pp.deepTerms false
namespace K21
open PySem PySem.Spec PyProof.Rows L2 K11
/-! ### _law_from_paths -/
theorem cut_one (xs : List V) : cutV xs (some 1) none = xs.drop 1 := by
  unfold cutV
  have e1 : HT.sIx xs.length 0 (some 1) = min 1 xs.length := HT.sIx_nat xs.length 0 1
  rw [e1, HT.sIx_none]
  cases xs with
  | nil => rfl
  | cons x r =>
    have e2 : min 1 (x :: r).length = 1 := by
      rw [List.length_cons]
      omega
    rw [e2]
    show List.take ((x :: r).length - 1) r = r
    rw [List.length_cons, Nat.add_sub_cancel]
    exact List.take_length
theorem len_le_sum : ∀ {gs : List (List (List Int))}, (∀ g ∈ gs, g ≠ []) → gs.length ≤ (gs.map List.length).sum
  | [], _ => Nat.le_refl _
  | g :: gs, h => by
    have ih := len_le_sum (gs := gs) fun x hx => h x (List.mem_cons_of_mem _ hx)
    have h1 : 1 ≤ g.length := List.length_pos_iff.mpr (h g (List.mem_cons_self ..))
    rw [List.length_cons, List.map_cons, List.sum_cons]
    omega
/-- a group of the parts: its own list, its paths; apart from the whole list P and the list s that still grows -/
def Grp (H : Hp) (P s : Addr) (q : Addr) (g : List (List Int)) : Prop := ∃ (f : Int) (sq : Addr), H q = some (.lst [.int f, .ref sq]) ∧ PathsAt H sq g ∧ q ≠ P ∧ q ≠ s ∧ sq ≠ P ∧ sq ≠ s
theorem PathsAt.off {H : Hp} {p D : Addr} {ps : List (List Int)} {ws : List V} (h : PathsAt H p ps) (n : p ≠ D) (eD : H D = some (.lst ws)) (o : HO) : PathsAt (upd H D o) p ps := by
  obtain ⟨rs, e, q⟩ := h
  exact ⟨rs, by rw [upd_ne n]; exact e, q.lst eD o⟩
theorem lv_max (m : Nat) : ∀ {ts : List Tr} {gs : List (List (List Int))}, Paired (fun t g => lv m t ≤ max 1 (List.length g)) ts gs → (∀ g ∈ gs, g ≠ []) → (ts.map (lv m)).sum ≤ (gs.map List.length).sum
  | _, _, .nil, _ => Nat.le_refl _
  | t :: ts, g :: gs, .cons h k, ne => by
    rw [List.map_cons, List.map_cons, List.sum_cons, List.sum_cons]
    have ih := lv_max m k fun x hx => ne x (List.mem_cons_of_mem _ hx)
    have hg : 1 ≤ g.length := by
      have := ne g (List.mem_cons_self ..)
      cases g with
      | nil => exact absurd rfl this
      | cons a l => simp
    omega
section
variable {P : Program} {w : World} {K : PySem.W.Frag} {mg : Str → Option Value} {base : Heap}
abbrev nFrom : List Str := ["paths", "parts", "path", "part"]
theorem scFrom : FnScope nFrom ["paths"] (defScope sFrom) := ⟨rfl, rfl, rfl, by decide +kernel, rfl, by decide +kernel, by decide +kernel⟩
def spFrom (c : Nat) : Sp := fun vs H Q _ => ∃ (p : Addr) (ps : List (List Int)) (m : Nat), vs = [.ref p] ∧ PathsAt H p ps ∧ ps.length ≤ 500 ∧ (∀ x ∈ ps, x.length ≤ m) ∧ m + 1 ≤ c ∧ m ≤ 50 ∧
  ∀ r t H', Same H H' → TA m H' (.ref r) t → lv m t ≤ max 1 ps.length → Q (.ref r) H'
/-- what holds between two turns: nothing yet, or some groups and the last one -/
def Between (H H' : Hp) (P0 : Addr) (i m : Nat) (open_ : Bool) : Prop := Same H H' ∧
  ((open_ = false ∧ H' P0 = some (.lst [])) ∨ ∃ (qs : List Addr) (gs : List (List (List Int))) (ql sl : Addr) (fl : Int) (gl : List (List Int)), H' P0 = some (.lst ((qs ++ [ql]).map V.ref)) ∧ H' ql = some (.lst [.int fl, .ref sl]) ∧ PathsAt H' sl gl ∧
    Paired (Grp H' P0 sl) qs gs ∧ ql ≠ P0 ∧ ql ≠ sl ∧ sl ≠ P0 ∧ H sl = none ∧ (∀ g ∈ gs, g ≠ []) ∧ (open_ = true ∨ gl ≠ []) ∧ (gs.map List.length).sum + gl.length ≤ i ∧ (∀ g ∈ gs, ∀ x ∈ g, x.length + 1 ≤ m) ∧ ∀ x ∈ gl, x.length + 1 ≤ m)
theorem ok_from {c : Nat} {f : Addr} {fd : FuncData} (F : Fun K "_law_from_paths" "_law_from_paths" sFrom f fd) (G : FnOk P w K mg base CX0 c f fd ["paths"] (spFrom c)) (bG : Binds K fd ["paths"] []) (mG : mg "_law_from_paths" = some (.ref f))
    (ml : mg "len" = none) (mt : mg "tuple" = none) : FnOk P w K mg base CX0 (c + 1) f fd ["paths"] (spFrom (c + 1)) := by
  refine F.ok scFrom (fun vs H Q E h => ?_) (fun cdv A outer s H vs Q E hr h => ?_)
  · obtain ⟨p, ps, m, rfl, _⟩ := h
    rfl
  obtain ⟨p, ps, m, rfl, hP, hl, hx, hc, hm, q⟩ := h
  have nd := scFrom.nd
  have kG := F.kp
  refine ⟨_, pss_cons (ps_set (i := 1) nd rfl (.inl rfl) (pe_lst pa_nil))
    (pss_cons (ps_for PassesOwn.never rfl (pi_list (pv 0)) (pg_name (i := 2) nd rfl (.inl rfl))
      (pss_one (ps_if (pt_cmpR op_gt (pe_callB call_len_seq (by rfl) ml PySem.boot_len (pa_cons (pv 2) pa_nil)) pe_int (nomark _))
        (C8.pss_cut (ps_if (PW.pt (pw_or (pt_cmpR op_eq (pe_callB call_len_seq (by rfl) ml PySem.boot_len (pa_cons (pv 1) pa_nil)) pe_int (nomark _))
            (pw_or1 (pt_cmpR op_ne (pe_ix ix_list (pe_ix ix_list (pv 1) (pe_un un_neg pe_int) (fun _ _ => rfl)) pe_int (fun _ _ => rfl)) (pe_ix ix_tup (pv 2) pe_int (fun _ _ => rfl)) (nomark _)))))
          (pss_one (ps_expr (pe_bm PySem.F.plainAttrs_list PySem.F.slot_list_append PySem.F.type_list_append mt_append (pv 1) (pa_cons (pe_lst (pa_cons (pe_ix ix_tup (pv 2) pe_int (fun _ _ => rfl)) (pa_cons (pe_lst pa_nil) pa_nil))) pa_nil)))) pss_nil)
        (pss_one (ps_expr (pe_bm PySem.F.plainAttrs_list PySem.F.slot_list_append PySem.F.type_list_append mt_append (pe_ix ix_list (pe_ix ix_list (pv 1) (pe_un un_neg pe_int) (fun _ _ => rfl)) pe_int (fun _ _ => rfl))
          (pa_cons (pe_slice sl_tup (pv 2) (po_some pe_int) po_none) pa_nil))))) pss_nil)))
    (pss_one (ps_ret (pe_tupleOf (by rfl) mt (pe_lc (own := [("part", 3)]) (g := gName 3) (tt := tYes) rfl nd (pi_list (pv 1)) (blkOk_by (N := nFrom) (sc := defScope sFrom) (by decide +kernel))
      (fun _ _ _ _ _ => pg_name (i := 3) nd rfl (Or.inl rfl)) (fun _ _ _ _ _ => pts_nil)
      (fun _ _ _ _ _ => pe_call G hr (by rfl) mG kG bG .nil pass0 (pa_cons (pe_ix (show IxR _ (rIxL K) from ix_list) (pv 3) pe_int (fun _ _ => rfl)) pa_nil))))))), ?_⟩
  obtain ⟨rs, er, pa⟩ := hP
  have lr : rs.length = ps.length := pa.length
  refine ⟨Nat.zero_le _, fun P0 hP0 => ?_⟩
  have s0 : Same H (upd H P0 (.lst [])) := same_new hP0 _
  have npP : p ≠ P0 := ne_of_none er hP0
  refine ⟨_, rfl, p, rfl, ⟨_, SqL.of (s0 _ _ er)⟩, for_list (xs := rs.map V.ref) (fun i σ H' => Between H H' P0 i m false ∧ ∃ y : Option V, σ = [some (.ref p), some (.ref P0), y, Option.none]) ⟨⟨s0, .inl ⟨rfl, upd_same⟩⟩, Option.none, rfl⟩ (fun i σ H' _ z => SqL.of (z.1.1 _ _ er)) ?_ ?_⟩
  · rintro i x σ H1 hx1 ⟨hB, y, rfl⟩
    obtain ⟨r, hr', rfl⟩ := map_atV hx1
    obtain ⟨path, hpath, er1⟩ := pr_get pa hr'
    have hi : i < ps.length := (List.getElem?_eq_some_iff.mp hpath).1
    have hlp := hx path (List.mem_of_getElem? hpath)
    have sm := hB.1
    have er2 := sm _ _ er1
    have step0 : Between H H1 P0 (i + 1) m false := by
      refine ⟨sm, hB.2.imp_right ?_⟩
      rintro ⟨qs, gs, ql, sl, fl, gl, a1, a2, a3, a4, a5, a6, a7, a8, a9, a10, a11, a12⟩
      exact ⟨qs, gs, ql, sl, fl, gl, a1, a2, a3, a4, a5, a6, a7, a8, a9, a10, by omega, a12⟩
    refine ⟨_, rfl, r, _, rfl, .inr (.inl (.inl er2)), _, _, rfl, rfl, _, rfl, ite2 (fun z => ?_) (fun z => ?_)⟩
    · have z' : (0 : Int) < ((path.map V.int).length : Int) := of_decide_eq_true z
      rw [List.length_map] at z'
      cases path with
      | nil => exact absurd z' (by decide)
      | cons h0 rest =>
        have hrest : rest.length + 1 ≤ m := hlp
        have at0 : ((h0 :: rest).map V.int)[0]? = some (.int h0) := rfl
        have hixT : ∀ H', Same H1 H' → SqT K H' r ((h0 :: rest).map V.int) := fun H' s' => .inl (.inl (s' _ _ er2))
        refine ⟨fun σ' H' => Between H H' P0 i m true ∧ H' r = some (.tup ((h0 :: rest).map V.int)) ∧ H' P0 ≠ some (.lst []) ∧ σ' = [some (.ref p), some (.ref P0), some (.ref r), Option.none], ?_, ?_⟩
        · -- a new group
          have grow : ∀ xsP, H1 P0 = some (.lst xsP) → xsP.length ≤ 500 →
              (∀ (n1 n2 : Addr) (H2 : Hp), H1 n1 = none → H1 n2 = none → n1 ≠ n2 → Same H1 H2 → H2 n1 = some (.lst []) → H2 n2 = some (.lst [.int h0, .ref n1]) → Between H (upd H2 P0 (.lst (xsP ++ [.ref n2]))) P0 i m true) →
              tDrop (tBM K "list" rAppend (tVar 1) (tCons (tLst (tCons (tOp (rIxT K) (tVar 2) (tC (.int 0))) (tCons (tLst tNil) tNil))) tNil)) { nx := fun σ' H' => Between H H' P0 i m true ∧ H' r = some (.tup ((h0 :: rest).map V.int)) ∧ H' P0 ≠ some (.lst []) ∧ σ' = [some (.ref p), some (.ref P0), some (.ref r), Option.none], rt := Q } [some (.ref p), some (.ref P0), some (.ref r), Option.none] H1 := by
            intro xsP eP hlx k
            refine ⟨_, rfl, .inl ⟨rfl, _, SqL.of eP⟩, _, rfl, r, _, 0, .int h0, rfl, rfl, hixT H1 (.refl _), atI_nat (j := 0) rfl, Nat.zero_le _, fun n1 hn1 => ⟨two_le, fun n2 hn2 => ?_⟩⟩
            have s1 := same_new hn1 (.lst [])
            have s2 := same_new hn2 (.lst [.int h0, .ref n1])
            have n12 : n1 ≠ n2 := fun e => by rw [← e, upd_same] at hn2; cases hn2
            have s12 := s1.trans s2
            refine ⟨P0, xsP, .ref n2, rfl, rfl, s12 _ _ eP, lt_line (by omega), ?_, ?_, ?_, rfl⟩
            · exact k n1 n2 _ hn1 (s1.free hn2) n12 s12 (by rw [upd_ne n12, upd_same]) upd_same
            · rw [upd_ne (ne_of er2 eP (fun z => nomatch z))]
              exact s12 _ _ er2
            · rw [upd_same]
              intro z
              have z2 := congrArg (fun o : Option HO => match o with | some (.lst l) => l.length | _ => 0) z
              simp at z2
          rcases hB.2 with ⟨_, eP⟩ | ⟨qs, gs, ql, sl, fl, gl, a1, a2, a3, a4, a5, a6, a7, a8, a9, a10, a11, a12⟩
          · refine ⟨_, rfl, P0, _, rfl, .inl (SqL.of eP), rfl, true, rfl, iteT (iteT ?_)⟩
            refine grow [] eP (Nat.zero_le _) fun n1 n2 H2 f1 f2 n12 s12 g1 g2 => ⟨same_upd (sm.trans s12) hP0 _, .inr ⟨[], [], n2, n1, h0, [], upd_same, ?_, ⟨[], ?_, .nil⟩, .nil, ?_, Ne.symm n12, ?_, sm.free f1, (fun g hg => nomatch hg), .inl rfl, Nat.zero_le _, (fun g hg => nomatch hg), fun x hx => nomatch hx⟩⟩
            · rw [upd_ne (Ne.symm (ne_of_none eP f2))]; exact g2
            · rw [upd_ne (Ne.symm (ne_of_none eP f1))]; exact g1
            · exact Ne.symm (ne_of_none eP f2)
            · exact Ne.symm (ne_of_none eP f1)
          · have hne : ((qs ++ [ql]).map V.ref).length ≠ 0 := by simp
            have hgl : gl ≠ [] := a10.resolve_left (fun z => nomatch z)
            have hql : qs.length = gs.length := a4.length
            have hgs : gs.length ≤ (gs.map List.length).sum := len_le_sum a9
            refine ⟨_, rfl, P0, _, rfl, .inl (SqL.of a1), rfl, false, ?_, iteF ?_⟩
            · exact congrArg V.bl (decide_eq_false (fun z => hne (by have := V.int.inj z; omega)))
            refine ⟨_, rfl, 1, rfl, P0, _, -1, .ref ql, rfl, rfl, SqL.of a1, (by rw [List.map_append]; exact atI_last _ _), ql, _, 0, .int fl, rfl, rfl, SqL.of a2, atI_nat (j := 0) rfl, _, rfl, r, _, 0, .int h0, rfl, rfl, hixT H1 (.refl _), atI_nat (j := 0) rfl, rfl, _, rfl, ?_⟩
            by_cases hf : V.int fl = V.int h0
            · rw [decide_eq_true hf]
              exact iteF ⟨⟨sm, .inr ⟨qs, gs, ql, sl, fl, gl, a1, a2, a3, a4, a5, a6, a7, a8, a9, .inl rfl, a11, a12⟩⟩, er2, (fun z => hne (by rw [a1] at z; have := HO.lst.inj (Option.some.inj z); rw [this]; rfl)), rfl⟩
            · rw [decide_eq_false hf]
              refine iteT (grow _ a1 (by rw [List.length_map, List.length_append, List.length_singleton]; have : 1 ≤ gl.length := List.length_pos_iff.mpr hgl; omega) fun n1 n2 H2 f1 f2 n12 s12 g1 g2 => ⟨same_upd (sm.trans s12) hP0 _, .inr ⟨qs ++ [ql], gs ++ [gl], n2, n1, h0, [], ?_, ?_, ⟨[], ?_, .nil⟩, ?_, ?_, Ne.symm n12, ?_, sm.free f1, mem_snoc a9 hgl, .inl rfl, ?_, mem_snoc a12.1 a12.2, fun x hx => nomatch hx⟩⟩)
              · rw [upd_same, List.map_append (l₂ := [n2])]
                rfl
              · rw [upd_ne (Ne.symm (ne_of_none a1 f2))]; exact g2
              · rw [upd_ne (Ne.symm (ne_of_none a1 f1))]; exact g1
              · have mv : ∀ (q' : Addr) (g : List (List Int)), (∃ (f : Int) (sq : Addr), H1 q' = some (.lst [.int f, .ref sq]) ∧ PathsAt H1 sq g ∧ q' ≠ P0 ∧ sq ≠ P0) → Grp (upd H2 P0 (.lst ((qs ++ [ql]).map V.ref ++ [.ref n2]))) P0 n1 q' g := by
                  rintro q' g ⟨f, sq, b1, b2, b3, b4⟩
                  obtain ⟨rsq, b5, _⟩ := id b2
                  exact ⟨f, sq, by rw [upd_ne b3]; exact s12 _ _ b1, (b2.same s12).off b4 (s12 _ _ a1) _, b3, ne_of_none b1 f1, b4, ne_of_none b5 f1⟩
                refine (L2.Paired.mapP a4 fun q' g h => mv q' g ?_).snoc (mv ql gl ⟨fl, sl, a2, a3, a5, a7⟩)
                obtain ⟨f, sq, b1, b2, b3, _, b4, _⟩ := h
                exact ⟨f, sq, b1, b2, b3, b4⟩
              · exact Ne.symm (ne_of_none a1 f2)
              · exact Ne.symm (ne_of_none a1 f1)
              · rw [List.map_append, List.sum_append]
                simp
                omega
        · -- the path's rest goes to the last group
          rintro σ' H2 ⟨⟨sm2, hB2⟩, er3, hne, rfl⟩
          rcases hB2 with ⟨_, eP⟩ | ⟨qs, gs, ql, sl, fl, gl, a1, a2, a3, a4, a5, a6, a7, a8, a9, a10, a11, a12⟩
          · exact absurd eP hne
          obtain ⟨rsl, b1, b2⟩ := a3
          refine ⟨_, rfl, 1, rfl, P0, _, -1, .ref ql, rfl, rfl, SqL.of a1, (by rw [List.map_append]; exact atI_last _ _), ql, _, 1, .ref sl, rfl, rfl, SqL.of a2, atI_nat (j := 1) rfl, .inl ⟨rfl, _, SqL.of b1⟩, _, rfl, 1, rfl, r, _, rfl, .inl (.inl er3), ?_, fun T hT => ?_⟩
          · intro z
            have e1 : HT.sIx ((h0 :: rest).map V.int).length 0 (some 1) = min 1 ((h0 :: rest).map V.int).length := HT.sIx_nat _ 0 1
            have z1 := z.1
            rw [e1, List.length_map, List.length_cons] at z1
            omega
          rw [cut_one]
          have sT := same_new hT (.tup (((h0 :: rest).map V.int).drop 1))
          have eT : upd H2 T (.tup (((h0 :: rest).map V.int).drop 1)) T = some (.tup (rest.map V.int)) := upd_same
          show ∃ l xs y, V.ref sl = .ref l ∧ [V.ref T] = [y] ∧ upd H2 T (.tup (((h0 :: rest).map V.int).drop 1)) l = some (.lst xs) ∧ xs.length < sizeLine ∧ _
          generalize upd H2 T (.tup (((h0 :: rest).map V.int).drop 1)) = H3 at sT eT
          have b1' := sT _ _ b1
          refine ⟨sl, _, _, rfl, rfl, b1', ?_, ⟨same_upd (sm2.trans sT) a8 _, .inr ⟨qs, gs, ql, sl, fl, gl ++ [rest], ?_, ?_, ⟨rsl ++ [T], ?_, ?_⟩, ?_, a5, a6, a7, a8, a9, .inr (by simp), ?_, a12.1, mem_snoc a12.2 hrest⟩⟩, some (.ref r), rfl⟩
          · rw [List.length_map, b2.length]
            exact lt_line (by omega)
          · rw [upd_ne (Ne.symm a7)]
            exact sT _ _ a1
          · rw [upd_ne a6]
            exact sT _ _ a2
          · rw [upd_same, List.map_append]
            rfl
          · refine ((b2.same sT).lst b1' _).snoc ?_
            rw [upd_ne (ne_of eT b1' (fun z => nomatch z))]
            exact eT
          · refine L2.Paired.mapP a4 fun q' g h => ?_
            obtain ⟨f, sq, c1, c2, c3, c4, c5, c6⟩ := h
            exact ⟨f, sq, by rw [upd_ne c4]; exact sT _ _ c1, (c2.same sT).off c6 b1' _, c3, c4, c5, c6⟩
          · rw [List.length_append, List.length_singleton]
            omega
    · exact ⟨step0, _, rfl⟩
  · rintro σ H1 ⟨⟨sm, hB⟩, y, rfl⟩
    rw [List.length_map, lr] at hB
    rcases hB with ⟨_, eP⟩ | ⟨qs, gs, ql, sl, fl, gl, a1, a2, a3, a4, a5, a6, a7, a8, a9, a10, a11, a12⟩
    · refine ⟨_, rfl, P0, rfl, ⟨_, SqL.of eP⟩, fun D hD => ?_⟩
      refine lc_list (xs := []) (fun j H3 => Same H1 H3 ∧ H3 D = some (.lst [])) ⟨same_new hD _, upd_same⟩ (fun j H3 _ z => SqL.of (z.1 _ _ eP)) (fun j x H3 hx => by simp at hx) ?_
      rintro H3 ⟨s3, eD⟩
      refine .inl ⟨D, _, rfl, SqL.of eD, fun u hu => ?_⟩
      have su := same_new hu (.tup [])
      refine q u (.node []) _ (sm.trans (s3.trans su)) ?_ ?_
      · cases m with
        | zero => exact ⟨u, rfl, upd_same, rfl⟩
        | succ m => exact ⟨u, [], rfl, upd_same, .nil⟩
      · cases m with
        | zero => exact Nat.le_max_left _ _
        | succ m => unfold lv; rw [if_pos (show (Tr.node []).kids = [] from rfl)]; exact Nat.le_max_left _ _
    · have hgl : gl ≠ [] := a10.resolve_left (fun z => nomatch z)
      obtain ⟨m', rfl⟩ : ∃ m', m = m' + 1 := by
        cases hg0 : gl with
        | nil => exact absurd hg0 hgl
        | cons x0 l0 =>
          have := a12.2 x0 (by rw [hg0]; exact List.mem_cons_self ..)
          exact ⟨m - 1, by omega⟩
      have hql : qs.length = gs.length := a4.length
      have hgs : gs.length ≤ (gs.map List.length).sum := len_le_sum a9
      have hall : Paired (fun q' g => ∃ (f : Int) (sq : Addr), H1 q' = some (.lst [.int f, .ref sq]) ∧ PathsAt H1 sq g) (qs ++ [ql]) (gs ++ [gl]) := by
        refine (L2.Paired.mapP a4 fun q' g h => ?_).snoc ⟨fl, sl, a2, a3⟩
        obtain ⟨f, sq, b1, b2, _⟩ := h
        exact ⟨f, sq, b1, b2⟩
      have hgne : ∀ g ∈ gs ++ [gl], g ≠ [] := mem_snoc a9 hgl
      have hglen : ∀ g ∈ gs ++ [gl], ∀ x ∈ g, x.length + 1 ≤ m' + 1 := mem_snoc a12.1 a12.2
      have hsum : ((gs ++ [gl]).map List.length).sum ≤ ps.length := by
        rw [List.map_append, List.sum_append]
        simp
        omega
      refine ⟨_, rfl, P0, rfl, ⟨_, SqL.of a1⟩, fun D hD => ?_⟩
      refine lc_list (xs := (qs ++ [ql]).map V.ref) (fun j H3 => Same H1 H3 ∧ ∃ (ws : List V) (ts : List Tr), H3 D = some (.lst ws) ∧ Paired (TA m' H3) ws ts ∧ Paired (fun t g => lv m' t ≤ max 1 (List.length g)) ts ((gs ++ [gl]).take j)) ⟨same_new hD _, [], [], upd_same, .nil, .nil⟩ (fun j H3 _ z => SqL.of (z.1 _ _ a1)) ?_ ?_
      · rintro j x H3 hx3 ⟨s3, ws, ts, eD, pw, pl⟩
        obtain ⟨q', hq', rfl⟩ := map_atV hx3
        obtain ⟨g, hg, f, sq, b1, b2⟩ := pr_get hall hq'
        have hgm := List.mem_of_getElem? hg
        have hj : j < (gs ++ [gl]).length := (List.getElem?_eq_some_iff.mp hg).1
        have hgl2 : g.length ≤ 500 := by
          have h1 := sum_take_le List.length (gs ++ [gl]) (j + 1)
          rw [tk1 hg, List.map_append, List.sum_append] at h1
          simp at h1
          simp at hsum
          omega
        refine ⟨rfl, ?_⟩
        show tCall (spFrom c) [] E0 (tCons (tOp (rIxL K) (tVar 3) (tC (.int 1))) tNil) [some (.ref p), some (.ref P0), y, some (.ref q')] H3 _
        refine ⟨_, rfl, q', _, 1, .ref sq, rfl, rfl, SqL.of (s3 _ _ b1), atI_nat (j := 1) rfl, sq, g, m', rfl, b2.same s3, hgl2, (fun x hx => by have := hglen g hgm x hx; omega), by omega, by omega, fun t tr H4 s4 hT hL => ?_⟩
        have eD4 := s4 _ _ eD
        have lw : ws.length = ts.length := pw.length
        have lt := pl.length
        rw [List.length_take] at lt
        refine ⟨ws, eD4, ?_, same_upd (s3.trans s4) hD _, ws ++ [.ref t], ts ++ [tr], upd_same, ?_, ?_⟩
        · rw [List.length_append, List.length_singleton] at hj lt
          exact lt_line (by omega)
        · exact (L2.Paired.mapP pw fun _ _ x => (x.same s4).lst eD4 _).snoc (hT.lst eD4 _)
        · rw [tk1 hg]
          exact pl.snoc hL
      · rintro H3 ⟨s3, ws, ts, eD, pw, pl⟩
        refine .inl ⟨D, ws, rfl, SqL.of eD, fun u hu => ?_⟩
        have su := same_new hu (.tup ws)
        have ht : (gs ++ [gl]).take ((qs ++ [ql]).map V.ref).length = gs ++ [gl] := List.take_of_length_le (by rw [List.length_map, List.length_append, List.length_append, hql]; exact Nat.le_refl _)
        rw [ht] at pl
        refine q u (.node ts) _ (sm.trans (s3.trans su)) ⟨u, ws, rfl, upd_same, L2.Paired.mapP pw fun _ _ x => x.same su⟩ ?_
        unfold lv
        by_cases hts : (Tr.node ts).kids = []
        · rw [if_pos hts]; exact Nat.le_max_left _ _
        · rw [if_neg hts]
          exact Nat.le_trans (Nat.le_trans (lv_max m' pl hgne) hsum) (Nat.le_max_right _ _)
theorem from_all {f : Addr} {fd : FuncData} (F : Fun K "_law_from_paths" "_law_from_paths" sFrom f fd) (bG : Binds K fd ["paths"] []) (mG : mg "_law_from_paths" = some (.ref f)) (ml : mg "len" = none) (mt : mg "tuple" = none) :
    ∀ c, FnOk P w K mg base CX0 c f fd ["paths"] (spFrom c)
  | 0 => neverOk fun vs H Q E h => by
    obtain ⟨p, ps, m, _, _, _, _, h2, _⟩ := h
    omega
  | c + 1 => ok_from F (from_all F bG mG ml mt c) bG mG ml mt
end
end K21
set_option Elab.async false
set_option linter.all false
set_option maxRecDepth 100000
set_option maxHeartbeats 4000000
set_option pp.maxSteps 400
set_option pp.deepTerms false
namespace K21
open PySem PySem.Spec PyProof.Rows L2 K11
def natV (n : Nat) : V := .int (n : Int)
theorem halF_len : ∀ (f n : Nat), n < 2 ^ f → (halF f n).length = n
  | 0, n, h => by
    have : n = 0 := by rw [Nat.pow_zero] at h; omega
    rw [this]; rfl
  | f + 1, n, h => by
    unfold halF
    by_cases z : n = 0
    · rw [if_pos z, z]; rfl
    · rw [if_neg z, List.length_append, List.length_append, List.length_singleton]
      rw [Nat.pow_succ] at h
      rw [halF_len f _ (by omega), halF_len f _ (by omega)]
      omega
theorem halF_pos : ∀ (f n : Nat), ∀ x ∈ halF f n, 1 ≤ x ∧ x ≤ n
  | 0, n, x, h => by cases h
  | f + 1, n, x, h => by
    unfold halF at h
    by_cases z : n = 0
    · rw [if_pos z] at h; cases h
    · rw [if_neg z] at h
      rcases List.mem_append.mp h with h | h
      · rcases List.mem_append.mp h with h | h
        · have := halF_pos f _ x h; omega
        · have e : x = n := by simpa using h
          omega
      · have := halF_pos f _ x h; omega
section
variable {P : Program} {w : World} {K : PySem.W.Frag} {mg : Str → Option Value} {base : Heap}
/-! ### _law_halves, _law_universal_row -/
theorem scHalves : FnScope ["number"] ["number"] (defScope sHalves) := ⟨rfl, rfl, rfl, by decide +kernel, rfl, by decide +kernel, by decide +kernel⟩
def spHalves (c : Nat) : Sp := fun vs H Q _ => ∃ (n f : Nat), vs = [.int (n : Int)] ∧ n < 2 ^ f ∧ n ≤ 500 ∧ f + 1 ≤ c ∧ ∀ p H', Same H H' → H p = none → H' p = some (.lst ((halF f n).map natV)) → Q (.ref p) H'
theorem ok_halves {c : Nat} {f : Addr} {fd : FuncData} (F : Fun K "_law_halves" "_law_halves" sHalves f fd) (G : FnOk P w K mg base CX0 c f fd ["number"] (spHalves c)) (bG : Binds K fd ["number"] []) (mG : mg "_law_halves" = some (.ref f)) :
    FnOk P w K mg base CX0 (c + 1) f fd ["number"] (spHalves (c + 1)) := by
  refine F.ok scHalves (fun vs H Q E h => ?_) (fun cdv A outer s H vs Q E hr h => ?_)
  · obtain ⟨n, f, rfl, _⟩ := h
    rfl
  obtain ⟨n, fu, rfl, hn, h5, hc, q⟩ := h
  have nd := scHalves.nd
  have kG := F.kp
  refine ⟨_, pss_cons (ps_if (pt_cmpR op_eq (pv 0) pe_int (nomark _)) (pss_one (ps_ret (pe_lst pa_nil))) pss_nil)
    (pss_one (ps_ret (pe_op op_cat (pe_op op_cat (pe_call G hr (by rfl) mG kG bG .nil pass0 (pa_cons (pe_op op_fdiv (pv 0) pe_int) pa_nil)) (pe_lst (pa_cons (pv 0) pa_nil)))
      (pe_call G hr (by rfl) mG kG bG .nil pass0 (pa_cons (pe_op op_sub (pe_op op_fdiv (pe_op op_add (pv 0) pe_int) pe_int) pe_int) pa_nil))))), ?_⟩
  refine ⟨_, rfl, rfl, _, rfl, ite2 (fun z => ?_) (fun z => ?_)⟩
  · have z' : (n : Int) = 0 := V.int.inj (of_decide_eq_true z)
    refine ⟨Nat.zero_le _, fun p hp => q p _ (same_new hp _) hp ?_⟩
    rw [upd_same]
    have e : halF fu n = [] := by
      cases fu with
      | zero => rfl
      | succ fu => unfold halF; rw [if_pos (by omega)]
    rw [e]
    rfl
  have z' : ¬ (n : Int) = 0 := fun y => z (decide_eq_true (congrArg V.int y))
  obtain ⟨fu', rfl⟩ : ∃ f', fu = f' + 1 := by
    cases fu with
    | zero => rw [Nat.pow_zero] at hn; omega
    | succ f' => exact ⟨f', rfl⟩
  rw [Nat.pow_succ] at hn
  have l1 := halF_len fu' (n / 2) (by omega)
  have l2 := halF_len fu' ((n + 1) / 2 - 1) (by omega)
  have eh : halF (fu' + 1) n = halF fu' (n / 2) ++ [n] ++ halF fu' ((n + 1) / 2 - 1) := by
    rw [halF, if_neg (by omega)]
  rw [eh] at q
  refine ⟨_, rfl, _, _, rfl, rfl, ⟨by decide, by decide⟩, n / 2, fu', rfl, by omega, by omega, by omega, fun p1 H1 s1 hp1 e1 => ?_⟩
  refine ⟨_, rfl, one_le, fun p2 hp2 => ?_⟩
  have s2 := same_new hp2 (.lst [.int (n : Int)])
  refine ⟨p1, p2, _, _, rfl, rfl, s2 _ _ e1, upd_same, ?_, fun p3 hp3 => ?_⟩
  · rw [List.length_map, l1, List.length_singleton]; exact le_line (by omega)
  have s3 := same_new hp3 (.lst ((halF fu' (n / 2)).map natV ++ [.int (n : Int)]))
  have e3 : ((n : Int) + 1) / 2 - 1 = (((n + 1) / 2 - 1 : Nat) : Int) := by omega
  refine ⟨_, rfl, _, _, rfl, rfl, _, _, rfl, rfl, ⟨by decide, by decide⟩, _, _, rfl, rfl, (n + 1) / 2 - 1, fu', congrArg (fun z => [V.int z]) e3, by omega, by omega, by omega, fun p4 H4 s4 hp4 e4 => ?_⟩
  refine ⟨p3, p4, _, _, rfl, rfl, s4 _ _ upd_same, e4, ?_, fun p5 hp5 => ?_⟩
  · rw [List.length_append, List.length_map, List.length_map, l1, l2, List.length_singleton]; exact le_line (by omega)
  have sall := s1.trans (s2.trans (s3.trans (s4.trans (same_new hp5 (.lst ((halF fu' (n / 2)).map natV ++ [.int (n : Int)] ++ (halF fu' ((n + 1) / 2 - 1)).map natV))))))
  refine q p5 _ sall ((s1.trans (s2.trans (s3.trans s4))).free hp5) ?_
  rw [upd_same, List.map_append, List.map_append]
  rfl
theorem halves_all {f : Addr} {fd : FuncData} (F : Fun K "_law_halves" "_law_halves" sHalves f fd) (bG : Binds K fd ["number"] []) (mG : mg "_law_halves" = some (.ref f)) : ∀ c, FnOk P w K mg base CX0 c f fd ["number"] (spHalves c)
  | 0 => neverOk fun vs H Q E h => by
    obtain ⟨n, f, _, _, _, h2, _⟩ := h
    omega
  | c + 1 => ok_halves F (halves_all F bG mG c) bG mG
theorem scURow : FnScope ["leaves", "depth", "row", "parts", "k"] ["leaves", "depth"] (defScope sURow) := ⟨rfl, rfl, rfl, by decide +kernel, rfl, by decide +kernel, by decide +kernel⟩
def spURow (c : Nat) : Sp := fun vs H Q _ => ∃ (n d : Nat), vs = [.int (n : Int), .int (d : Int)] ∧ 1 ≤ n ∧ n ≤ 60 ∧ sz d n ≤ 400 ∧ d + 1 ≤ c ∧
  ∀ p (row : List Int) H', Same H H' → H p = none → H' p = some (.lst (row.map V.int)) → (∀ x ∈ row, 1 ≤ x ∧ x ≤ (d : Int)) → row.length + 1 ≤ sz d n → Q (.ref p) H'
theorem sz_pos : ∀ (d n : Nat), 1 ≤ n → n ≤ 60 → 1 ≤ sz d n
  | 0, _, _, _ => Nat.le_refl _
  | d + 1, n, h1, h2 => by
    unfold sz
    have hl := halF_len 7 n (by omega)
    cases q : halF 7 n with
    | nil => rw [q] at hl; simp at hl; omega
    | cons x l =>
      rw [List.map_cons, List.sum_cons]
      have hx := halF_pos 7 n x (by rw [q]; exact List.mem_cons_self ..)
      have := sz_pos d x hx.1 (by omega)
      omega
theorem ok_urow {c : Nat} {f g : Addr} {fd gd : FuncData} (F : Fun K "_law_universal_row" "_law_universal_row" sURow f fd) (G : FnOk P w K mg base CX0 (c + 8) f fd ["leaves", "depth"] (spURow c)) (bG : Binds K fd ["leaves", "depth"] []) (mG : mg "_law_universal_row" = some (.ref f))
    (GH : FnOk P w K mg base CX0 8 g gd ["number"] (spHalves 8)) (bH : Binds K gd ["number"] []) (kH : PySem.W.keepIn K (.ref g) = true) (mH : mg "_law_halves" = some (.ref g))
    (ml : mg "len" = none) (mr : mg "range" = none) : FnOk P w K mg base CX0 (c + 9) f fd ["leaves", "depth"] (spURow (c + 1)) := by
  refine F.ok (k := c + 8) scURow (fun vs H Q E h => ?_) (fun cdv A outer s H vs Q E hr h => ?_)
  · obtain ⟨n, d, rfl, _⟩ := h
    rfl
  obtain ⟨n, d, rfl, h1, h6, h4, hc, q⟩ := h
  have nd := scURow.nd
  have kG := F.kp
  refine ⟨_, pss_cons (ps_set (i := 2) nd rfl (.inl rfl) (pe_lst pa_nil))
    (pss_cons (ps_if (pt_cmpR op_eq (pv 1) pe_int (nomark _)) (pss_one (ps_ret (pv 2))) pss_nil)
    (pss_cons (ps_set (i := 3) nd rfl (.inl rfl) (pe_call GH (hr.mono (by omega)) (by rfl) mH kH bH .nil pass0 (pa_cons (pv 0) pa_nil)))
    (pss_cons (ps_for PassesOwn.never rfl (pi_range1 rfl mr (pa_cons (pe_callB call_len_seq (by rfl) ml PySem.boot_len (pa_cons (pv 3) pa_nil)) pa_nil)) (pg_name (i := 4) nd rfl (.inl rfl))
      (C8.pss_cut (ps_if (pt_cmpR op_gt (pv 4) pe_int (nomark _)) (pss_one (ps_expr (pe_bm PySem.F.plainAttrs_list PySem.F.slot_list_append PySem.F.type_list_append mt_append (pv 2) (pa_cons (pv 1) pa_nil)))) pss_nil)
      (pss_one (ps_set (i := 2) nd rfl (.inl rfl) (pe_op op_cat (pv 2) (pe_call G hr (by rfl) mG kG bG .nil pass0 (pa_cons (pe_ix ix_list (pv 3) (pv 4) (fun _ _ => rfl)) (pa_cons (pe_op op_sub (pv 1) pe_int) pa_nil))))))))
    (pss_one (ps_ret (pv 2)))))), ?_⟩
  refine ⟨Nat.zero_le _, fun R hR => ?_⟩
  have s0 := same_new hR (.lst [])
  refine ⟨_, rfl, rfl, _, rfl, ite2 (fun z => ?_) (fun z => ?_)⟩
  · have z' : (d : Int) = 0 := V.int.inj (of_decide_eq_true z)
    have z2 : d = 0 := by omega
    subst z2
    exact ⟨_, rfl, q R [] _ s0 hR upd_same (fun x hx => nomatch hx) (Nat.le_refl _)⟩
  have z' : ¬ (d : Int) = 0 := fun y => z (decide_eq_true (congrArg V.int y))
  obtain ⟨e, rfl⟩ : ∃ e, d = e + 1 := ⟨d - 1, by omega⟩
  have el : (halF 7 n).length = n := halF_len 7 n (by omega)
  refine ⟨_, rfl, n, 7, rfl, by omega, by omega, by omega, fun pp H1 s1 hpp epp => ?_⟩
  have hRp : R ≠ pp := ne_of_none (upd_same (H := H) (a := R) (o := .lst [])) hpp
  refine ⟨_, rfl, pp, _, rfl, .inl (SqL.of epp), _, rfl, by rw [List.length_map, el]; omega, by rw [List.length_map, el]; omega, ?_⟩
  have e0 : ((((halF 7 n).map natV).length : Nat) : Int).toNat = n := by rw [List.length_map, el]; rfl
  rw [e0]
  have tot : ((halF 7 n).map (sz e)).sum ≤ 400 := h4
  refine for_range (n := n) (fun k σ H' => Same H H' ∧ H' pp = some (.lst ((halF 7 n).map natV)) ∧ ∃ (r : Addr) (row : List Int) (y : Option V), σ = [some (.int (n : Int)), some (.int ((e + 1 : Nat) : Int)), some (.ref r), some (.ref pp), y] ∧ H r = none ∧ r ≠ pp ∧ H' r = some (.lst (row.map V.int)) ∧
    (∀ x ∈ row, 1 ≤ x ∧ x ≤ ((e + 1 : Nat) : Int)) ∧ row.length + min k 1 ≤ (((halF 7 n).take k).map (sz e)).sum) ⟨s0.trans s1, epp, R, [], Option.none, rfl, hR, hRp, s1 _ _ upd_same, (fun x hx => nomatch hx), Nat.zero_le _⟩ ?_ ?_
  · rintro k σ H2 hk ⟨sm, ep2, r, row, y, rfl, hrn, hrp, er, hx, hlen⟩
    have hk' : k < (halF 7 n).length := by omega
    have gk : (halF 7 n)[k]? = some (halF 7 n)[k] := List.getElem?_eq_getElem hk'
    generalize hP : (halF 7 n)[k] = pk at gk
    have hpk := halF_pos 7 n pk (List.mem_of_getElem? gk)
    have hsum : (((halF 7 n).take (k + 1)).map (sz e)).sum = (((halF 7 n).take k).map (sz e)).sum + sz e pk := by
      rw [tk1 gk, List.map_append, List.sum_append]
      simp
    have h1t : (((halF 7 n).take k).map (sz e)).sum + sz e pk ≤ ((halF 7 n).map (sz e)).sum := by
      rw [← hsum]
      exact sum_take_le (sz e) (halF 7 n) (k + 1)
    refine ⟨fun σ' H' => Same H H' ∧ H' pp = some (.lst ((halF 7 n).map natV)) ∧ ∃ (row : List Int), σ' = [some (.int (n : Int)), some (.int ((e + 1 : Nat) : Int)), some (.ref r), some (.ref pp), some (.int (0 + (k : Int)))] ∧ H' r = some (.lst (row.map V.int)) ∧
      (∀ x ∈ row, 1 ≤ x ∧ x ≤ ((e + 1 : Nat) : Int)) ∧ row.length ≤ (((halF 7 n).take k).map (sz e)).sum, ?_, ?_⟩
    · refine ⟨_, rfl, _, _, rfl, rfl, _, rfl, ite2 (fun c => ?_) (fun c => ?_)⟩
      · have c' : (0 : Int) < 0 + (k : Int) := of_decide_eq_true c
        refine ⟨_, rfl, .inl ⟨rfl, _, SqL.of er⟩, _, rfl, r, _, _, rfl, rfl, er, ?_, same_upd sm hrn _, ?_, row ++ [((e + 1 : Nat) : Int)], rfl, ?_, ?_, ?_⟩
        · rw [List.length_map]; exact lt_line (by omega)
        · rw [upd_ne hrp.symm]; exact ep2
        · rw [upd_same, List.map_append]; rfl
        · exact mem_snoc hx ⟨by omega, by omega⟩
        · rw [List.length_append, List.length_singleton]; omega
      · exact ⟨sm, ep2, row, rfl, er, hx, by omega⟩
    · rintro σ' H3 ⟨sm3, ep3, row3, rfl, er3, hx3, hl3⟩
      have ege : ((e + 1 : Nat) : Int) - 1 = (e : Int) := by omega
      refine ⟨_, rfl, _, rfl, _, rfl, pp, _, _, natV pk, rfl, rfl, SqL.of ep3, ?_, _, rfl, _, _, rfl, rfl, pk, e, ?_, hpk.1, by omega, by omega, by omega, fun p4 row4 H4 s4 hp4 e4 hx4 hl4 => ?_⟩
      · rw [Int.zero_add]
        exact atI_nat (by rw [List.getElem?_map, gk]; rfl)
      · exact congrArg (fun z => [V.int (pk : Int), V.int z]) ege
      refine ⟨r, p4, _, _, rfl, rfl, s4 _ _ er3, e4, ?_, fun p5 hp5 => ?_⟩
      · rw [List.length_map, List.length_map]; exact le_line (by omega)
      have s5 := same_new hp5 (.lst (row3.map V.int ++ row4.map V.int))
      refine ⟨sm3.trans (s4.trans s5), s5 _ _ (s4 _ _ ep3), p5, row3 ++ row4, some (.int (0 + (k : Int))), rfl, (sm3.trans s4).free hp5, Ne.symm (ne_of_none (s4 _ _ ep3) hp5), ?_, ?_, ?_⟩
      · rw [upd_same, List.map_append]
      · intro x hxx
        rcases List.mem_append.mp hxx with hxx | hxx
        · exact hx3 x hxx
        · have := hx4 x hxx; omega
      · rw [List.length_append, hsum]; omega
  · rintro σ H2 ⟨sm, ep2, r, row, y, rfl, hrn, hrp, er, hx, hlen⟩
    refine ⟨_, rfl, q r row H2 sm hrn er hx ?_⟩
    rw [List.take_of_length_le (by omega)] at hlen
    show row.length + 1 ≤ ((halF 7 n).map (sz e)).sum
    omega
theorem urow_all {f g : Addr} {fd gd : FuncData} (F : Fun K "_law_universal_row" "_law_universal_row" sURow f fd) (bG : Binds K fd ["leaves", "depth"] []) (mG : mg "_law_universal_row" = some (.ref f))
    (GH : FnOk P w K mg base CX0 8 g gd ["number"] (spHalves 8)) (bH : Binds K gd ["number"] []) (kH : PySem.W.keepIn K (.ref g) = true) (mH : mg "_law_halves" = some (.ref g))
    (ml : mg "len" = none) (mr : mg "range" = none) : ∀ c, FnOk P w K mg base CX0 (c + 8) f fd ["leaves", "depth"] (spURow c)
  | 0 => (neverOk fun vs H Q E h => by
    obtain ⟨n, d, _, _, _, _, h2, _⟩ := h
    omega).mono (Nat.zero_le _)
  | c + 1 => ok_urow F (urow_all F bG mG GH bH kH mH ml mr c) bG mG GH bH kH mH ml mr
end
end K21
set_option Elab.async false
set_option linter.all false
set_option maxRecDepth 100000
set_option maxHeartbeats 4000000
set_option pp.maxSteps 400
set_option pp.deepTerms false
namespace K21
open PySem PySem.Spec PyProof.Rows L2 K11
/-! ### _law_edited, _law_rough -/
theorem idx_mem {xs : List V} {d : Int} (h0 : 0 ≤ d) (h1 : d < (xs.length : Int)) : ∃ v, atI xs d = some v ∧ v ∈ xs := by
  obtain ⟨j, rfl⟩ := Int.eq_ofNat_of_zero_le h0
  have hj : j < xs.length := Int.ofNat_lt.mp h1
  exact ⟨xs[j], atI_nat (List.getElem?_eq_getElem hj), List.getElem_mem hj⟩
theorem idx_int {ns : List Int} {d : Int} (h0 : 0 ≤ d) (h1 : d < (ns.length : Int)) : ∃ i, atI (ns.map V.int) d = some (.int i) ∧ i ∈ ns := by
  obtain ⟨v, e, m⟩ := idx_mem (xs := ns.map V.int) h0 (by rw [List.length_map]; exact h1)
  obtain ⟨i, hi, rfl⟩ := List.mem_map.mp m
  exact ⟨i, e, hi⟩
theorem ixN_nat {n : Nat} {d : Int} (h0 : 0 ≤ d) (h1 : d < (n : Int)) : ixN n d = some d.toNat := by
  unfold ixN
  rw [if_pos h0, if_pos h1]
theorem seqIx_nat {n : Nat} {d : Int} (h0 : 0 ≤ d) (h1 : d < (n : Int)) : seqIndex? d n = some d.toNat := (ixN_seq (ixN_nat h0 h1)).1
theorem mem_set {α : Type} {P : α → Prop} : ∀ {l : List α} {i : Nat} {y : α}, (∀ x ∈ l, P x) → P y → ∀ x ∈ l.set i y, P x := by
  intro l i y h hy x hx
  rcases List.mem_or_eq_of_mem_set hx with q | q
  · exact h x q
  · rw [q]; exact hy
theorem erase_map {α β : Type} (f : α → β) : ∀ (l : List α) (i : Nat), (l.map f).eraseIdx i = (l.eraseIdx i).map f
  | [], _ => rfl
  | _ :: _, 0 => rfl
  | a :: l, i + 1 => by
    show f a :: (l.map f).eraseIdx i = f a :: (l.eraseIdx i).map f
    rw [erase_map f l i]
theorem mem_erase {α : Type} {P : α → Prop} {l : List α} {i : Nat} (h : ∀ x ∈ l, P x) : ∀ x ∈ l.eraseIdx i, P x := fun x hx => h x (List.mem_of_mem_eraseIdx hx)
section
variable {P : Program} {w : World} {K : PySem.W.Frag} {mg : Str → Option Value} {base : Heap}
theorem scEdited : FnScope ["row", "depth", "digits", "many", "out", "k", "value"] ["row", "depth", "digits", "many"] (defScope sEdited) := ⟨rfl, rfl, rfl, by decide +kernel, rfl, by decide +kernel, by decide +kernel⟩
def spEdited (K : PySem.W.Frag) : Sp := fun vs H Q _ => ∃ (R G : Addr) (row ds : List Int) (d many : Nat), vs = [.ref R, .int (d : Int), .ref G, .int (many : Int)] ∧ SqL K H R (row.map V.int) ∧ SqL K H G (ds.map V.int) ∧ row.length ≤ 400 ∧ ds.length = 9 ∧ many ≤ 3 ∧ 1 ≤ d ∧
  (∀ x ∈ row, 1 ≤ x ∧ x ≤ (d : Int)) ∧ ∀ p (out : List Int) H', Same H H' → H' p = some (.lst (out.map V.int)) → (∀ x ∈ out, 1 ≤ x ∧ x ≤ (d : Int)) → out.length ≤ row.length + many → Q (.ref p) H'
theorem ok_edited {f : Addr} {fd : FuncData} (F : Fun K "_law_edited" "_law_edited" sEdited f fd) (ml : mg "len" = none) (mr : mg "range" = none) (mi : mg "int" = none) (ms : mg "list" = none) :
    FnOk P w K mg base CX0 1 f fd ["row", "depth", "digits", "many"] (spEdited K) := by
  refine F.ok scEdited (fun vs H Q E h => ?_) (fun cdv A outer s H vs Q E hr h => ?_)
  · obtain ⟨R, G, row, ds, d, many, rfl, _⟩ := h
    rfl
  obtain ⟨R, G, row, ds, d, many, rfl, hR, hG, hl, h9, h3, h1, hx, q⟩ := h
  have nd := scEdited.nd
  refine ⟨_, pss_cons (ps_set (i := 4) nd rfl (.inl rfl) (pe_callTy call_list_of (by rfl) ms PyProof.Rows.boot_list (pa_cons (pv 0) pa_nil)))
    (pss_cons (ps_for PassesOwn.never rfl (pi_range1 rfl mr (pa_cons (pv 3) pa_nil)) (pg_name (i := 5) nd rfl (.inl rfl))
      (pss_cons (ps_set (i := 6) nd rfl (.inl rfl) (pe_op op_add pe_int (pe_op op_mod (pe_callTy call_int1 (by rfl) mi PyProof.Rows.boot_int (pa_cons (pe_ix ix_list (pv 2) (pe_op op_add (pe_op op_mul pe_int (pv 5)) pe_int) (fun _ _ => rfl)) pa_nil)) (pv 1))))
      (pss_one (ps_if (PW.pt (pw_or (pt_cmpR op_eq (pe_ix ix_list (pv 2) (pe_op op_mul pe_int (pv 5)) (fun _ _ => rfl)) pe_int (nomark _)) (pw_or1 (pt_cmpR op_eq (pe_callB call_len_seq (by rfl) ml PySem.boot_len (pa_cons (pv 4) pa_nil)) pe_int (nomark _)))))
        (pss_one (ps_expr (pe_bm PySem.F.plainAttrs_list PySem.F.slot_list_insert PySem.F.type_list_insert mt_insert (pv 4) (pa_cons (pe_op op_mod (pe_callTy call_int1 (by rfl) mi PyProof.Rows.boot_int (pa_cons (pe_ix ix_list (pv 2) (pe_op op_add (pe_op op_mul pe_int (pv 5)) pe_int) (fun _ _ => rfl)) pa_nil))
          (pe_op op_add (pe_callB call_len_seq (by rfl) ml PySem.boot_len (pa_cons (pv 4) pa_nil)) pe_int)) (pa_cons (pv 6) pa_nil)))))
        (pss_one (ps_if (pt_cmpR op_eq (pe_ix ix_list (pv 2) (pe_op op_mul pe_int (pv 5)) (fun _ _ => rfl)) pe_int (nomark _))
          (pss_one (ps_expr (pe_bm PySem.F.plainAttrs_list PySem.F.slot_list_pop PySem.F.type_list_pop mt_popAt (pv 4) (pa_cons (pe_op op_mod (pe_callTy call_int1 (by rfl) mi PyProof.Rows.boot_int (pa_cons (pe_ix ix_list (pv 2) (pe_op op_add (pe_op op_mul pe_int (pv 5)) pe_int) (fun _ _ => rfl)) pa_nil))
            (pe_callB call_len_seq (by rfl) ml PySem.boot_len (pa_cons (pv 4) pa_nil))) pa_nil))))
          (pss_one (ps_asg (pv 6) (pg_sub (pv 4) (pe_op op_mod (pe_callTy call_int1 (by rfl) mi PyProof.Rows.boot_int (pa_cons (pe_ix ix_list (pv 2) (pe_op op_add (pe_op op_mul pe_int (pv 5)) pe_int) (fun _ _ => rfl)) pa_nil))
            (pe_callB call_len_seq (by rfl) ml PySem.boot_len (pa_cons (pv 4) pa_nil))) set_list)))))))))
    (pss_one (ps_ret (pv 4)))), ?_⟩
  refine ⟨_, rfl, R, _, rfl, .inl hR, fun o no => ?_⟩
  have s0 := same_new no (.lst (row.map V.int))
  refine ⟨_, rfl, _, rfl, by omega, by omega, ?_⟩
  have e0 : (many : Int).toNat = many := rfl
  rw [e0]
  refine for_range (n := many) (fun k σ H' => Same H H' ∧ ∃ (out : List Int) (y6 y7 : Option V), σ = [some (.ref R), some (.int (d : Int)), some (.ref G), some (.int (many : Int)), some (.ref o), y6, y7] ∧ H' o = some (.lst (out.map V.int)) ∧ (∀ x ∈ out, 1 ≤ x ∧ x ≤ (d : Int)) ∧ out.length ≤ row.length + k)
    ⟨s0, row, Option.none, Option.none, rfl, upd_same, hx, Nat.le_refl _⟩ ?_ ?_
  · rintro k σ H1 hk ⟨sm, out, y6, y7, rfl, eo, hxo, hlo⟩
    have hG1 := sm.seq hG
    obtain ⟨g2, ea2, _⟩ := idx_int (ns := ds) (d := 3 * (0 + (k : Int)) + 2) (by omega) (by omega)
    obtain ⟨g0, ea0, _⟩ := idx_int (ns := ds) (d := 3 * (0 + (k : Int))) (by omega) (by omega)
    obtain ⟨g1, ea1, _⟩ := idx_int (ns := ds) (d := 3 * (0 + (k : Int)) + 1) (by omega) (by omega)
    have dpos : (0 : Int) < (d : Int) := by omega
    have v0 := Int.emod_nonneg g2 (show (d : Int) ≠ 0 by omega)
    have v1 := Int.emod_lt_of_pos g2 dpos
    have hv : 1 ≤ 1 + g2 % (d : Int) ∧ 1 + g2 % (d : Int) ≤ (d : Int) := ⟨by omega, by omega⟩
    have hlen : (out.map V.int).length = out.length := List.length_map _
    refine ⟨_, rfl, _, rfl, _, _, rfl, rfl, .inl ⟨by decide, by decide⟩, _, _, rfl, rfl, G, _, _, _, rfl, rfl, hG1, ea2, .inl ⟨_, rfl, _, rfl, _, _, rfl, rfl, dpos, _, _, rfl, rfl, ?_⟩⟩
    have ins : ∀ σ', σ' = [some (.ref R), some (.int (d : Int)), some (.ref G), some (.int (many : Int)), some (.ref o), some (.int (0 + (k : Int))), some (.int (1 + g2 % (d : Int)))] → ∀ i : Int, 0 ≤ i → i < (out.length : Int) + 1 →
        (Same H (upd H1 o (.lst ((out.map V.int).take i.toNat ++ [.int (1 + g2 % (d : Int))] ++ (out.map V.int).drop i.toNat))) ∧ ∃ (out' : List Int) (y6 y7 : Option V), σ' = [some (.ref R), some (.int (d : Int)), some (.ref G), some (.int (many : Int)), some (.ref o), y6, y7] ∧ upd H1 o (.lst ((out.map V.int).take i.toNat ++ [.int (1 + g2 % (d : Int))] ++ (out.map V.int).drop i.toNat)) o = some (.lst (out'.map V.int)) ∧ (∀ x ∈ out', 1 ≤ x ∧ x ≤ (d : Int)) ∧ out'.length ≤ row.length + (k + 1)) := by
      rintro σ' rfl i i0 i1
      refine ⟨same_upd sm no _, out.take i.toNat ++ [1 + g2 % (d : Int)] ++ out.drop i.toNat, _, _, rfl, ?_, ?_, ?_⟩
      · rw [upd_same, List.map_append, List.map_append, List.map_take, List.map_drop]
        rfl
      · intro x hxx
        rcases List.mem_append.mp hxx with hxx | hxx
        · rcases List.mem_append.mp hxx with hxx | hxx
          · exact hxo x (List.mem_of_mem_take hxx)
          · have e : x = 1 + g2 % (d : Int) := by simpa using hxx
            rw [e]; exact hv
        · exact hxo x (List.mem_of_mem_drop hxx)
      · rw [List.length_append, List.length_append, List.length_take, List.length_drop, List.length_singleton]
        omega
    have insR : tDrop (tBM K "list" (fun x vs H Q => ∃ (l : Addr) (xs : List V) (i : Int) (y : V), x = .ref l ∧ vs = [.int i, y] ∧ H l = some (.lst xs) ∧ xs.length < sizeLine ∧ 0 ≤ i ∧ i < 2 ^ 63 ∧ Q .non (upd H l (.lst (xs.take i.toNat ++ [y] ++ xs.drop i.toNat)))) (tVar 4)
        (tCons (tOp (rI (fun _ j => 0 < j) fun i j => .int (i % j)) (tCB (fun xs H Q => (∃ i, xs = [.int i] ∧ Q (.int i) H) ∨ ∃ k, xs = [.bl k] ∧ Q (.int (if k then 1 else 0)) H) (tCons (tOp (rIxL K) (tVar 2) (tOp (rI0 fun i j => .int (i + j)) (tOp (rI CMul fun i j => .int (i * j)) (tC (.int 3)) (tVar 5)) (tC (.int 1)))) tNil))
          (tOp (rI0 fun i j => .int (i + j)) (tCB (fun xs H Q => ∃ p ys, xs = [.ref p] ∧ (SqL K H p ys ∨ SqT K H p ys) ∧ Q (.int ys.length) H) (tCons (tVar 4) tNil)) (tC (.int 1)))) (tCons (tVar 6) tNil)))
        { nx := fun σ H' => Same H H' ∧ ∃ (out : List Int) (y6 y7 : Option V), σ = [some (.ref R), some (.int (d : Int)), some (.ref G), some (.int (many : Int)), some (.ref o), y6, y7] ∧ H' o = some (.lst (out.map V.int)) ∧ (∀ x ∈ out, 1 ≤ x ∧ x ≤ (d : Int)) ∧ out.length ≤ row.length + (k + 1), rt := Q }
        [some (.ref R), some (.int (d : Int)), some (.ref G), some (.int (many : Int)), some (.ref o), some (.int (0 + (k : Int))), some (.int (1 + g2 % (d : Int)))] H1 := by
      have m0 := Int.emod_nonneg g1 (show (out.length : Int) + 1 ≠ 0 by omega)
      have m1 := Int.emod_lt_of_pos g1 (show (0 : Int) < (out.length : Int) + 1 by omega)
      refine ⟨_, rfl, .inl ⟨rfl, _, SqL.of eo⟩, _, rfl, _, rfl, _, _, rfl, rfl, .inl ⟨by decide, by decide⟩, _, _, rfl, rfl, G, _, _, _, rfl, rfl, hG1, ea1, .inl ⟨_, rfl, _, rfl, o, _, rfl, .inl (SqL.of eo), _, _, rfl, rfl, _, _, rfl, rfl, ?_, _, rfl, o, _, _, _, rfl, rfl, eo, ?_, ?_, ?_, ?_⟩⟩
      · rw [hlen]; omega
      · rw [hlen]; exact lt_line (by omega)
      · rw [hlen]; exact m0
      · rw [hlen]; omega
      · rw [hlen]; exact ins _ rfl _ m0 m1
    refine ⟨_, rfl, _, rfl, _, _, rfl, rfl, .inl ⟨by decide, by decide⟩, G, _, _, _, rfl, rfl, hG1, ea0, rfl, _, rfl, ite2 (fun _ => iteT insR) (fun _ => ?_)⟩
    refine ⟨_, rfl, o, _, rfl, .inl (SqL.of eo), rfl, _, rfl, ite2 (fun _ => insR) (fun z => ?_)⟩
    have z' : ¬ ((out.map V.int).length : Int) = 0 := fun y => z (decide_eq_true (congrArg V.int y))
    rw [hlen] at z'
    have m0 := Int.emod_nonneg g1 (show (out.length : Int) ≠ 0 by omega)
    have m1 := Int.emod_lt_of_pos g1 (show (0 : Int) < (out.length : Int) by omega)
    refine ⟨_, rfl, _, rfl, _, _, rfl, rfl, .inl ⟨by decide, by decide⟩, G, _, _, _, rfl, rfl, hG1, ea0, rfl, _, rfl, ite2 (fun _ => ?_) (fun _ => ?_)⟩
    · obtain ⟨v, hv3, _⟩ : ∃ v, (out.map V.int)[(g1 % (out.length : Int)).toNat]? = some v ∧ True := ⟨_, List.getElem?_eq_getElem (by rw [hlen]; omega), True.intro⟩
      refine ⟨_, rfl, .inl ⟨rfl, _, SqL.of eo⟩, _, rfl, _, rfl, _, _, rfl, rfl, .inl ⟨by decide, by decide⟩, _, _, rfl, rfl, G, _, _, _, rfl, rfl, hG1, ea1, .inl ⟨_, rfl, _, rfl, o, _, rfl, .inl (SqL.of eo), _, _, rfl, rfl, ?_, o, _, g1 % (out.length : Int), (g1 % (out.length : Int)).toNat, v, rfl, ?_, eo, ?_, ?_, ?_, hv3, ?_⟩⟩
      · rw [hlen]; omega
      · rw [hlen]
      · exact Int.le_trans (by decide) m0
      · omega
      · rw [hlen]; exact seqIx_nat m0 m1
      · refine ⟨same_upd sm no _, out.eraseIdx (g1 % (out.length : Int)).toNat, _, _, rfl, ?_, mem_erase hxo, ?_⟩
        · rw [upd_same, erase_map]
        · have := List.length_eraseIdx_le out (g1 % (out.length : Int)).toNat
          omega
    · refine ⟨_, rfl, _, rfl, _, rfl, _, rfl, _, _, rfl, rfl, .inl ⟨by decide, by decide⟩, _, _, rfl, rfl, G, _, _, _, rfl, rfl, hG1, ea1, .inl ⟨_, rfl, _, rfl, o, _, rfl, .inl (SqL.of eo), _, _, rfl, rfl, ?_, o, _, g1 % (out.length : Int), (g1 % (out.length : Int)).toNat, rfl, ?_, eo, ?_, ?_⟩⟩
      · rw [hlen]; omega
      · rw [hlen]
      · rw [hlen]; exact ixN_nat m0 m1
      · refine ⟨same_upd sm no _, out.set (g1 % (out.length : Int)).toNat (1 + g2 % (d : Int)), _, _, rfl, ?_, mem_set hxo hv, ?_⟩
        · rw [upd_same, List.map_set]
        · rw [List.length_set]; omega
  · rintro σ H1 ⟨sm, out, y6, y7, rfl, eo, hxo, hlo⟩
    exact ⟨_, rfl, q o out H1 sm eo hxo hlo⟩
end
end K21
set_option Elab.async false
set_option linter.all false
set_option maxRecDepth 100000
set_option maxHeartbeats 4000000
set_option pp.maxSteps 400
set_option pp.deepTerms false
namespace K21
open PySem PySem.Spec PyProof.Rows L2 K11
/-! ### _law_rough -/
/-- at r a path of at most so many numbers -/
def PathAt (H : Hp) (r : Addr) (m : Nat) : Prop := ∃ x : List Int, H r = some (.tup (x.map V.int)) ∧ x.length ≤ m
section
variable {P : Program} {w : World} {K : PySem.W.Frag} {mg : Str → Option Value} {base : Heap}
theorem scRough : FnScope ["paths", "digits", "out", "k", "path"] ["paths", "digits"] (defScope sRough) := ⟨rfl, rfl, rfl, by decide +kernel, rfl, by decide +kernel, by decide +kernel⟩
def spRough (K : PySem.W.Frag) : Sp := fun vs H Q _ => ∃ (p G : Addr) (ps : List (List Int)) (ds : List Int) (m : Nat), vs = [.ref p, .ref G] ∧ PathsAt H p ps ∧ SqL K H G (ds.map V.int) ∧ ps.length ≤ 400 ∧ ps.length ≤ ds.length ∧ (∀ x ∈ ps, x.length ≤ m) ∧ m ≤ 40 ∧
  ∀ o qs H', Same H H' → PathsAt H' o qs → qs.length ≤ 2 * ps.length → (∀ x ∈ qs, x.length ≤ m + 2) → Q (.ref o) H'
/-- what holds between two statements of a turn -/
structure Mid (H H' : Hp) (p G P0 : Addr) (ps : List (List Int)) (n m r : Nat) : Prop where
  sm : Same H H'
  at_ : PathsAt H' p ps
  out : ∃ qs, PathsAt H' P0 qs ∧ qs.length ≤ n ∧ ∀ x ∈ qs, x.length ≤ m
theorem ok_rough {f : Addr} {fd : FuncData} (F : Fun K "_law_rough" "_law_rough" sRough f fd) (ml : mg "len" = none) (mr : mg "range" = none) : FnOk P w K mg base CX0 1 f fd ["paths", "digits"] (spRough K) := by
  refine F.ok scRough (fun vs H Q E h => ?_) (fun cdv A outer s H vs Q E hr h => ?_)
  · obtain ⟨p, G, ps, ds, m, rfl, _⟩ := h
    rfl
  obtain ⟨p, G, ps, ds, m, rfl, hP, hG, hl, hd, hx, hm, q⟩ := h
  have nd := scRough.nd
  refine ⟨_, pss_cons (ps_set (i := 2) nd rfl (.inl rfl) (pe_lst pa_nil))
    (pss_cons (ps_for PassesOwn.never rfl (pi_range1 rfl mr (pa_cons (pe_callB call_len_seq (by rfl) ml PySem.boot_len (pa_cons (pv 0) pa_nil)) pa_nil)) (pg_name (i := 3) nd rfl (.inl rfl))
      (pss_cons (ps_set (i := 4) nd rfl (.inl rfl) (pe_ix ix_list (pv 0) (pv 3) (fun _ _ => rfl)))
      (C8.pss_cut (ps_if (pt_cmpR op_eq (pe_ix ix_list (pv 1) (pv 3) (fun _ _ => rfl)) pe_int (nomark _)) (pss_one (ps_set (i := 4) nd rfl (.inl rfl) (pe_slice sl_tupA (pv 4) po_none (po_some (pe_un un_neg pe_int))))) pss_nil)
      (C8.pss_cut (ps_if (pt_cmpR op_eq (pe_ix ix_list (pv 1) (pv 3) (fun _ _ => rfl)) pe_int (nomark _)) (pss_one (ps_set (i := 4) nd rfl (.inl rfl) (pe_op op_catA (pv 4) (pe_tup (pa_cons pe_int pa_nil))))) pss_nil)
      (C8.pss_cut (ps_if (pt_cmpR op_eq (pe_ix ix_list (pv 1) (pv 3) (fun _ _ => rfl)) pe_int (nomark _))
        (pss_cons (ps_expr (pe_bm PySem.F.plainAttrs_list PySem.F.slot_list_append PySem.F.type_list_append mt_append (pv 2) (pa_cons (pe_op op_catA (pv 4) (pe_tup (pa_cons pe_int pa_nil))) pa_nil)))
          (pss_one (ps_set (i := 4) nd rfl (.inl rfl) (pe_op op_catA (pv 4) (pe_tup (pa_cons pe_int pa_nil)))))) pss_nil)
      (pss_one (ps_if (pt_cmpR op_ne (pe_ix ix_list (pv 1) (pv 3) (fun _ _ => rfl)) pe_int (nomark _)) (pss_one (ps_expr (pe_bm PySem.F.plainAttrs_list PySem.F.slot_list_append PySem.F.type_list_append mt_append (pv 2) (pa_cons (pv 4) pa_nil)))) pss_nil)))))))
    (pss_one (ps_ret (pv 2)))), ?_⟩
  obtain ⟨rs, er, pa⟩ := hP
  have lr : rs.length = ps.length := pa.length
  refine ⟨Nat.zero_le _, fun P0 hP0 => ?_⟩
  have s0 := same_new hP0 (.lst [])
  refine ⟨_, rfl, p, _, rfl, .inl (SqL.of (s0 _ _ er)), _, rfl, by rw [List.length_map, lr]; omega, by rw [List.length_map, lr]; omega, ?_⟩
  have e0 : ((((rs.map V.ref)).length : Nat) : Int).toNat = ps.length := by rw [List.length_map, lr]; rfl
  rw [e0]
  -- a tuple joined with one number
  have cat : ∀ (H1 : Hp) (r : Addr) (x : List Int) (z : Int) (Q' : V → Hp → Prop), H1 r = some (.tup (x.map V.int)) → x.length ≤ 50 → (∀ r' H2, Same H1 H2 → H2 r' = some (.tup ((x ++ [z]).map V.int)) → Q' (.ref r') H2) →
      (1 ≤ sizeLine ∧ ∀ T, H1 T = none → rCatA K (.ref r) (.ref T) (upd H1 T (.tup [.int z])) Q') := by
    intro H1 r x z Q' e hx50 k
    refine ⟨one_le, fun T hT => ?_⟩
    have sT := same_new hT (.tup [.int z])
    refine ⟨r, T, _, _, rfl, rfl, .inl (.inl (sT _ _ e)), .inl (.inl upd_same), ?_, fun hn => ?_, fun _ hn => ?_, fun _ _ p2 hp2 => ?_⟩
    · rw [List.length_map, List.length_singleton]; exact le_line (by omega)
    · have hx0 : x = [] := by
        cases x with
        | nil => rfl
        | cons a l => exact nomatch hn
      refine k T _ sT ?_
      rw [hx0]
      exact upd_same
    · exact nomatch hn
    · refine k p2 _ (sT.trans (same_new hp2 _)) ?_
      rw [upd_same, List.map_append]
      rfl
  refine for_range (n := ps.length) (fun k σ H' => Same H H' ∧ ∃ (y3 y4 : Option V) (qs : List (List Int)), σ = [some (.ref p), some (.ref G), some (.ref P0), y3, y4] ∧ PathsAt H' P0 qs ∧ qs.length ≤ 2 * k ∧ ∀ x ∈ qs, x.length ≤ m + 2)
    ⟨s0, Option.none, Option.none, [], rfl, ⟨[], upd_same, .nil⟩, Nat.zero_le _, fun x hx => nomatch hx⟩ ?_ ?_
  · rintro k σ H1 hk ⟨sm, y3, y4, qs, rfl, hQ, hql, hqx⟩
    have hk' : k < rs.length := by omega
    obtain ⟨x0, hx0, ex0⟩ := pr_get pa (List.getElem?_eq_getElem hk')
    generalize hr0 : rs[k] = r0 at ex0
    have gr : rs[k]? = some r0 := by rw [List.getElem?_eq_getElem hk', hr0]
    have hxm := hx x0 (List.mem_of_getElem? hx0)
    have hkd : k < ds.length := by omega
    have gd : (ds.map V.int)[k]? = some (.int ds[k]) := by rw [List.getElem?_map, List.getElem?_eq_getElem hkd]; rfl
    generalize ds[k] = dk at gd
    have ad : atI (ds.map V.int) (0 + (k : Int)) = some (.int dk) := by rw [Int.zero_add]; exact atI_nat gd
    have ap : atI (rs.map V.ref) (0 + (k : Int)) = some (.ref r0) := by rw [Int.zero_add]; exact atI_nat (by rw [List.getElem?_map, gr]; rfl)
    refine ⟨_, rfl, _, rfl, p, _, _, _, rfl, rfl, SqL.of (sm _ _ er), ap, ?_⟩
    refine ⟨fun σ' H' => Same H H' ∧ ∃ (r : Addr) (x : List Int), σ' = [some (.ref p), some (.ref G), some (.ref P0), some (.int (0 + (k : Int))), some (.ref r)] ∧ H' r = some (.tup (x.map V.int)) ∧ x.length ≤ m ∧ ∃ qs, PathsAt H' P0 qs ∧ qs.length ≤ 2 * k ∧ ∀ x ∈ qs, x.length ≤ m + 2, ?_, ?_⟩
    · refine ⟨_, rfl, _, rfl, G, _, _, _, rfl, rfl, sm.seq hG, ad, rfl, _, rfl, ite2 (fun _ => ?_) (fun _ => ?_)⟩
      · refine ⟨_, rfl, 1, rfl, _, rfl, r0, _, rfl, .inl (.inl (sm _ _ ex0)), fun _ => ?_, fun _ p2 hp2 => ?_⟩
        · exact ⟨sm, r0, x0, rfl, sm _ _ ex0, hxm, qs, hQ, hql, hqx⟩
        · have s2 := same_new hp2 (.tup (cutV (x0.map V.int) Option.none (some (-1))))
          obtain ⟨y, ey, hy⟩ : ∃ y : List Int, cutV (x0.map V.int) Option.none (some (-1)) = y.map V.int ∧ y.length ≤ x0.length := by
            refine ⟨(x0.drop (HT.sIx (x0.map V.int).length 0 Option.none)).take (HT.sIx (x0.map V.int).length (x0.map V.int).length (some (-1)) - HT.sIx (x0.map V.int).length 0 Option.none), ?_, ?_⟩
            · unfold cutV
              rw [List.map_take, List.map_drop]
            · rw [List.length_take, List.length_drop]
              omega
          refine ⟨sm.trans s2, p2, y, rfl, ?_, by omega, qs, hQ.same s2, hql, hqx⟩
          rw [← ey]
          exact upd_same
      · exact ⟨sm, r0, x0, rfl, sm _ _ ex0, hxm, qs, hQ, hql, hqx⟩
    rintro σ' H2 ⟨sm2, r, x, rfl, erx, hxl, qs2, hQ2, hql2, hqx2⟩
    refine ⟨fun σ' H' => Same H H' ∧ ∃ (r : Addr) (x : List Int), σ' = [some (.ref p), some (.ref G), some (.ref P0), some (.int (0 + (k : Int))), some (.ref r)] ∧ H' r = some (.tup (x.map V.int)) ∧ x.length ≤ m + 1 ∧ ∃ qs, PathsAt H' P0 qs ∧ qs.length ≤ 2 * k ∧ ∀ x ∈ qs, x.length ≤ m + 2, ?_, ?_⟩
    · refine ⟨_, rfl, _, rfl, G, _, _, _, rfl, rfl, sm2.seq hG, ad, rfl, _, rfl, ite2 (fun _ => ?_) (fun _ => ?_)⟩
      · refine ⟨_, rfl, cat H2 r x 0 _ erx (by omega) fun r' H3 s3 e3 => ?_⟩
        refine ⟨sm2.trans s3, r', x ++ [0], rfl, e3, ?_, qs2, hQ2.same s3, hql2, hqx2⟩
        rw [List.length_append, List.length_singleton]; omega
      · exact ⟨sm2, r, x, rfl, erx, by omega, qs2, hQ2, hql2, hqx2⟩
    rintro σ' H3 ⟨sm3, r, x, rfl, erx, hxl, qs3, hQ3, hql3, hqx3⟩
    refine ⟨fun σ' H' => Same H H' ∧ ∃ (r : Addr) (x : List Int), σ' = [some (.ref p), some (.ref G), some (.ref P0), some (.int (0 + (k : Int))), some (.ref r)] ∧ H' r = some (.tup (x.map V.int)) ∧ x.length ≤ m + 2 ∧ ∃ qs, PathsAt H' P0 qs ∧ qs.length ≤ 2 * k + 1 ∧ ∀ x ∈ qs, x.length ≤ m + 2, ?_, ?_⟩
    · refine ⟨_, rfl, _, rfl, G, _, _, _, rfl, rfl, sm3.seq hG, ad, rfl, _, rfl, ite2 (fun _ => ?_) (fun _ => ?_)⟩
      · obtain ⟨rsq, b1, b2⟩ := hQ3
        refine ⟨_, rfl, .inl ⟨rfl, _, SqL.of b1⟩, _, rfl, cat H3 r x 0 _ erx (by omega) fun r' H4 s4 e4 => ?_⟩
        have b1' := s4 _ _ b1
        refine ⟨P0, _, _, rfl, rfl, b1', ?_, ?_⟩
        · rw [List.length_map, b2.length]; exact lt_line (by omega)
        have erx4 : upd H4 P0 (.lst (rsq.map V.ref ++ [.ref r'])) r = some (.tup (x.map V.int)) := by
          rw [upd_ne (ne_of (s4 _ _ erx) b1' (fun z => nomatch z))]
          exact s4 _ _ erx
        have hQ5 : PathsAt (upd H4 P0 (.lst (rsq.map V.ref ++ [.ref r']))) P0 (qs3 ++ [x ++ [0]]) := by
          refine ⟨rsq ++ [r'], ?_, ((b2.same s4).lst b1' _).snoc ?_⟩
          · rw [upd_same, List.map_append]; rfl
          · rw [upd_ne (ne_of e4 b1' (fun z => nomatch z))]; exact e4
        have sm5 : Same H (upd H4 P0 (.lst (rsq.map V.ref ++ [.ref r']))) := same_upd (sm3.trans s4) hP0 _
        refine ⟨_, rfl, cat _ r x 1 _ erx4 (by omega) fun r6 H6 s6 e6 => ?_⟩
        refine ⟨sm5.trans s6, r6, x ++ [1], rfl, e6, ?_, _, hQ5.same s6, ?_, ?_⟩
        · rw [List.length_append, List.length_singleton]; omega
        · rw [List.length_append, List.length_singleton]; omega
        · refine mem_snoc hqx3 ?_
          rw [List.length_append, List.length_singleton]; omega
      · exact ⟨sm3, r, x, rfl, erx, by omega, qs3, hQ3, by omega, hqx3⟩
    rintro σ' H4 ⟨sm4, r, x, rfl, erx, hxl, qs4, hQ4, hql4, hqx4⟩
    refine ⟨_, rfl, _, rfl, G, _, _, _, rfl, rfl, sm4.seq hG, ad, rfl, _, rfl, ite2 (fun _ => ?_) (fun _ => ?_)⟩
    · obtain ⟨rsq, b1, b2⟩ := hQ4
      refine ⟨_, rfl, .inl ⟨rfl, _, SqL.of b1⟩, _, rfl, P0, _, _, rfl, rfl, b1, ?_, same_upd sm4 hP0 _, _, _, qs4 ++ [x], rfl, ⟨rsq ++ [r], ?_, ((b2.lst b1 _)).snoc ?_⟩, ?_, ?_⟩
      · rw [List.length_map, b2.length]; exact lt_line (by omega)
      · rw [upd_same, List.map_append]; rfl
      · rw [upd_ne (ne_of erx b1 (fun z => nomatch z))]; exact erx
      · rw [List.length_append, List.length_singleton]; omega
      · exact mem_snoc hqx4 hxl
    · exact ⟨sm4, _, _, qs4, rfl, hQ4, by omega, hqx4⟩
  · rintro σ H1 ⟨sm, y3, y4, qs, rfl, hQ, hql, hqx⟩
    exact ⟨_, rfl, q P0 qs H1 sm hQ hql hqx⟩
end
end K21
set_option Elab.async false
set_option linter.all false
set_option maxRecDepth 100000
set_option maxHeartbeats 4000000
set_option pp.maxSteps 400
set_option pp.deepTerms false
namespace K21
open PySem PySem.Spec PyProof.Rows L2 K11
/-! ### _law_holds -/
theorem TA.par : ∀ {n : Nat} {H : Hp} {v : V} {t : Tr}, TA n H v t → ∃ a vs, v = .ref a ∧ H a = some (.tup vs) ∧ Paired (TA (n - 1) H) vs t.kids
  | 0, _, _, t, h => by
    obtain ⟨a, e1, e2, e3⟩ := h
    exact ⟨a, [], e1, e2, by rw [e3]; exact .nil⟩
  | n + 1, _, _, _, h => h
theorem ho_eq {d : Nat} {H : Hp} {v : V} {b s : Tr} (h : TA d H v s) : Ho d b s ↔ Emb (Ho (d - 1)) b.kids.reverse s.kids.reverse := by
  cases d with
  | zero =>
    have e : s.kids = [] := h.hb
    rw [e]
    exact ⟨fun _ => Emb.nil _ _, fun _ => True.intro⟩
  | succ d => exact Iff.rfl
theorem lv_kids {n : Nat} {t : Tr} (h : Hb n t) : t.kids.length ≤ lv n t ∧ ∀ c ∈ t.kids, lv (n - 1) c ≤ lv n t := by
  cases n with
  | zero =>
    have e : t.kids = [] := h
    rw [e]
    exact ⟨Nat.zero_le _, fun c hc => nomatch hc⟩
  | succ n =>
    by_cases e : t.kids = []
    · rw [e]
      exact ⟨Nat.zero_le _, fun c hc => nomatch hc⟩
    · have el : lv (n + 1) t = (t.kids.map (lv n)).sum := by unfold lv; rw [if_neg e]
      rw [el]
      generalize t.kids = l
      induction l with
      | nil => exact ⟨Nat.le_refl _, fun c hc => nomatch hc⟩
      | cons x l ih =>
        have hx := lv_pos n x
        rw [List.length_cons, List.map_cons, List.sum_cons]
        refine ⟨by omega, fun c hc => ?_⟩
        rcases List.mem_cons.mp hc with rfl | hc
        · exact Nat.le_add_right _ _
        · exact Nat.le_trans (ih.2 c hc) (Nat.le_add_left _ _)
theorem set_range {n k : Nat} {f g : Nat → V} {v : V} (hv : g k = v) (hne : ∀ j, j ≠ k → f j = g j) : ((List.range n).map f).set k v = (List.range n).map g := by
  refine List.ext_getElem? fun i => ?_
  rw [List.getElem?_set, List.length_map, List.length_range, List.getElem?_map, List.getElem?_map]
  by_cases h : k = i
  · subst h
    rw [if_pos rfl]
    by_cases q : k < n
    · rw [if_pos q, List.getElem?_range q]
      exact (congrArg some hv).symm
    · rw [if_neg q, List.getElem?_eq_none (by rw [List.length_range]; omega)]
      rfl
  · rw [if_neg h]
    by_cases q : i < n
    · rw [List.getElem?_range q]
      exact congrArg some (hne i fun z => h z.symm)
    · rw [List.getElem?_eq_none (by rw [List.length_range]; omega)]
      rfl
theorem at_range {n k : Nat} {f : Nat → V} (h : k < n) : atI ((List.range n).map f) (0 + (k : Int)) = some (f k) := by
  rw [Int.zero_add]
  exact atI_nat (by rw [List.getElem?_map, List.getElem?_range h]; rfl)
section
variable {P : Program} {w : World} {K : PySem.W.Frag} {mg : Str → Option Value} {base : Heap}
abbrev nHolds : List Str := ["big", "small", "j", "reach", "i", "fresh"]
theorem scHolds : FnScope nHolds ["big", "small"] (defScope sHolds) := ⟨rfl, rfl, rfl, by decide +kernel, rfl, by decide +kernel, by decide +kernel⟩
open Classical in
noncomputable def hoB (d : Nat) (b s : Tr) : Bool := decide (Ho d b s)
theorem hoB_of {d : Nat} {b s : Tr} {p : Bool} (h : p = true ↔ Ho d b s) : p = hoB d b s := by
  unfold hoB
  by_cases q : Ho d b s
  · rw [h.mpr q]; simp [q]
  · have : p ≠ true := fun z => q (h.mp z)
    simp [q]
    cases p
    · rfl
    · exact absurd rfl this
open Classical in
noncomputable def emB (d : Nat) (bs ss : List Tr) : Bool := decide (Emb (Ho d) bs.reverse ss.reverse)
theorem emB_nil {d : Nat} {bs : List Tr} : emB d bs [] = true := by classical exact decide_eq_true (Emb.nil _ _)
theorem emB_no {d : Nat} {ss : List Tr} {s : Tr} : emB d [] (ss ++ [s]) = false := by classical exact decide_eq_false (emb_no ss s)
theorem emB_end {d : Nat} {bs ss : List Tr} {b s : Tr} : emB d (bs ++ [b]) (ss ++ [s]) = (emB d bs (ss ++ [s]) || (emB d bs ss && hoB d b s)) := by
  unfold emB hoB
  rw [Bool.eq_iff_iff, Bool.or_eq_true, Bool.and_eq_true]
  simp only [decide_eq_true_eq]
  exact emb_end bs ss b s
theorem hoB_em {d : Nat} {H : Hp} {v : V} {b s : Tr} (h : TA d H v s) : hoB d b s = emB (d - 1) b.kids s.kids := by
  unfold emB hoB
  rw [Bool.eq_iff_iff]
  simp only [decide_eq_true_eq]
  exact ho_eq h
def spHolds (c : Nat) : Sp := fun vs H Q _ => ∃ (v u : V) (n d : Nat) (b s : Tr), vs = [v, u] ∧ TA n H v b ∧ TA d H u s ∧ lv n b ≤ 500 ∧ d + 1 ≤ c ∧ ∀ H', Same H H' → Q (.bl (hoB d b s)) H'
theorem ok_holds {c : Nat} {f : Addr} {fd : FuncData} (F : Fun K "_law_holds" "_law_holds" sHolds f fd) (G : FnOk P w K mg base CX0 c f fd ["big", "small"] (spHolds c)) (bG : Binds K fd ["big", "small"] []) (mG : mg "_law_holds" = some (.ref f))
    (ml : mg "len" = none) (mr : mg "range" = none) : FnOk P w K mg base CX0 (c + 1) f fd ["big", "small"] (spHolds (c + 1)) := by
  classical
  refine F.ok scHolds (fun vs H Q E h => ?_) (fun cdv A outer s H vs Q E hr h => ?_)
  · obtain ⟨v, u, n, d, b, t, rfl, _⟩ := h
    rfl
  obtain ⟨v, u, n, d, b, t, rfl, hB, hT, hl, hc, q⟩ := h
  have nd := scHolds.nd
  have kG := F.kp
  refine ⟨_, pss_cons (ps_if (pt_cmpR op_gt (pe_callB call_len_seq (by rfl) ml PySem.boot_len (pa_cons (pv 1) pa_nil)) (pe_callB call_len_seq (by rfl) ml PySem.boot_len (pa_cons (pv 0) pa_nil)) (nomark _)) (pss_one (ps_ret pe_bl)) pss_nil)
    (pss_cons (ps_setLc (i := 3) (own := [("j", 2)]) (g := gName 2) (tt := tYes) rfl nd rfl rfl (sw_true rfl rfl rfl (by decide +kernel)) (pi_range1 rfl mr (pa_cons (pe_op op_add (pe_callB call_len_seq (by rfl) ml PySem.boot_len (pa_cons (pv 0) pa_nil)) pe_int) pa_nil)) (blkOk_by (N := nHolds) (sc := defScope sHolds) (by decide +kernel))
      (fun _ _ _ _ _ => pg_name (i := 2) nd rfl (Or.inl rfl)) (fun _ _ _ _ _ => pts_nil) (fun _ _ _ _ _ => pe_bl))
    (pss_cons (ps_for PassesOwn.never rfl (pi_range1 rfl mr (pa_cons (pe_callB call_len_seq (by rfl) ml PySem.boot_len (pa_cons (pv 1) pa_nil)) pa_nil)) (pg_name (i := 4) nd rfl (.inl rfl))
      (pss_cons (ps_setLc (i := 5) (own := [("j", 2)]) (g := gName 2) (tt := tYes) rfl nd rfl rfl (sw_true rfl rfl rfl (by decide +kernel)) (pi_range1 rfl mr (pa_cons (pe_op op_add (pe_callB call_len_seq (by rfl) ml PySem.boot_len (pa_cons (pv 0) pa_nil)) pe_int) pa_nil)) (blkOk_by (N := nHolds) (sc := defScope sHolds) (by decide +kernel))
        (fun _ _ _ _ _ => pg_name (i := 2) nd rfl (Or.inl rfl)) (fun _ _ _ _ _ => pts_nil) (fun _ _ _ _ _ => pe_bl))
      (pss_cons (ps_for PassesOwn.never rfl (pi_range1 rfl mr (pa_cons (pe_callB call_len_seq (by rfl) ml PySem.boot_len (pa_cons (pv 0) pa_nil)) pa_nil)) (pg_name (i := 2) nd rfl (.inl rfl))
        (pss_one (ps_asg (pe_or (pe_ix ix_list (pv 5) (pv 2) (fun _ _ => rfl)) (pe_one (pe_and (pe_ix ix_list (pv 3) (pv 2) (fun _ _ => rfl)) (pe_one (pe_call G hr (by rfl) mG kG bG .nil pass0 (pa_cons (pe_ix ix_tup (pv 0) (pv 2) (fun _ _ => rfl)) (pa_cons (pe_ix ix_tup (pv 1) (pv 4) (fun _ _ => rfl)) pa_nil)))))))
          (pg_sub (pv 5) (pe_op op_add (pv 2) pe_int) set_list))))
      (pss_one (ps_set (i := 3) nd rfl (.inl rfl) (pv 5))))))
    (pss_one (ps_ret (pe_ix ix_list (pv 3) (pe_callB call_len_seq (by rfl) ml PySem.boot_len (pa_cons (pv 0) pa_nil)) (fun _ _ => rfl)))))), ?_⟩
  have hHb := hB.hb
  obtain ⟨l1, l2⟩ := lv_kids hHb
  have hoE := hoB_em (b := b) hT
  have hd0 : d = 0 → t.kids = [] := fun e => by subst e; exact hT.hb
  obtain ⟨aB, bs, rfl, eB, pB⟩ := hB.par
  obtain ⟨aS, ss, rfl, eS, pS⟩ := hT.par
  have nB : bs.length = b.kids.length := pB.length
  have nS : ss.length = t.kids.length := pS.length
  rw [hoE] at q
  clear hoE hB hT hHb
  generalize b.kids = bk at *
  generalize t.kids = sk at *
  refine ⟨_, rfl, aS, _, rfl, .inr (.inl (.inl eS)), _, rfl, aB, _, rfl, .inr (.inl (.inl eB)), _, _, rfl, rfl, _, rfl, ite2 (fun z => ?_) (fun z => ?_)⟩
  · have z' : (bs.length : Int) < (ss.length : Int) := of_decide_eq_true z
    have e : emB (d - 1) bk sk = false := decide_eq_false fun y => by
      have := y.len
      rw [List.length_reverse, List.length_reverse] at this
      omega
    have k := q H (.refl _)
    rw [e] at k
    exact k
  have z' : ¬ (bs.length : Int) < (ss.length : Int) := fun y => z (decide_eq_true y)
  have hm : bs.length ≤ 500 := by omega
  have em : ((bs.length : Int) + 1).toNat = bs.length + 1 := by omega
  refine ⟨_, rfl, aB, _, rfl, .inr (.inl (.inl eB)), _, _, rfl, rfl, _, rfl, by omega, by omega, fun R hR => ?_⟩
  rw [em]
  refine lc_range (n := bs.length + 1) (fun i H' => Same H H' ∧ H' R = some (.lst ((List.range i).map fun _ => V.bl true))) ⟨same_new hR _, upd_same⟩ ?_ ?_
  · rintro i H1 hi ⟨sm, eR⟩
    refine ⟨rfl, ?_⟩
    show ∃ acc, H1 R = some (.lst acc) ∧ acc.length < sizeLine ∧ _
    refine ⟨_, eR, ?_, same_upd sm hR _, ?_⟩
    · rw [List.length_map, List.length_range]; exact lt_line (by omega)
    · rw [upd_same, List.range_succ, List.map_append]; rfl
  rintro H1 ⟨sm1, eR1⟩
  refine ⟨_, rfl, aS, _, rfl, .inr (.inl (.inl (sm1 _ _ eS))), _, rfl, by omega, by omega, ?_⟩
  have e0 : ((ss.length : Nat) : Int).toNat = ss.length := rfl
  rw [e0]
  refine for_range (n := ss.length) (fun i σ H' => Same H H' ∧ ∃ (R : Addr) (y2 y4 y5 : Option V), σ = [some (.ref aB), some (.ref aS), y2, some (.ref R), y4, y5] ∧ H' R = some (.lst ((List.range (bs.length + 1)).map fun j => V.bl (emB (d - 1) (bk.take j) (sk.take i)))))
    ⟨sm1, R, _, _, _, rfl, ?_⟩ ?_ ?_
  · rw [eR1]
    refine congrArg (fun l => some (HO.lst l)) (List.map_congr_left fun j _ => ?_)
    rw [List.take_zero, emB_nil]
  · rintro i σ H2 hi ⟨sm2, R2, y2, y4, y5, rfl, eR2⟩
    have gi : ss[i]? = some ss[i] := List.getElem?_eq_getElem hi
    obtain ⟨si, hsi, hTi⟩ := pr_get pS gi
    have hd1 : 1 ≤ d := by
      rcases Nat.eq_zero_or_pos d with e | e
      · rw [hd0 e] at nS
        exact absurd hi (by rw [nS]; exact Nat.not_lt_zero _)
      · exact e
    refine ⟨_, rfl, aB, _, rfl, .inr (.inl (.inl (sm2 _ _ eB))), _, _, rfl, rfl, _, rfl, by omega, by omega, fun D hD => ?_⟩
    rw [em]
    have hDn : H D = none := sm2.free hD
    have nRD : R2 ≠ D := ne_of_none eR2 hD
    refine lc_range (n := bs.length + 1) (fun i H' => Same H2 H' ∧ H' D = some (.lst ((List.range i).map fun _ => V.bl false))) ⟨same_new hD _, upd_same⟩ ?_ ?_
    · rintro k H3 hk ⟨sm, eD⟩
      refine ⟨rfl, ?_⟩
      show ∃ acc, H3 D = some (.lst acc) ∧ acc.length < sizeLine ∧ _
      refine ⟨_, eD, ?_, same_upd sm hD _, ?_⟩
      · rw [List.length_map, List.length_range]; exact lt_line (by omega)
      · rw [upd_same, List.range_succ, List.map_append]; rfl
    rintro H3 ⟨sm3, eD3⟩
    refine ⟨_, rfl, aB, _, rfl, .inr (.inl (.inl (sm3 _ _ (sm2 _ _ eB)))), _, rfl, by omega, by omega, ?_⟩
    have e1 : ((bs.length : Nat) : Int).toNat = bs.length := rfl
    rw [e1]
    refine for_range (n := bs.length) (fun j σ H' => Same H H' ∧ ∃ (y2 : Option V), σ = [some (.ref aB), some (.ref aS), y2, some (.ref R2), some (.int (0 + (i : Int))), some (.ref D)] ∧ H' R2 = some (.lst ((List.range (bs.length + 1)).map fun j => V.bl (emB (d - 1) (bk.take j) (sk.take i)))) ∧
      H' D = some (.lst ((List.range (bs.length + 1)).map fun j' => V.bl (decide (j' ≤ j) && emB (d - 1) (bk.take j') (sk.take (i + 1))))))
      ⟨sm2.trans sm3, _, rfl, sm3 _ _ eR2, ?_⟩ ?_ ?_
    · rw [eD3]
      refine congrArg (fun l => some (HO.lst l)) (List.map_congr_left fun j _ => ?_)
      cases j with
      | zero => rw [List.take_zero, tk1 hsi, emB_no, Bool.and_false]
      | succ j => rw [decide_eq_false (by omega), Bool.false_and]
    · rintro j σ H4 hj ⟨sm4, y2', rfl, eR4, eD4⟩
      have gj : bs[j]? = some bs[j] := List.getElem?_eq_getElem hj
      obtain ⟨bj, hbj, hTj⟩ := pr_get pB gj
      have step : emB (d - 1) (bk.take (j + 1)) (sk.take (i + 1)) = (emB (d - 1) (bk.take j) (sk.take (i + 1)) || (emB (d - 1) (bk.take j) (sk.take i) && hoB (d - 1) bj si)) := by
        rw [tk1 hbj, tk1 hsi]
        exact emB_end
      have val : ∀ Q' : V → Hp → Prop, (∀ H5, Same H4 H5 → Q' (.bl (emB (d - 1) (bk.take (j + 1)) (sk.take (i + 1)))) H5) →
          tOrV (tOp (rIxL K) (tVar 5) (tVar 2)) (tAndV (tOp (rIxL K) (tVar 3) (tVar 2)) (tCall (spHolds c) [] E0 (tCons (tOp (rIxT K) (tVar 0) (tVar 2)) (tCons (tOp (rIxT K) (tVar 1) (tVar 4)) tNil))))
            [some (.ref aB), some (.ref aS), some (.int (0 + (j : Int))), some (.ref R2), some (.int (0 + (i : Int))), some (.ref D)] H4 Q' := by
        intro Q' k
        rw [step] at k
        refine ⟨_, rfl, _, rfl, D, _, _, _, rfl, rfl, SqL.of eD4, at_range (by omega), _, rfl, ?_⟩
        rw [decide_eq_true (Nat.le_refl j), Bool.true_and]
        cases hE1 : emB (d - 1) (bk.take j) (sk.take (i + 1)) with
        | true =>
          rw [hE1] at k
          exact iteT (k H4 (.refl _))
        | false =>
          rw [hE1, Bool.false_or] at k
          refine iteF ⟨_, rfl, _, rfl, R2, _, _, _, rfl, rfl, SqL.of eR4, at_range (by omega), _, rfl, ?_⟩
          cases hE2 : emB (d - 1) (bk.take j) (sk.take i) with
          | false =>
            rw [hE2] at k
            exact iteF (k H4 (.refl _))
          | true =>
            rw [hE2, Bool.true_and] at k
            refine iteT ⟨_, rfl, _, rfl, aB, _, _, _, rfl, rfl, .inl (.inl (sm4 _ _ eB)), (by rw [Int.zero_add]; exact atI_nat gj), _, rfl, _, rfl, aS, _, _, _, rfl, rfl, .inl (.inl (sm4 _ _ eS)), (by rw [Int.zero_add]; exact atI_nat gi), ?_⟩
            exact ⟨_, _, n - 1, d - 1, bj, si, rfl, hTj.same sm4, hTi.same sm4, Nat.le_trans (l2 bj (List.mem_of_getElem? hbj)) hl, by omega, k⟩
      refine val _ fun H5 s5 => ?_
      have ix : ixN ((List.range (bs.length + 1)).map fun j' => V.bl (decide (j' ≤ j) && emB (d - 1) (bk.take j') (sk.take (i + 1)))).length (0 + (j : Int) + 1) = some (j + 1) := by
        have e : ((0 : Int) + (j : Int) + 1).toNat = j + 1 := by omega
        rw [ixN_nat (by omega) (by rw [List.length_map, List.length_range]; omega), e]
      refine ⟨_, rfl, _, rfl, _, _, rfl, rfl, D, _, _, j + 1, rfl, rfl, s5 _ _ eD4, ix, same_upd (sm4.trans s5) hDn _, _, rfl, ?_, ?_⟩
      · rw [upd_ne nRD]
        exact s5 _ _ eR4
      · rw [upd_same]
        refine congrArg (fun l => some (HO.lst l)) (set_range ?_ fun j' hj' => ?_)
        · rw [decide_eq_true (Nat.le_refl _), Bool.true_and]
        · have e : decide (j' ≤ j) = decide (j' ≤ j + 1) := by
            by_cases y : j' ≤ j
            · rw [decide_eq_true y, decide_eq_true (by omega)]
            · rw [decide_eq_false y, decide_eq_false (by omega)]
          rw [e]
    · rintro σ H4 ⟨sm4, y2', rfl, eR4, eD4⟩
      refine ⟨_, rfl, sm4, D, _, _, _, rfl, ?_⟩
      rw [eD4]
      refine congrArg (fun l => some (HO.lst l)) (List.map_congr_left fun j hj => ?_)
      rw [decide_eq_true (by have := List.mem_range.mp hj; omega), Bool.true_and]
  · rintro σ H2 ⟨sm2, R2, y2, y4, y5, rfl, eR2⟩
    have k := q H2 sm2
    refine ⟨_, rfl, _, rfl, aB, _, rfl, .inr (.inl (.inl (sm2 _ _ eB))), R2, _, _, _, rfl, rfl, SqL.of eR2, (by have := at_range (n := bs.length + 1) (k := bs.length) (f := fun j => V.bl (emB (d - 1) (bk.take j) (sk.take ss.length))) (by omega); rw [Int.zero_add] at this; exact this), ?_⟩
    rw [nB, nS, List.take_length, List.take_length]
    exact k
theorem holds_all {f : Addr} {fd : FuncData} (F : Fun K "_law_holds" "_law_holds" sHolds f fd) (bG : Binds K fd ["big", "small"] []) (mG : mg "_law_holds" = some (.ref f)) (ml : mg "len" = none) (mr : mg "range" = none) :
    ∀ c, FnOk P w K mg base CX0 c f fd ["big", "small"] (spHolds c)
  | 0 => neverOk fun vs H Q E h => by
    obtain ⟨v, u, n, d, b, t, _, _, _, _, h2, _⟩ := h
    omega
  | c + 1 => ok_holds F (holds_all F bG mG ml mr c) bG mG ml mr
end
end K21
set_option Elab.async false
set_option linter.all false
set_option maxRecDepth 100000
set_option maxHeartbeats 4000000
set_option pp.maxSteps 400
set_option pp.deepTerms false
namespace K21
open PySem PySem.Spec PyProof.Rows L2 K11
/-! ### _law_longer, _law_rows, _law_first_missing -/
theorem cat1 {K : PySem.W.Frag} {H1 : Hp} {r : Addr} {x : List Int} {z : Int} {Q' : V → Hp → Prop} (e : H1 r = some (.tup (x.map V.int))) (hx50 : x.length ≤ 50) (k : ∀ r' H2, Same H1 H2 → H2 r' = some (.tup ((x ++ [z]).map V.int)) → Q' (.ref r') H2) :
    (1 ≤ sizeLine ∧ ∀ T, H1 T = none → rCatA K (.ref r) (.ref T) (upd H1 T (.tup [.int z])) Q') := by
  refine ⟨one_le, fun T hT => ?_⟩
  have sT := same_new hT (.tup [.int z])
  refine ⟨r, T, _, _, rfl, rfl, .inl (.inl (sT _ _ e)), .inl (.inl upd_same), ?_, fun hn => ?_, fun _ hn => ?_, fun _ _ p2 hp2 => ?_⟩
  · rw [List.length_map, List.length_singleton]; exact le_line (by omega)
  · have hx0 : x = [] := by
      cases x with
      | nil => rfl
      | cons a l => exact nomatch hn
    refine k T _ sT ?_
    rw [hx0]
    exact upd_same
  · exact nomatch hn
  · refine k p2 _ (sT.trans (same_new hp2 _)) ?_
    rw [upd_same, List.map_append]
    rfl
theorem longerL_len (d : Nat) (l : List (List Int)) : (longerL d l).length = l.length * d := by
  unfold longerL
  induction l with
  | nil => simp
  | cons a l ih => rw [List.flatMap_cons, List.length_append, ih, List.length_map, List.length_range, List.length_cons, Nat.add_mul]; omega
theorem longerL_snoc (d : Nat) (l : List (List Int)) (r : List Int) : longerL d (l ++ [r]) = longerL d l ++ (List.range d).map fun (j : Nat) => r ++ [(1 : Int) + (j : Int)] := by
  unfold longerL
  rw [List.flatMap_append, List.flatMap_cons, List.flatMap_nil, List.append_nil]
section
variable {P : Program} {w : World} {K : PySem.W.Frag} {mg : Str → Option Value} {base : Heap}
theorem scLonger : FnScope ["rows", "depth", "longer", "row", "number"] ["rows", "depth"] (defScope sLonger) := ⟨rfl, rfl, rfl, by decide +kernel, rfl, by decide +kernel, by decide +kernel⟩
theorem scRows : FnScope ["count", "depth", "rows", "k"] ["count", "depth"] (defScope sRows) := ⟨rfl, rfl, rfl, by decide +kernel, rfl, by decide +kernel, by decide +kernel⟩
theorem scFirst : FnScope ["tree", "leaves", "depth", "row"] ["tree", "leaves", "depth"] (defScope sFirst) := ⟨rfl, rfl, rfl, by decide +kernel, rfl, by decide +kernel, by decide +kernel⟩
def spLonger : Sp := fun vs H Q _ => ∃ (p : Addr) (ps : List (List Int)) (d : Nat), vs = [.ref p, .int (d : Int)] ∧ PathsAt H p ps ∧ ps.length * d ≤ 500 ∧ d ≤ 3 ∧ (∀ x ∈ ps, x.length ≤ 40) ∧ ∀ o H', Same H H' → PathsAt H' o (longerL d ps) → Q (.ref o) H'
theorem ok_longer {f : Addr} {fd : FuncData} (F : Fun K "_law_longer" "_law_longer" sLonger f fd) (mr : mg "range" = none) : FnOk P w K mg base CX0 1 f fd ["rows", "depth"] spLonger := by
  refine F.ok scLonger (fun vs H Q E h => ?_) (fun cdv A outer s H vs Q E hr h => ?_)
  · obtain ⟨p, ps, d, rfl, _⟩ := h
    rfl
  obtain ⟨p, ps, d, rfl, hP, hl, hd, hx, q⟩ := h
  have nd := scLonger.nd
  refine ⟨_, pss_cons (ps_set (i := 2) nd rfl (.inl rfl) (pe_lst pa_nil))
    (pss_cons (ps_for PassesOwn.never rfl (pi_list (pv 0)) (pg_name (i := 3) nd rfl (.inl rfl))
      (pss_one (ps_for PassesOwn.never rfl (pi_range2 rfl mr (pa_cons pe_int (pa_cons (pe_op op_add (pv 1) pe_int) pa_nil))) (pg_name (i := 4) nd rfl (.inl rfl))
        (pss_one (ps_expr (pe_bm PySem.F.plainAttrs_list PySem.F.slot_list_append PySem.F.type_list_append mt_append (pv 2) (pa_cons (pe_op op_catA (pv 3) (pe_tup (pa_cons (pv 4) pa_nil))) pa_nil)))))))
    (pss_one (ps_ret (pv 2)))), ?_⟩
  obtain ⟨rs, er, pa⟩ := hP
  have lr : rs.length = ps.length := pa.length
  refine ⟨Nat.zero_le _, fun P0 hP0 => ?_⟩
  have s0 := same_new hP0 (.lst [])
  refine ⟨_, rfl, p, rfl, ⟨_, SqL.of (s0 _ _ er)⟩, for_list (xs := rs.map V.ref) (fun i σ H' => Same H H' ∧ ∃ (y3 y4 : Option V), σ = [some (.ref p), some (.int (d : Int)), some (.ref P0), y3, y4] ∧ PathsAt H' P0 (longerL d (ps.take i))) ⟨s0, Option.none, Option.none, rfl, ⟨[], upd_same, .nil⟩⟩ (fun i σ H' _ z => SqL.of (z.1 _ _ er)) ?_ ?_⟩
  · rintro i x σ H1 hx1 ⟨sm, y3, y4, rfl, hQ⟩
    obtain ⟨r, hr', rfl⟩ := map_atV hx1
    obtain ⟨row, hrow, er1⟩ := pr_get pa hr'
    have hi : i < ps.length := (List.getElem?_eq_some_iff.mp hrow).1
    have hrx := hx row (List.mem_of_getElem? hrow)
    have hmul : (i + 1) * d ≤ 500 := Nat.le_trans (Nat.mul_le_mul_right d hi) hl
    rw [Nat.add_mul, Nat.one_mul] at hmul
    refine ⟨_, rfl, _, _, rfl, rfl, 1, (d : Int) + 1, rfl, ⟨by omega, by omega, by omega, by omega⟩, ?_⟩
    have e0 : ((d : Int) + 1 - 1).toNat = d := by omega
    rw [e0]
    refine for_range (n := d) (fun k σ H' => Same H H' ∧ ∃ (y4 : Option V), σ = [some (.ref p), some (.int (d : Int)), some (.ref P0), some (.ref r), y4] ∧ PathsAt H' P0 (longerL d (ps.take i) ++ (List.range k).map fun (j : Nat) => row ++ [(1 : Int) + (j : Int)])) ⟨sm, _, rfl, by rw [List.range_zero, List.map_nil, List.append_nil]; exact hQ⟩ ?_ ?_
    · rintro k σ H2 hk ⟨sm2, y4, rfl, rsq, b1, b2⟩
      have lq : rsq.length = i * d + k := by
        rw [b2.length, List.length_append, longerL_len, List.length_map, List.length_range, List.length_take, Nat.min_eq_left (Nat.le_of_lt hi)]
      refine ⟨_, rfl, .inl ⟨rfl, _, SqL.of b1⟩, _, rfl, _, rfl, cat1 (sm2 _ _ er1) (by omega) fun r' H4 s4 e4 => ?_⟩
      have b1' := s4 _ _ b1
      refine ⟨P0, _, _, rfl, rfl, b1', ?_, same_upd (sm2.trans s4) hP0 _, _, rfl, rsq ++ [r'], ?_, ?_⟩
      · rw [List.length_map, lq]; exact lt_line (by omega)
      · rw [upd_same, List.map_append]; rfl
      · rw [List.range_succ, List.map_append, ← List.append_assoc]
        refine ((b2.same s4).lst b1' _).snoc ?_
        rw [upd_ne (ne_of e4 b1' (fun z => nomatch z))]
        exact e4
    · rintro σ H2 ⟨sm2, y4, rfl, hQ2⟩
      refine ⟨sm2, _, _, rfl, ?_⟩
      rw [tk1 hrow, longerL_snoc]
      exact hQ2
  · rintro σ H1 ⟨sm, y3, y4, rfl, hQ⟩
    rw [List.length_map, lr, List.take_length] at hQ
    exact ⟨_, rfl, q P0 H1 sm hQ⟩
def spRows : Sp := fun vs H Q _ => ∃ (n d : Nat), vs = [.int (n : Int), .int (d : Int)] ∧ 1 ≤ d ∧ d ≤ 3 ∧ d ^ n ≤ 500 ∧ n ≤ 40 ∧ ∀ o H', Same H H' → PathsAt H' o (rowsL d n) → Q (.ref o) H'
theorem ok_rows {f g : Addr} {fd gd : FuncData} (F : Fun K "_law_rows" "_law_rows" sRows f fd) (G : FnOk P w K mg base CX0 1 g gd ["rows", "depth"] spLonger) (bG : Binds K gd ["rows", "depth"] []) (kG : PySem.W.keepIn K (.ref g) = true) (mG : mg "_law_longer" = some (.ref g)) (mr : mg "range" = none) :
    FnOk P w K mg base CX0 2 f fd ["count", "depth"] spRows := by
  refine F.ok scRows (fun vs H Q E h => ?_) (fun cdv A outer s H vs Q E hr h => ?_)
  · obtain ⟨n, d, rfl, _⟩ := h
    rfl
  obtain ⟨n, d, rfl, h1, h3, hp, hn, q⟩ := h
  have nd := scRows.nd
  refine ⟨_, pss_cons (ps_set (i := 2) nd rfl (.inl rfl) (pe_lst (pa_cons (pe_tup pa_nil) pa_nil)))
    (pss_cons (ps_for PassesOwn.never rfl (pi_range1 rfl mr (pa_cons (pv 0) pa_nil)) (pg_name (i := 3) nd rfl (.inl rfl))
      (pss_one (ps_set (i := 2) nd rfl (.inl rfl) (pe_call G hr (by rfl) mG kG bG .nil pass0 (pa_cons (pv 2) (pa_cons (pv 1) pa_nil))))))
    (pss_one (ps_ret (pv 2)))), ?_⟩
  refine ⟨Nat.zero_le _, fun u hu => ⟨one_le, fun R hR => ?_⟩⟩
  have s1 : Same H (upd H u (.tup [])) := same_new hu _
  have s2 := same_new hR (.lst [.ref u])
  have nu : u ≠ R := fun e => by rw [← e, upd_same] at hR; cases hR
  refine ⟨_, rfl, _, rfl, by omega, by omega, ?_⟩
  have e0 : ((n : Nat) : Int).toNat = n := rfl
  rw [e0]
  refine for_range (n := n) (fun k σ H' => Same H H' ∧ ∃ (R : Addr) (y3 : Option V), σ = [some (.int (n : Int)), some (.int (d : Int)), some (.ref R), y3] ∧ PathsAt H' R (rowsL d k)) ⟨s1.trans s2, R, Option.none, rfl, [u], upd_same, .cons ?_ .nil⟩ ?_ ?_
  · rw [upd_ne nu, upd_same]
    rfl
  · rintro k σ H1 hk ⟨sm, R1, y3, rfl, hQ⟩
    refine ⟨_, rfl, _, rfl, R1, rowsL d k, d, rfl, hQ, ?_, h3, fun x hx => ?_, fun o H2 s hQ2 => ⟨sm.trans s, o, _, rfl, hQ2⟩⟩
    · rw [rowsL_len]
      have := Nat.pow_le_pow_right h1 (show k + 1 ≤ n by omega)
      rw [Nat.pow_succ] at this
      omega
    · have := rowsL_item d k x hx
      omega
  · rintro σ H1 ⟨sm, R1, y3, rfl, hQ⟩
    exact ⟨_, rfl, q R1 H1 sm hQ⟩
def spFirst : Sp := fun vs H Q _ => ∃ (v : V) (l d m : Nat) (b : Tr), vs = [v, .int (((l + 1 : Nat) : Int)), .int (d : Int)] ∧ TA m H v b ∧ lv m b ≤ 500 ∧ 1 ≤ d ∧ d ≤ 3 ∧ d ^ l ≤ 500 ∧ l ≤ 40 ∧
  (∀ H', Same H H' → (∀ r ∈ rowsL d l, Ho d b (treeOf d r)) → Q .non H') ∧ ∀ r H', Same H H' → Q (.ref r) H'
theorem ok_first {f g t h : Addr} {fd gd td hd : FuncData} (F : Fun K "_law_first_missing" "_law_first_missing" sFirst f fd)
    (G : FnOk P w K mg base CX0 2 g gd ["count", "depth"] spRows) (bG : Binds K gd ["count", "depth"] []) (kG : PySem.W.keepIn K (.ref g) = true) (mG : mg "_law_rows" = some (.ref g))
    (GT : FnOk P w K mg base CX0 5 t td ["row", "depth"] (spTreeT K 5)) (bT : Binds K td ["row", "depth"] []) (kT : PySem.W.keepIn K (.ref t) = true) (mT : mg "_law_tree" = some (.ref t))
    (GH : FnOk P w K mg base CX0 5 h hd ["big", "small"] (spHolds 5)) (bH : Binds K hd ["big", "small"] []) (kH : PySem.W.keepIn K (.ref h) = true) (mH : mg "_law_holds" = some (.ref h)) :
    FnOk P w K mg base CX0 6 f fd ["tree", "leaves", "depth"] spFirst := by
  refine F.ok (k := 5) scFirst (fun vs H Q E h => ?_) (fun cdv A outer s H vs Q E hr h => ?_)
  · obtain ⟨v, l, d, m, b, rfl, _⟩ := h
    rfl
  obtain ⟨v, l, d, m, b, rfl, hT, hl, h1, h3, hp, hl40, q0, q1⟩ := h
  have nd := scFirst.nd
  refine ⟨_, pss_cons (ps_for PassesOwn.never rfl (pi_list (pe_call G (hr.mono (by omega)) (by rfl) mG kG bG .nil pass0 (pa_cons (pe_op op_sub (pv 1) pe_int) (pa_cons (pv 2) pa_nil)))) (pg_name (i := 3) nd rfl (.inl rfl))
      (pss_one (ps_if (pt_not (pt_val (pe_call GH hr (by rfl) mH kH bH .nil pass0 (pa_cons (pv 0) (pa_cons (pe_call GT hr (by rfl) mT kT bT .nil pass0 (pa_cons (pv 3) (pa_cons (pv 2) pa_nil))) pa_nil))))) (pss_one (ps_ret (pv 3))) pss_nil)))
    (pss_one (ps_ret pe_non)), ?_⟩
  have el : ((l + 1 : Nat) : Int) - 1 = (l : Int) := by omega
  refine ⟨_, rfl, _, _, rfl, rfl, _, rfl, l, d, congrArg (fun z => [V.int z, V.int (d : Int)]) el, h1, h3, hp, hl40, fun o H1 s1 hO => ?_⟩
  obtain ⟨rs, er, pa⟩ := hO
  have lr : rs.length = (rowsL d l).length := pa.length
  refine ⟨o, rfl, ⟨_, SqL.of er⟩, for_list (xs := rs.map V.ref) (fun i σ H' => Same H H' ∧ Same H1 H' ∧ ∃ (y3 : Option V), σ = [some v, some (.int ((l + 1 : Nat) : Int)), some (.int (d : Int)), y3] ∧ ∀ r ∈ (rowsL d l).take i, Ho d b (treeOf d r)) ⟨s1, .refl _, Option.none, rfl, fun r hr => nomatch hr⟩ (fun i σ H' _ z => SqL.of (z.2.1 _ _ er)) ?_ ?_⟩
  · rintro i x σ H2 hx1 ⟨sm, sm1, y3, rfl, hall⟩
    obtain ⟨r, hr', rfl⟩ := map_atV hx1
    obtain ⟨row, hrow, er1⟩ := pr_get pa hr'
    have hrl := rowsL_item d l row (List.mem_of_getElem? hrow)
    refine ⟨_, rfl, _, rfl, _, rfl, r, row, d, rfl, .inl (.inl (sm1 _ _ er1)), by omega, by omega, fun t2 H3 s3 hT3 => ?_⟩
    refine ⟨v, .ref t2, m, d, b, treeOf d row, rfl, (hT.same sm).same s3, hT3, hl, by omega, fun H4 s4 => ?_⟩
    refine ⟨_, rfl, ?_⟩
    have sm4 := sm.trans (s3.trans s4)
    cases hE : hoB d b (treeOf d row) with
    | true =>
      refine iteF ⟨sm4, sm1.trans (s3.trans s4), _, rfl, ?_⟩
      rw [tk1 hrow]
      refine mem_snoc hall ?_
      unfold hoB at hE
      simpa using hE
    | false => exact iteT ⟨_, rfl, q1 r H4 sm4⟩
  · rintro σ H2 ⟨sm, sm1, y3, rfl, hall⟩
    rw [List.length_map, lr, List.take_length] at hall
    exact q0 H2 sm hall
end
end K21
set_option Elab.async false
set_option linter.all false
set_option maxRecDepth 100000
set_option maxHeartbeats 4000000
set_option pp.maxSteps 400
set_option pp.deepTerms false
namespace K21
open PySem PySem.Spec PyProof.Rows L2 K11
/-! ### _law_products -/
theorem isum : ∀ l : List Nat, (l.map fun (n : Nat) => (n : Int)).sum = ((l.sum : Nat) : Int)
  | [] => rfl
  | a :: l => by rw [List.map_cons, List.sum_cons, List.sum_cons, isum l, Int.natCast_add]
theorem at_nat {l : List Nat} {k : Nat} (h : k < l.length) : atI (l.map natV) (k : Int) = some (natV (l.getD k 0)) := by
  refine atI_nat ?_
  rw [List.getElem?_map, List.getElem?_eq_getElem h, List.getD_eq_getElem?_getD, List.getElem?_eq_getElem h]
  rfl
theorem natV_map (l : List Nat) : l.map natV = (l.map fun (n : Nat) => (n : Int)).map V.int := by
  rw [List.map_map]
  rfl
section
variable {P : Program} {w : World} {K : PySem.W.Frag} {mg : Str → Option Value} {base : Heap}
abbrev nProd : List Str := ["leaves", "depth", "counts", "step", "longer", "one", "other", "number"]
theorem scProd : FnScope nProd ["leaves", "depth"] (defScope sProd) := ⟨rfl, rfl, rfl, by decide +kernel, rfl, by decide +kernel, by decide +kernel⟩
def spProd : Sp := fun vs H Q _ => ∃ (n d : Nat), vs = [.int (n : Int), .int (d : Int)] ∧ n ≤ 60 ∧ 1 ≤ d ∧ d ≤ 6 ∧ ∀ H', Same H H' → Q (natV (lowN (d - 1) n)) H'
theorem ok_prod {f : Addr} {fd : FuncData} (F : Fun K "_law_products" "_law_products" sProd f fd) (mr : mg "range" = none) (ms : mg "sum" = none) : FnOk P w K mg base CX0 1 f fd ["leaves", "depth"] spProd := by
  refine F.ok scProd (fun vs H Q E h => ?_) (fun cdv A outer s H vs Q E hr h => ?_)
  · obtain ⟨n, d, rfl, _⟩ := h
    rfl
  obtain ⟨n, d, rfl, hn, h1, h6, q⟩ := h
  have nd := scProd.nd
  refine ⟨_, pss_cons (ps_setLc (i := 2) (own := [("number", 7)]) (g := gName 7) (tt := tYes) rfl nd rfl rfl (sw_true rfl rfl rfl (by decide +kernel)) (pi_range1 rfl mr (pa_cons (pe_op op_add (pv 0) pe_int) pa_nil)) (blkOk_by (N := nProd) (sc := defScope sProd) (by decide +kernel))
      (fun _ _ _ _ _ => pg_name (i := 7) nd rfl (Or.inl rfl)) (fun _ _ _ _ _ => pts_nil) (fun _ _ _ _ _ => pe_int))
    (pss_cons (ps_for PassesOwn.never rfl (pi_range1 rfl mr (pa_cons (pe_op op_sub (pv 1) pe_int) pa_nil)) (pg_name (i := 3) nd rfl (.inl rfl))
      (pss_cons (ps_setLc (i := 4) (own := [("number", 7)]) (g := gName 7) (tt := tYes) rfl nd rfl rfl (sw_true rfl rfl rfl (by decide +kernel)) (pi_range1 rfl mr (pa_cons (pe_op op_add (pv 0) pe_int) pa_nil)) (blkOk_by (N := nProd) (sc := defScope sProd) (by decide +kernel))
        (fun _ _ _ _ _ => pg_name (i := 7) nd rfl (Or.inl rfl)) (fun _ _ _ _ _ => pts_nil) (fun _ _ _ _ _ => pe_int))
      (pss_cons (ps_for PassesOwn.never rfl (pi_range2 rfl mr (pa_cons pe_int (pa_cons (pe_op op_add (pv 0) pe_int) pa_nil))) (pg_name (i := 5) nd rfl (.inl rfl))
        (pss_one (ps_for PassesOwn.never rfl (pi_range2 rfl mr (pa_cons pe_int (pa_cons (pe_op op_add (pe_op op_fdiv (pv 0) (pv 5)) pe_int) pa_nil))) (pg_name (i := 6) nd rfl (.inl rfl))
          (pss_one (ps_asg (pe_op op_add (pe_ix ix_list (pv 4) (pe_op op_mul (pv 5) (pv 6)) (fun _ _ => rfl)) (pe_ix ix_list (pv 2) (pv 6) (fun _ _ => rfl))) (pg_sub (pv 4) (pe_op op_mul (pv 5) (pv 6)) set_list))))))
      (pss_one (ps_set (i := 2) nd rfl (.inl rfl) (pv 4))))))
    (pss_one (ps_ret (pe_callB (cr_sum rfl) (by rfl) ms (by decide +kernel) (pa_cons (pe_slice sl_list (pv 2) (po_some pe_int) po_none) pa_nil))))), ?_⟩
  have en : ((n : Int) + 1).toNat = n + 1 := by omega
  have lc0 : ∀ (H1 : Hp) (C : Addr) (c : Nat) (k : Nat), H1 C = some (.lst ((List.replicate k c).map natV)) → k ≤ 60 →
      ((List.replicate k c).map natV).length < sizeLine ∧ upd H1 C (.lst ((List.replicate k c).map natV ++ [natV c])) C = some (.lst ((List.replicate (k + 1) c).map natV)) := by
    intro H1 C c k e hk
    refine ⟨by rw [List.length_map, List.length_replicate]; exact lt_line (by omega), ?_⟩
    rw [upd_same, List.replicate_succ', List.map_append]
    rfl
  refine ⟨_, rfl, _, _, rfl, rfl, _, rfl, by omega, by omega, fun C hC => ?_⟩
  rw [en]
  refine lc_range (n := n + 1) (fun i H' => Same H H' ∧ H' C = some (.lst ((List.replicate i 1).map natV))) ⟨same_new hC _, upd_same⟩ ?_ ?_
  · rintro i H1 hi ⟨sm, eC⟩
    obtain ⟨b1, b2⟩ := lc0 H1 C 1 i eC (by omega)
    refine ⟨rfl, ?_⟩
    show ∃ acc, H1 C = some (.lst acc) ∧ acc.length < sizeLine ∧ _
    exact ⟨_, eC, b1, same_upd sm hC _, b2⟩
  rintro H1 ⟨sm1, eC1⟩
  refine ⟨_, rfl, _, _, rfl, rfl, _, rfl, by omega, by omega, ?_⟩
  have ed : ((d : Int) - 1).toNat = d - 1 := by omega
  rw [ed]
  refine for_range (n := d - 1) (fun i σ H' => Same H H' ∧ ∃ (C : Addr) (y3 y4 y5 y6 y7 : Option V), σ = [some (.int (n : Int)), some (.int (d : Int)), some (.ref C), y3, y4, y5, y6, y7] ∧ H' C = some (.lst ((cnts n i).map natV))) ⟨sm1, C, _, _, _, _, _, rfl, eC1⟩ ?_ ?_
  · rintro s0 σ H2 hs0 ⟨sm2, C2, y3, y4, y5, y6, y7, rfl, eC2⟩
    have lcs := cnts_len n s0
    refine ⟨_, rfl, _, _, rfl, rfl, _, rfl, by omega, by omega, fun D hD => ?_⟩
    rw [en]
    have hDn : H D = none := sm2.free hD
    have nCD : C2 ≠ D := ne_of_none eC2 hD
    refine lc_range (n := n + 1) (fun i H' => Same H2 H' ∧ H' D = some (.lst ((List.replicate i 0).map natV))) ⟨same_new hD _, upd_same⟩ ?_ ?_
    · rintro i H3 hi ⟨sm, eD⟩
      obtain ⟨b1, b2⟩ := lc0 H3 D 0 i eD (by omega)
      refine ⟨rfl, ?_⟩
      show ∃ acc, H3 D = some (.lst acc) ∧ acc.length < sizeLine ∧ _
      exact ⟨_, eD, b1, same_upd sm hD _, b2⟩
    rintro H3 ⟨sm3, eD3⟩
    refine ⟨_, rfl, _, _, rfl, rfl, 1, (n : Int) + 1, rfl, ⟨by omega, by omega, by omega, by omega⟩, ?_⟩
    have e0 : ((n : Int) + 1 - 1).toNat = n := by omega
    rw [e0]
    refine for_range (n := n) (fun i σ H' => Same H H' ∧ ∃ (y5 y6 y7 : Option V), σ = [some (.int (n : Int)), some (.int (d : Int)), some (.ref C2), some (.int (0 + (s0 : Int))), some (.ref D), y5, y6, y7] ∧ H' C2 = some (.lst ((cnts n s0).map natV)) ∧
      H' D = some (.lst (((List.range i).foldl (updI n (cnts n s0)) (List.replicate (n + 1) 0)).map natV))) ⟨sm2.trans sm3, _, _, _, rfl, sm3 _ _ eC2, eD3⟩ ?_ ?_
    · rintro i σ H4 hi ⟨sm4, y5, y6, y7, rfl, eC4, eD4⟩
      have eq1 : (n : Int) / (1 + (i : Int)) = ((n / (i + 1) : Nat) : Int) := by
        rw [Int.add_comm 1 (i : Int)]
        rfl
      have hq : n / (i + 1) ≤ n := Nat.div_le_self _ _
      have bnd : ∀ m : Nat, m ≤ 60 → -(2 ^ 62) ≤ (m : Int) + 1 ∧ (m : Int) + 1 < 2 ^ 62 ∧ ((m : Int) + 1 - 1).toNat = m := fun m hm => ⟨by omega, by omega, by omega⟩
      obtain ⟨bn1, bn2, bn3⟩ := bnd _ (Nat.le_trans hq hn)
      refine ⟨_, rfl, _, rfl, _, _, rfl, rfl, ⟨by omega, by omega⟩, _, _, rfl, rfl, 1, (n : Int) / (1 + (i : Int)) + 1, rfl, ⟨by omega, by omega, by rw [eq1]; exact bn1, by rw [eq1]; exact bn2⟩, ?_⟩
      have e1 : ((n : Int) / (1 + (i : Int)) + 1 - 1).toNat = n / (i + 1) := by rw [eq1]; exact bn3
      rw [e1]
      have lX : ∀ o, ((List.range o).foldl (upd1 (i + 1) (cnts n s0)) ((List.range i).foldl (updI n (cnts n s0)) (List.replicate (n + 1) 0))).length = n + 1 := fun o => by rw [fold_len, fold_updI]
      refine for_range (n := n / (i + 1)) (fun o σ H' => Same H H' ∧ ∃ (y6 : Option V), σ = [some (.int (n : Int)), some (.int (d : Int)), some (.ref C2), some (.int (0 + (s0 : Int))), some (.ref D), some (.int (1 + (i : Int))), y6, y7] ∧ H' C2 = some (.lst ((cnts n s0).map natV)) ∧
        H' D = some (.lst (((List.range o).foldl (upd1 (i + 1) (cnts n s0)) ((List.range i).foldl (updI n (cnts n s0)) (List.replicate (n + 1) 0))).map natV))) ⟨sm4, _, rfl, eC4, eD4⟩ ?_ ?_
      · rintro o σ H5 ho ⟨sm5, y6, rfl, eC5, eD5⟩
        have hlX := lX o
        have hfold : (List.range (o + 1)).foldl (upd1 (i + 1) (cnts n s0)) ((List.range i).foldl (updI n (cnts n s0)) (List.replicate (n + 1) 0)) = upd1 (i + 1) (cnts n s0) ((List.range o).foldl (upd1 (i + 1) (cnts n s0)) ((List.range i).foldl (updI n (cnts n s0)) (List.replicate (n + 1) 0))) o := by
          rw [List.range_succ, List.foldl_append]
          rfl
        rw [hfold]
        generalize (List.range o).foldl (upd1 (i + 1) (cnts n s0)) ((List.range i).foldl (updI n (cnts n s0)) (List.replicate (n + 1) 0)) = X at hlX eD5
        have hk : (i + 1) * (o + 1) ≤ n := Nat.le_trans (Nat.mul_le_mul_left (i + 1) ho) (Nat.mul_div_le n (i + 1))
        have ek : (1 + (i : Int)) * (1 + (o : Int)) = (((i + 1) * (o + 1) : Nat) : Int) := by
          rw [Int.natCast_mul, Int.natCast_add, Int.natCast_add, Int.add_comm 1 (i : Int), Int.add_comm 1 (o : Int)]
          rfl
        have eo : 1 + (o : Int) = ((o + 1 : Nat) : Int) := by omega
        have ho2 : o + 1 ≤ n := Nat.le_trans ho hq
        have a1 : atI (X.map natV) ((1 + (i : Int)) * (1 + (o : Int))) = some (natV (X.getD ((i + 1) * (o + 1)) 0)) := by rw [ek]; exact at_nat (by omega)
        have a2 : atI ((cnts n s0).map natV) (1 + (o : Int)) = some (natV ((cnts n s0).getD (o + 1) 0)) := by rw [eo]; exact at_nat (by omega)
        have cm : CMul (1 + (i : Int)) (1 + (o : Int)) := .inl ⟨by omega, by omega⟩
        have ix : ixN (X.map natV).length ((1 + (i : Int)) * (1 + (o : Int))) = some ((i + 1) * (o + 1)) := by
          have e : ((((i + 1) * (o + 1) : Nat) : Int)).toNat = (i + 1) * (o + 1) := rfl
          rw [ek, ixN_nat (by omega) (by rw [List.length_map, hlX]; omega), e]
        refine ⟨_, rfl, _, rfl, _, rfl, _, _, rfl, rfl, cm, D, _, _, _, rfl, rfl, SqL.of eD5, a1, _, rfl, _, rfl, C2, _, _, _, rfl, rfl, SqL.of eC5, a2, _, _, rfl, rfl, ?_⟩
        refine ⟨_, rfl, _, rfl, _, rfl, _, _, rfl, rfl, cm, D, _, _, (i + 1) * (o + 1), rfl, rfl, eD5, ix, same_upd sm5 hDn _, _, rfl, ?_, ?_⟩
        · rw [upd_ne nCD]
          exact eC5
        · rw [upd_same]
          unfold upd1
          rw [List.map_set]
          refine congrArg (fun v => some (HO.lst ((X.map natV).set ((i + 1) * (o + 1)) v))) ?_
          exact congrArg V.int (Int.natCast_add _ _).symm
      · rintro σ H5 ⟨sm5, y6, rfl, eC5, eD5⟩
        refine ⟨sm5, _, _, _, rfl, eC5, ?_⟩
        rw [List.range_succ, List.foldl_append]
        exact eD5
    · rintro σ H4 ⟨sm4, y5, y6, y7, rfl, eC4, eD4⟩
      exact ⟨_, rfl, sm4, D, _, _, _, _, _, rfl, eD4⟩
  · rintro σ H2 ⟨sm2, C2, y3, y4, y5, y6, y7, rfl, eC2⟩
    refine ⟨_, rfl, 1, rfl, C2, _, rfl, SqL.of eC2, fun p hp => ?_⟩
    have sp := same_new hp (.lst (cutV ((cnts n (d - 1)).map natV) (some 1) none))
    have ec : cutV ((cnts n (d - 1)).map natV) (some 1) none = (((cnts n (d - 1)).drop 1).map fun (n : Nat) => (n : Int)).map V.int := by
      rw [cut_one, ← natV_map, List.map_drop]
    refine ⟨p, ((cnts n (d - 1)).drop 1).map fun (n : Nat) => (n : Int), rfl, SqL.of (by rw [upd_same, ec]), ?_⟩
    rw [isum, cnts_sum]
    exact q _ (sm2.trans sp)
end
end K21
set_option Elab.async false
set_option linter.all false
set_option maxRecDepth 100000
set_option maxHeartbeats 4000000
set_option pp.maxSteps 400
set_option pp.deepTerms false
namespace K21
open PySem PySem.Spec PyProof.Rows L2 K11
/-! ### _law_size -/
def lcScope : Stmt → Scope
  | .For _ _ (.Assign _ (.ListComp _ _ sc _) _ :: _) _ _ => sc
  | _ => defScope sSize
def szOuter : Scope := lcScope ((defBody sSize).getD 2 (.Pass ⟨0, 0, 0, 0⟩))
theorem tYI {σ : L2.St} {H : Hp} {A B : Hp → Prop} (h : A H) : tYes σ H (fun b H3 => if b = true then A H3 else B H3) := (show if true = true then A H else B H from iteT h)
theorem halF_all (n : Nat) (h : n ≤ 60) : ∀ x ∈ halF 7 n, x ≤ n := fun x hx => (halF_pos 7 n x hx).2
section
variable {P : Program} {w : World} {K : PySem.W.Frag} {mg : Str → Option Value} {base : Heap}
abbrev nSize : List Str := ["leaves", "depth", "parts", "sizes", "step", "number", "row", "part"]
theorem scSize : FnScope nSize ["leaves", "depth"] (defScope sSize) := ⟨rfl, rfl, rfl, by decide +kernel, rfl, by decide +kernel, by decide +kernel⟩
def spSize : Sp := fun vs H Q _ => ∃ (n d : Nat), vs = [.int (n : Int), .int (d : Int)] ∧ n ≤ 60 ∧ d ≤ 6 ∧ ∀ H', Same H H' → Q (natV (sz d n)) H'
theorem ok_size {f g : Addr} {fd gd : FuncData} (F : Fun K "_law_size" "_law_size" sSize f fd) (GH : FnOk P w K mg base CX0 8 g gd ["number"] (spHalves 8)) (bH : Binds K gd ["number"] []) (kH : PySem.W.keepIn K (.ref g) = true) (mH : mg "_law_halves" = some (.ref g))
    (mr : mg "range" = none) (ms : mg "sum" = none) : FnOk P w K mg base CX0 9 f fd ["leaves", "depth"] spSize := by
  refine F.ok (k := 8) scSize (fun vs H Q E h => ?_) (fun cdv A outer s H vs Q E hr h => ?_)
  · obtain ⟨n, d, rfl, _⟩ := h
    rfl
  obtain ⟨n, d, rfl, hn, h6, q⟩ := h
  have nd := scSize.nd
  refine ⟨_, pss_cons (ps_setLc (i := 2) (own := [("number", 5)]) (g := gName 5) (tt := tYes) rfl nd rfl rfl (sw_true rfl rfl rfl (by decide +kernel)) (pi_range1 rfl mr (pa_cons (pe_op op_add (pv 0) pe_int) pa_nil)) (blkOk_by (N := nSize) (sc := defScope sSize) (by decide +kernel))
      (fun _ _ _ _ _ => pg_name (i := 5) nd rfl (Or.inl rfl)) (fun _ _ _ _ _ => pts_nil) (fun _ _ _ _ _ => pe_call GH hr (by rfl) mH kH bH .nil pass0 (pa_cons (pv 5) pa_nil)))
    (pss_cons (ps_set (i := 3) nd rfl (.inr rfl) (pe_lc (own := [("number", 5)]) (g := gName 5) (tt := tYes) rfl nd (pi_range1 rfl mr (pa_cons (pe_op op_add (pv 0) pe_int) pa_nil)) (blkOk_by (N := nSize) (sc := defScope sSize) (by decide +kernel))
      (fun _ _ _ _ _ => pg_name (i := 5) nd rfl (Or.inl rfl)) (fun _ _ _ _ _ => pts_nil) (fun _ _ _ _ _ => pe_int)))
    (pss_cons (ps_for PassesOwn.never rfl (pi_range1 rfl mr (pa_cons (pv 1) pa_nil)) (pg_name (i := 4) nd rfl (.inl rfl))
      (pss_one (ps_set (i := 3) nd rfl (.inr rfl) (pe_lc (own := [("row", 6)]) (g := gName 6) (tt := tYes) rfl nd (pi_list (pv 2)) (blkOk_by (N := nSize) (sc := defScope sSize) (by decide +kernel))
        (fun _ _ _ _ _ => pg_name (i := 6) nd rfl (Or.inl rfl)) (fun _ _ _ _ _ => pts_nil)
        (fun _ _ _ _ _ => pe_callB (show CallR _ (.builtin "sum") (rSum K) from cr_sum rfl) (by rfl) ms (by decide +kernel) (pa_cons (pe_lc (own := [("part", 7)]) (g := gName 7) (tt := tYes) rfl nd (show PI _ _ _ (iList K (tVar 6)) from pi_list (pv 6)) (blkOk_by (N := nSize) (sc := relS szOuter (defScope sSize)) (by decide +kernel))
          (fun _ _ _ _ _ => pg_name (i := 7) nd rfl (Or.inl rfl)) (fun _ _ _ _ _ => pts_nil)
          (fun _ _ _ _ _ => pe_ix (show IxR _ (rIxL K) from ix_list) (pv 3) (pv 7) (fun _ _ => rfl))) pa_nil))))))
    (pss_one (ps_ret (pe_ix ix_list (pv 3) (pv 0) (fun _ _ => rfl)))))), ?_⟩
  have en : ((n : Int) + 1).toNat = n + 1 := by omega
  refine ⟨_, rfl, _, _, rfl, rfl, _, rfl, by omega, by omega, fun C hC => ?_⟩
  rw [en]
  refine lc_range (n := n + 1) (fun i H' => Same H H' ∧ ∃ rs : List Addr, H' C = some (.lst (rs.map V.ref)) ∧ Paired (fun r m => H' r = some (.lst ((halF 7 m).map natV)) ∧ r ≠ C) rs (List.range i)) ⟨same_new hC _, [], upd_same, .nil⟩ ?_ ?_
  · rintro i H1 hi ⟨sm, rs, eC, pr⟩
    have lrs : rs.length = i := by rw [pr.length, List.length_range]
    refine ⟨rfl, ?_⟩
    show tCall (spHalves 8) [] E0 (tCons (tVar 5) tNil) [some (.int (n : Int)), some (.int (d : Int)), Option.none, Option.none, Option.none, some (.int (0 + (i : Int))), Option.none, Option.none] H1 _
    refine ⟨_, rfl, i, 7, congrArg (fun z => [V.int z]) (Int.zero_add _), by omega, by omega, by omega, fun p H2 s2 hp e2 => ?_⟩
    have eC2 := s2 _ _ eC
    refine ⟨_, eC2, ?_, same_upd (sm.trans s2) hC _, rs ++ [p], ?_, ?_⟩
    · rw [List.length_map, lrs]; exact lt_line (by omega)
    · rw [upd_same, List.map_append]; rfl
    · rw [List.range_succ]
      refine (L2.Paired.mapP pr fun r m e => ⟨?_, e.2⟩).snoc ⟨?_, Ne.symm (ne_of_none eC hp)⟩
      · rw [upd_ne (Ne.symm (ne_of_none eC hp))]
        exact e2
      · rw [upd_ne e.2]
        exact s2 _ _ e.1
  rintro H1 ⟨sm1, rs, eC1, pr1⟩
  have lrs : rs.length = n + 1 := by rw [pr1.length, List.length_range]
  refine ⟨_, rfl, _, _, rfl, rfl, _, rfl, by omega, by omega, fun S hS => ?_⟩
  rw [en]
  refine lc_range (n := n + 1) (fun i H' => Same H1 H' ∧ H' S = some (.lst ((List.range i).map fun m => natV (sz 0 m)))) ⟨same_new hS _, upd_same⟩ ?_ ?_
  · rintro i H2 hi ⟨sm, eS⟩
    refine ⟨rfl, ?_⟩
    show ∃ acc, H2 S = some (.lst acc) ∧ acc.length < sizeLine ∧ _
    refine ⟨_, eS, ?_, same_upd sm hS _, ?_⟩
    · rw [List.length_map, List.length_range]; exact lt_line (by omega)
    · rw [upd_same, List.range_succ, List.map_append]; rfl
  rintro H2 ⟨sm2, eS2⟩
  refine ⟨_, rfl, _, rfl, by omega, by omega, ?_⟩
  have e0 : ((d : Nat) : Int).toNat = d := rfl
  rw [e0]
  refine for_range (n := d) (fun i σ H' => Same H H' ∧ H' C = some (.lst (rs.map V.ref)) ∧ Paired (fun r m => H' r = some (.lst ((halF 7 m).map natV))) rs (List.range (n + 1)) ∧ ∃ (S : Addr) (y4 y5 y6 y7 : Option V), σ = [some (.int (n : Int)), some (.int (d : Int)), some (.ref C), some (.ref S), y4, y5, y6, y7] ∧
    H' S = some (.lst ((List.range (n + 1)).map fun m => natV (sz i m)))) ⟨sm1.trans sm2, sm2 _ _ eC1, L2.Paired.mapP pr1 fun _ _ e => sm2 _ _ e.1, S, _, _, _, _, rfl, eS2⟩ ?_ ?_
  · rintro s0 σ H3 hs0 ⟨sm3, eC3, pr3, S3, y4, y5, y6, y7, rfl, eS3⟩
    refine ⟨_, rfl, C, rfl, ⟨_, SqL.of eC3⟩, fun D hD => ?_⟩
    refine lc_list (xs := rs.map V.ref) (fun j H' => Same H3 H' ∧ H' D = some (.lst ((List.range j).map fun m => natV (sz (s0 + 1) m)))) ⟨same_new hD _, upd_same⟩ (fun j H' _ z => SqL.of (z.1 _ _ eC3)) ?_ ?_
    · rintro j x H4 hx4 ⟨s4, eD4⟩
      obtain ⟨r, hr', rfl⟩ := map_atV hx4
      obtain ⟨m, hm, er⟩ := pr_get pr3 hr'
      obtain ⟨hj, hm2⟩ := List.getElem?_eq_some_iff.mp hm
      rw [List.length_range] at hj
      rw [List.getElem_range] at hm2
      subst hm2
      have er4 := s4 _ _ er
      refine ⟨rfl, ?_⟩
      refine tYI ?_
      refine ⟨_, rfl, r, rfl, ⟨_, SqL.of er4⟩, fun E hE => ?_⟩
      refine lc_list (xs := (halF 7 j).map natV) (fun k H' => Same H4 H' ∧ H' E = some (.lst (((halF 7 j).take k).map fun x => natV (sz s0 x)))) ⟨same_new hE _, upd_same⟩ (fun k H' _ z => SqL.of (z.1 _ _ er4)) ?_ ?_
      · rintro k y H5 hy5 ⟨s5, eE5⟩
        obtain ⟨x, hx', rfl⟩ := map_atV hy5
        have hxj := (halF_pos 7 j x (List.mem_of_getElem? hx')).2
        have eS5 := s5 _ _ (s4 _ _ eS3)
        refine ⟨rfl, ?_⟩
        refine tYI ?_
        refine ⟨_, rfl, _, rfl, S3, _, _, natV (sz s0 x), rfl, rfl, SqL.of eS5, ?_, _, eE5, ?_, same_upd s5 hE _, ?_⟩
        · have := at_range (n := n + 1) (k := x) (f := fun m => natV (sz s0 m)) (by omega)
          rw [Int.zero_add] at this
          exact this
        · rw [List.length_map, List.length_take, halF_len 7 j (by omega)]
          exact lt_line (by omega)
        · rw [upd_same, tk1 hx', List.map_append]
          rfl
      · rintro H5 ⟨s5, eE5⟩
        rw [List.length_map, List.take_length] at eE5
        refine ⟨E, ((halF 7 j).map (sz s0)).map (fun (m : Nat) => (m : Int)), rfl, SqL.of (by rw [eE5, List.map_map, List.map_map]; rfl), _, s5 _ _ eD4, ?_, same_upd (s4.trans s5) hD _, ?_⟩
        · rw [List.length_map, List.length_range]; exact lt_line (by omega)
        · rw [upd_same, List.range_succ, List.map_append, isum]
          rfl
    · rintro H4 ⟨s4, eD4⟩
      rw [List.length_map, lrs] at eD4
      exact ⟨sm3.trans s4, s4 _ _ eC3, L2.Paired.mapP pr3 fun _ _ e => s4 _ _ e, D, _, _, _, _, rfl, eD4⟩
  · rintro σ H3 ⟨sm3, eC3, pr3, S3, y4, y5, y6, y7, rfl, eS3⟩
    refine ⟨_, rfl, _, rfl, S3, _, _, natV (sz d n), rfl, rfl, SqL.of eS3, ?_, q H3 sm3⟩
    have := at_range (n := n + 1) (k := n) (f := fun m => natV (sz d m)) (by omega)
    rw [Int.zero_add] at this
    exact this
end
end K21
set_option Elab.async false
set_option linter.all false
set_option maxRecDepth 100000
set_option maxHeartbeats 4000000
set_option pp.maxSteps 400
set_option pp.deepTerms false
namespace K21
open PySem PySem.Spec PyProof.Rows L2 K11
/-! ### _law_capacity -/
theorem low_one (k : Nat) : lowN 0 k = k := rfl
theorem pow_small {d k L : Nat} (h2 : 2 ≤ d) (h3 : d ≤ 3) (hk : k ≤ 17) (hL : L ≤ 16) (h : k = 0 ∨ lowN (d - 1) k ≤ L) : d ^ k ≤ 500 := by
  rcases h with rfl | h
  · exact Nat.le_trans (Nat.le_of_eq (Nat.pow_zero d)) (by decide)
  have hc : d = 2 ∨ d = 3 := by omega
  rcases hc with rfl | rfl
  · have := low_small2 hk (Nat.le_trans h hL)
    exact Nat.le_trans (Nat.pow_le_pow_right (by decide) this) (by decide)
  · have := low_small3 hk (Nat.le_trans h hL)
    exact Nat.le_trans (Nat.pow_le_pow_right (by decide) this) (by decide)
section
variable {P : Program} {w : World} {K : PySem.W.Frag} {mg : Str → Option Value} {base : Heap}
theorem scCap : FnScope ["tree", "depth", "leaves"] ["tree", "depth"] (defScope sCap) := ⟨rfl, rfl, rfl, by decide +kernel, rfl, by decide +kernel, by decide +kernel⟩
def spCap : Sp := fun vs H Q _ => ∃ (v : V) (d m : Nat) (b : Tr), vs = [v, .int (d : Int)] ∧ TA m H v b ∧ lv m b ≤ 16 ∧ 1 ≤ d ∧ d ≤ 3 ∧
  ∀ (k : Nat) H', Same H H' → k ≤ 17 → (k = 0 ∨ lowN (d - 1) k ≤ lv m b) → Q (.int (k : Int)) H'
theorem ok_cap {f g : Addr} {fd gd : FuncData} (F : Fun K "_law_capacity" "_law_capacity" sCap f fd)
    (G : FnOk P w K mg base CX0 6 g gd ["tree", "leaves", "depth"] spFirst) (bG : Binds K gd ["tree", "leaves", "depth"] []) (kG : PySem.W.keepIn K (.ref g) = true) (mG : mg "_law_first_missing" = some (.ref g))
    (ml : mg "len" = none) (mr : mg "range" = none) : FnOk P w K mg base CX0 7 f fd ["tree", "depth"] spCap := by
  refine F.ok (k := 6) scCap (fun vs H Q E h => ?_) (fun cdv A outer s H vs Q E hr h => ?_)
  · obtain ⟨v, d, m, b, rfl, _⟩ := h
    rfl
  obtain ⟨v, d, m, b, rfl, hT, hl, h1, h3, q⟩ := h
  have nd := scCap.nd
  refine ⟨_, pss_cons (ps_for PassesOwn.never rfl (pi_range2 rfl mr (pa_cons pe_int (pa_cons pe_int pa_nil))) (pg_name (i := 2) nd rfl (.inl rfl))
      (C8.pss_cut (ps_if (PW.pt (pw_and (pt_cmpR op_gt (pv 1) pe_int (nomark _)) (pw_and1 (pt_cmp (pc_notN (pe_call G hr (by rfl) mG kG bG .nil pass0 (pa_cons (pv 0) (pa_cons (pv 2) (pa_cons (pv 1) pa_nil))))))))) (pss_one (ps_ret (pe_op op_sub (pv 2) pe_int))) pss_nil)
      (pss_one (ps_if (PW.pt (pw_and (pt_cmpR op_eq (pv 1) pe_int (nomark _)) (pw_and1 (pt_cmpR op_lt (pe_callB call_len_seq (by rfl) ml PySem.boot_len (pa_cons (pv 0) pa_nil)) (pv 2) (nomark _))))) (pss_one (ps_ret (pe_op op_sub (pv 2) pe_int))) pss_nil))))
    (pss_one (ps_ret pe_int)), ?_⟩
  obtain ⟨a, vs, ev, ea, hlen⟩ := hT.tup
  have hk := (lv_kids hT.hb).1
  refine ⟨1, 18, rfl, ⟨by omega, by omega, by omega, by omega⟩, ?_⟩
  refine for_range (n := 17) (fun k σ H' => Same H H' ∧ (k = 0 ∨ lowN (d - 1) k ≤ lv m b) ∧ ∃ y2 : Option V, σ = [some v, some (.int (d : Int)), y2]) ⟨.refl _, .inl rfl, Option.none, rfl⟩ ?_ ?_
  · rintro k σ H1 hk17 ⟨sm, inv, y2, rfl⟩
    have ek : (1 + (k : Int)) - 1 = (k : Int) := by omega
    have ret : ∀ H2, Same H H2 → Q (.int ((1 + (k : Int)) - 1)) H2 := fun H2 s2 => by
      rw [ek]
      exact q k H2 s2 (by omega) inv
    refine ⟨fun σ' H' => Same H H' ∧ σ' = [some v, some (.int (d : Int)), some (.int (1 + (k : Int)))] ∧ (2 ≤ d → lowN (d - 1) (k + 1) ≤ lv m b), ?_, ?_⟩
    · refine ⟨_, rfl, _, _, rfl, rfl, _, rfl, ite2 (fun z => ?_) (fun z => ?_)⟩
      · have z' : (1 : Int) < (d : Int) := of_decide_eq_true z
        have h2 : 2 ≤ d := by omega
        have e1 : 1 + (k : Int) = ((k + 1 : Nat) : Int) := by omega
        refine ⟨_, rfl, _, rfl, _, rfl, v, k, d, m, b, congrArg (fun z => [v, V.int z, V.int (d : Int)]) e1, hT.same sm, by omega, h1, h3, pow_small h2 h3 (by omega) hl inv, by omega, fun H2 s2 hall => ?_, fun r H2 s2 => ?_⟩
        · refine ⟨_, rfl, iteF ⟨sm.trans s2, rfl, fun _ => ?_⟩⟩
          obtain ⟨e, rfl⟩ : ∃ e, d = e + 1 := ⟨d - 1, by omega⟩
          exact leaves_of hT.hb hall
        · exact ⟨_, rfl, iteT ⟨_, rfl, _, _, rfl, rfl, ret H2 (sm.trans s2)⟩⟩
      · have z' : ¬ (1 : Int) < (d : Int) := fun y => z (decide_eq_true y)
        exact ⟨sm, rfl, fun y => absurd y (by omega)⟩
    rintro σ' H2 ⟨sm2, rfl, got⟩
    refine ⟨_, rfl, rfl, _, rfl, ite2 (fun z => ?_) (fun z => ?_)⟩
    · have z' : (d : Int) = 1 := V.int.inj (of_decide_eq_true z)
      refine ⟨_, rfl, a, _, congrArg (fun z => [z]) ev, .inr (.inl (.inl (sm2 _ _ ea))), _, rfl, _, _, rfl, rfl, _, rfl, ite2 (fun y => ?_) (fun y => ?_)⟩
      · exact ⟨_, rfl, _, _, rfl, rfl, ret H2 sm2⟩
      · have y' : ¬ (vs.length : Int) < 1 + (k : Int) := fun x => y (decide_eq_true x)
        refine ⟨sm2, .inr ?_, _, rfl⟩
        have hd : d - 1 = 0 := by omega
        rw [hd, low_one]
        omega
    · have z' : ¬ (d : Int) = 1 := fun y => z (decide_eq_true (congrArg V.int y))
      exact ⟨sm2, .inr (got (by omega)), _, rfl⟩
  · rintro σ H1 ⟨sm, inv, y2, rfl⟩
    exact q 17 H1 sm (Nat.le_refl _) inv
end
end K21
set_option Elab.async false
set_option linter.all false
set_option maxRecDepth 100000
set_option maxHeartbeats 4000000
set_option pp.maxSteps 400
set_option pp.deepTerms false
namespace K21
open PySem PySem.Spec PyProof.Rows L2 K11
/-! ### _law_drawn -/
theorem step_sum {d : Int} : ∀ (r : List Int) (st : List (List Int) × List Int), ((r.foldl (stepP d) st).1.map fun p => p.length + 1).sum + (r.foldl (stepP d) st).2.length = (st.1.map fun p => p.length + 1).sum + st.2.length + r.length
  | [], st => rfl
  | x :: r, st => by
    rw [List.foldl_cons, step_sum r, List.length_cons]
    unfold stepP
    by_cases h : x = d
    · rw [if_pos h]
      simp
      omega
    · rw [if_neg h]
      simp
      omega
theorem parts_sum (d : Int) (row : List Int) : ((partsOf d row).map fun p => p.length + 1).sum = row.length + 1 := by
  have h := step_sum (d := d) row ([], [])
  unfold partsOf
  rw [List.map_append, List.sum_append]
  simp at h ⊢
  omega
theorem lv_tree : ∀ (d : Nat) (row : List Int), lv d (treeOf d row) ≤ row.length + 1
  | 0, _ => by unfold lv; omega
  | d + 1, row => by
    unfold lv
    by_cases hts : (treeOf (d + 1) row).kids = []
    · rw [if_pos hts]; omega
    · rw [if_neg hts]
      show (((partsOf ((d + 1 : Nat) : Int) row).map (treeOf d)).map (lv d)).sum ≤ row.length + 1
      rw [List.map_map, ← parts_sum ((d + 1 : Nat) : Int) row]
      exact sum_le_sum _ _ _ fun p _ => lv_tree d p
theorem cut16 (xs : List V) : cutV xs none (some 16) = xs.take 16 := by
  unfold cutV
  have e1 : HT.sIx xs.length xs.length (some 16) = min 16 xs.length := HT.sIx_nat xs.length xs.length 16
  rw [e1, HT.sIx_none, List.drop_zero, Nat.sub_zero]
  by_cases h : 16 ≤ xs.length
  · rw [Nat.min_eq_left h]
  · rw [Nat.min_eq_right (by omega), List.take_length, List.take_of_length_le (by omega)]
theorem small_sz {e n : Nat} (he : e < 3) (h : (e = 0 ∧ n ≤ 16) ∨ (e = 1 ∧ n ≤ 6) ∨ (e = 2 ∧ n ≤ 4)) : sz (e + 1) n ≤ 16 := by
  have t1 : (allN 17 fun n => decide (ts 1 n ≤ 16)) = true := by decide +kernel
  have t2 : (allN 7 fun n => decide (ts 2 n ≤ 16)) = true := by decide +kernel
  have t3 : (allN 5 fun n => decide (ts 3 n ≤ 16)) = true := by decide +kernel
  rw [sz_tab (e + 1) (by omega) n (by omega)]
  rcases h with ⟨rfl, h⟩ | ⟨rfl, h⟩ | ⟨rfl, h⟩
  · exact of_decide_eq_true (allN_of t1 (show n < 17 by omega))
  · exact of_decide_eq_true (allN_of t2 (show n < 7 by omega))
  · exact of_decide_eq_true (allN_of t3 (show n < 5 by omega))
def rLen (K : PySem.W.Frag) : List V → Hp → VK → Prop := fun xs H Q => ∃ p ys, xs = [.ref p] ∧ (SqL K H p ys ∨ SqT K H p ys) ∧ Q (.int ys.length) H
section
variable {P : Program} {w : World} {K : PySem.W.Frag} {mg : Str → Option Value} {base : Heap}
abbrev nDrawn : List Str := ["script", "head", "depth", "row", "paths", "k", "path"]
theorem scDrawn : FnScope nDrawn ["script"] (defScope sDrawn) := ⟨rfl, rfl, rfl, by decide +kernel, rfl, by decide +kernel, by decide +kernel⟩
def spDrawn (K : PySem.W.Frag) : Sp := fun vs H Q _ => ∃ (a : Addr) (ns : List Int), vs = [.ref a] ∧ SqL K H a (ns.map V.int) ∧ ns.length ≤ 63 ∧
  ∀ (L r : Addr) (d : Nat) (t : Tr) H', Same H H' → H' L = some (.lst [.int (d : Int), .ref r]) → TA 5 H' (.ref r) t → lv 5 t ≤ 16 → 1 ≤ d → d ≤ 3 → Q (.ref L) H'
theorem ok_drawn {f fC fD fU fE fP fT fR fF : Addr} {fd dC dD dU dE dP dT dR dF : FuncData} (F : Fun K "_law_drawn" "_law_drawn" sDrawn f fd)
    (GC : FnOk P w K mg base CX0 1 fC dC ["script", "k"] (spCell K)) (bC : Binds K dC ["script", "k"] []) (kC : PySem.W.keepIn K (.ref fC) = true) (mC : mg "_law_cell" = some (.ref fC))
    (GD : FnOk P w K mg base CX0 1 fD dD ["cell", "sizes"] (spDigits K)) (bD : Binds K dD ["cell", "sizes"] []) (kD : PySem.W.keepIn K (.ref fD) = true) (mD : mg "_law_digits" = some (.ref fD))
    (GU : FnOk P w K mg base CX0 12 fU dU ["leaves", "depth"] (spURow 4)) (bU : Binds K dU ["leaves", "depth"] []) (kU : PySem.W.keepIn K (.ref fU) = true) (mU : mg "_law_universal_row" = some (.ref fU))
    (GE : FnOk P w K mg base CX0 1 fE dE ["row", "depth", "digits", "many"] (spEdited K)) (bE : Binds K dE ["row", "depth", "digits", "many"] []) (kE : PySem.W.keepIn K (.ref fE) = true) (mE : mg "_law_edited" = some (.ref fE))
    (GP : FnOk P w K mg base CX0 4 fP dP ["tree"] (spPaths 4)) (bP : Binds K dP ["tree"] []) (kP : PySem.W.keepIn K (.ref fP) = true) (mP : mg "_law_paths" = some (.ref fP))
    (GT : FnOk P w K mg base CX0 4 fT dT ["row", "depth"] (spTreeL K 4)) (bT : Binds K dT ["row", "depth"] []) (kT : PySem.W.keepIn K (.ref fT) = true) (mT : mg "_law_tree" = some (.ref fT))
    (GR : FnOk P w K mg base CX0 1 fR dR ["paths", "digits"] (spRough K)) (bR : Binds K dR ["paths", "digits"] []) (kR : PySem.W.keepIn K (.ref fR) = true) (mR : mg "_law_rough" = some (.ref fR))
    (GF : FnOk P w K mg base CX0 6 fF dF ["paths"] (spFrom 6)) (bF : Binds K dF ["paths"] []) (kF : PySem.W.keepIn K (.ref fF) = true) (mF : mg "_law_from_paths" = some (.ref fF))
    (ml : mg "len" = none) (mr : mg "range" = none) (mi : mg "int" = none) : FnOk P w K mg base CX0 13 f fd ["script"] (spDrawn K) := by
  refine F.ok (k := 12) scDrawn (fun vs H Q E h => ?_) (fun cdv A outer s H vs Q E hr h => ?_)
  · obtain ⟨a, ns, rfl, _⟩ := h
    rfl
  obtain ⟨a, ns, rfl, hS, hl, q⟩ := h
  have nd := scDrawn.nd
  refine ⟨_, pss_cons (ps_set (i := 1) nd rfl (.inl rfl) (pe_call GD (hr.mono (by decide)) (by rfl) mD kD bD .nil pass0 (pa_cons (pe_call GC (hr.mono (by decide)) (by rfl) mC kC bC .nil pass0 (pa_cons (pv 0) (pa_cons pe_int pa_nil)))
      (pa_cons (pe_lst (pa_cons pe_int (pa_cons pe_int (pa_cons pe_int (pa_cons pe_int (pa_cons pe_int pa_nil)))))) pa_nil))))
    (C8.pss_cut (ps_set (i := 2) nd rfl (.inl rfl) (pe_op op_add pe_int (pe_ix ix_list (pv 1) pe_int (fun _ _ => rfl))))
    (pss_cons (ps_set (i := 3) nd rfl (.inr rfl) (pe_call GU hr (by rfl) mU kU bU .nil pass0 (pa_cons (pe_op op_add pe_int (pe_op op_mod (pe_callTy call_int1 (by rfl) mi PyProof.Rows.boot_int (pa_cons (pe_ix ix_list (pv 1) pe_int (fun _ _ => rfl)) pa_nil))
      (pe_ix ix_list (pe_lst (pa_cons pe_int (pa_cons pe_int (pa_cons pe_int pa_nil)))) (pe_ix ix_list (pv 1) pe_int (fun _ _ => rfl)) (fun _ _ => rfl)))) (pa_cons (pv 2) pa_nil))))
    (C8.pss_cut (ps_if (pt_cmpR op_eq (pe_ix ix_list (pv 1) pe_int (fun _ _ => rfl)) pe_int (nomark _))
      (pss_one (ps_set (i := 3) nd rfl (.inr rfl) (pe_lc (own := [("k", 5)]) (g := gName 5) (tt := tYes) rfl nd (pi_range1 rfl mr (pa_cons (pe_callB call_len_seq (by rfl) ml PySem.boot_len (pa_cons (pv 3) pa_nil)) pa_nil)) (blkOk_by (N := nDrawn) (sc := defScope sDrawn) (by decide +kernel))
        (fun _ _ _ _ _ => pg_name (i := 5) nd rfl (Or.inl rfl)) (fun _ _ _ _ _ => pts_nil)
        (fun _ _ _ _ _ => pe_ix (show IxR _ (rIxL K) from ix_list) (pv 3) (pe_op op_sub (pe_op op_sub (pe_callB (show CallR _ (.builtin "len") (rLen K) from call_len_seq) (by rfl) ml PySem.boot_len (pa_cons (pv 3) pa_nil)) pe_int) (pv 5)) (fun _ _ => rfl))))) pss_nil)
    (pss_cons (ps_set (i := 3) nd rfl (.inr rfl) (pe_call GE (hr.mono (by decide)) (by rfl) mE kE bE .nil pass0 (pa_cons (pv 3) (pa_cons (pv 2) (pa_cons (pe_call GD (hr.mono (by decide)) (by rfl) mD kD bD .nil pass0 (pa_cons (pe_call GC (hr.mono (by decide)) (by rfl) mC kC bC .nil pass0 (pa_cons (pv 0) (pa_cons pe_int pa_nil)))
      (pa_cons (pe_lst (pa_cons pe_int (pa_cons pe_int (pa_cons pe_int (pa_cons pe_int (pa_cons pe_int (pa_cons pe_int (pa_cons pe_int (pa_cons pe_int (pa_cons pe_int pa_nil)))))))))) pa_nil))) (pa_cons (pe_ix ix_list (pv 1) pe_int (fun _ _ => rfl)) pa_nil))))))
    (pss_cons (ps_set (i := 4) nd rfl (.inl rfl) (pe_call GP (hr.mono (by decide)) (by rfl) mP kP bP .nil pass0 (pa_cons (pe_call GT (hr.mono (by decide)) (by rfl) mT kT bT .nil pass0 (pa_cons (pv 3) (pa_cons (pv 2) pa_nil))) pa_nil)))
    (C8.pss_cut (ps_if (pt_cmpR op_eq (pe_ix ix_list (pv 1) pe_int (fun _ _ => rfl)) pe_int (nomark _))
      (pss_one (ps_set (i := 4) nd rfl (.inl rfl) (pe_call GR (hr.mono (by decide)) (by rfl) mR kR bR .nil pass0 (pa_cons (pv 4) (pa_cons (pe_call GD (hr.mono (by decide)) (by rfl) mD kD bD .nil pass0 (pa_cons (pe_call GC (hr.mono (by decide)) (by rfl) mC kC bC .nil pass0 (pa_cons (pv 0) (pa_cons pe_int pa_nil)))
        (pa_cons (pe_lc (own := [("path", 6)]) (g := gName 6) (tt := tYes) rfl nd (pi_list (pv 4)) (blkOk_by (N := nDrawn) (sc := defScope sDrawn) (by decide +kernel)) (fun _ _ _ _ _ => pg_name (i := 6) nd rfl (Or.inl rfl)) (fun _ _ _ _ _ => pts_nil) (fun _ _ _ _ _ => pe_int)) pa_nil))) pa_nil))))) pss_nil)
    (pss_one (ps_ret (pe_lst (pa_cons (pv 2) (pa_cons (pe_call GF (hr.mono (by decide)) (by rfl) mF kF bF .nil pass0 (pa_cons (pe_slice sl_list (pv 4) po_none (po_some pe_int)) pa_nil)) pa_nil))))))))))), ?_⟩
  refine ⟨_, rfl, a, ns, 1, rfl, hS, hl, by omega, fun z => ⟨five_le, fun l hl' => ?_⟩⟩
  have s1 : Same H (upd H l (.lst (([3, 48, 3, 4, 3] : List Int).map V.int))) := same_new hl' _
  refine ⟨z, l, [3, 48, 3, 4, 3], rfl, SqL.of upd_same, by decide, by decide, fun p ds H1 s2 ep hd => ?_⟩
  obtain ⟨d0, r0, rfl, b0, hd⟩ := hd.cons
  obtain ⟨d1, r1, rfl, b1, hd⟩ := hd.cons
  obtain ⟨d2, r2, rfl, b2, hd⟩ := hd.cons
  obtain ⟨d3, r3, rfl, b3, hd⟩ := hd.cons
  obtain ⟨d4, r4, rfl, b4, hd⟩ := hd.cons
  cases hd.nil
  obtain ⟨e, rfl⟩ : ∃ e : Nat, d0 = (e : Int) := ⟨d0.toNat, by omega⟩
  obtain ⟨m3, rfl⟩ : ∃ m3 : Nat, d3 = (m3 : Int) := ⟨d3.toNat, by omega⟩
  have he : e < 3 := by omega
  have sA := s1.trans s2
  have ed : (1 : Int) + (e : Int) = ((e + 1 : Nat) : Int) := by omega
  refine ⟨fun σ' H' => H' = H1 ∧ σ' = [some (.ref a), some (.ref p), some (.int ((e + 1 : Nat) : Int)), Option.none, Option.none, Option.none, Option.none], ?_, ?_⟩
  · exact ⟨_, rfl, p, _, 0, .int (e : Int), rfl, rfl, SqL.of ep, atI_nat (j := 0) rfl, _, _, rfl, rfl, rfl, congrArg (fun z : Int => ([some (V.ref a), some (V.ref p), some (V.int z), Option.none, Option.none, Option.none, Option.none] : L2.St)) ed⟩
  rintro σ' H1' ⟨rfl, rfl⟩
  obtain ⟨M, hM, hM1, hM2⟩ : ∃ M : Int, atI [V.int 16, V.int 6, V.int 4] (e : Int) = some (.int M) ∧ (0 < M ∧ M ≤ 16) ∧ ∀ n : Nat, (n : Int) ≤ M → sz (e + 1) n ≤ 16 := by
    have hc : e = 0 ∨ e = 1 ∨ e = 2 := by omega
    rcases hc with rfl | rfl | rfl
    · exact ⟨16, atI_nat (j := 0) rfl, by decide, fun n hn => small_sz he (.inl ⟨rfl, by omega⟩)⟩
    · exact ⟨6, atI_nat (j := 1) rfl, by decide, fun n hn => small_sz he (.inr (.inl ⟨rfl, by omega⟩))⟩
    · exact ⟨4, atI_nat (j := 2) rfl, by decide, fun n hn => small_sz he (.inr (.inr ⟨rfl, by omega⟩))⟩
  have v0 := Int.emod_nonneg d1 (show M ≠ 0 by omega)
  have v1 := Int.emod_lt_of_pos d1 hM1.1
  obtain ⟨n, hn⟩ : ∃ n : Nat, 1 + d1 % M = (n : Int) := ⟨(1 + d1 % M).toNat, by omega⟩
  have hsz := hM2 n (by omega)
  refine ⟨_, rfl, p, _, 1, .int d1, rfl, rfl, SqL.of ep, atI_nat (j := 1) rfl, .inl ⟨_, rfl, three_le, fun l3 hl3 => ?_⟩⟩
  have s3 := same_new hl3 (.lst [V.int 16, V.int 6, V.int 4])
  refine ⟨_, rfl, p, _, 0, .int (e : Int), rfl, rfl, SqL.of (s3 _ _ ep), atI_nat (j := 0) rfl, l3, _, (e : Int), .int M, rfl, rfl, SqL.of upd_same, hM, _, _, rfl, rfl, hM1.1, _, _, rfl, rfl, _, rfl, n, e + 1, congrArg (fun z => [V.int z, V.int ((e + 1 : Nat) : Int)]) hn, by omega, by omega, by omega, by omega, fun p3 row H3 s4 _ e3 hx3 hl3' => ?_⟩
  have sB := sA.trans (s3.trans s4)
  have ep3 := s4 _ _ (s3 _ _ ep)
  refine ⟨fun σ' H' => Same H H' ∧ ∃ (r : Addr) (row : List Int), σ' = [some (.ref a), some (.ref p), some (.int ((e + 1 : Nat) : Int)), some (.ref r), Option.none, Option.none, Option.none] ∧ H' p = some (.lst (([(e : Int), d1, d2, (m3 : Int), d4] : List Int).map V.int)) ∧ H' r = some (.lst (row.map V.int)) ∧
    (∀ x ∈ row, 1 ≤ x ∧ x ≤ ((e + 1 : Nat) : Int)) ∧ row.length ≤ 15, ?_, ?_⟩
  · refine ⟨_, rfl, p, _, 2, .int d2, rfl, rfl, SqL.of ep3, atI_nat (j := 2) rfl, rfl, _, rfl, ite2 (fun _ => ?_) (fun _ => ?_)⟩
    · have eml : (row.map V.int).length = row.length := List.length_map _
      refine ⟨_, rfl, p3, _, rfl, .inl (SqL.of e3), _, rfl, by omega, by omega, fun D hD => ?_⟩
      have e0 : ((((row.map V.int).length : Nat) : Int)).toNat = row.length := by rw [eml]; rfl
      rw [e0]
      refine lc_range (n := row.length) (fun k H' => Same H3 H' ∧ ∃ out : List Int, H' D = some (.lst (out.map V.int)) ∧ out.length = k ∧ ∀ x ∈ out, 1 ≤ x ∧ x ≤ ((e + 1 : Nat) : Int)) ⟨same_new hD _, [], upd_same, rfl, fun x hx => nomatch hx⟩ ?_ ?_
      · rintro k H4 hk ⟨s5, out, eD, lo, hxo⟩
        obtain ⟨i, ai, hi⟩ := idx_int (ns := row) (d := ((row.map V.int).length : Int) - 1 - (0 + (k : Int))) (by rw [eml]; omega) (by rw [eml]; omega)
        refine ⟨rfl, ?_⟩
        refine tYI ?_
        refine ⟨_, rfl, _, rfl, p3, _, rfl, .inl (SqL.of (s5 _ _ e3)), _, _, rfl, rfl, _, rfl, _, _, rfl, rfl, p3, _, _, _, rfl, rfl, SqL.of (s5 _ _ e3), ai, _, eD, ?_, same_upd s5 hD _, out ++ [i], ?_, ?_, ?_⟩
        · rw [List.length_map, lo]; exact lt_line (by omega)
        · rw [upd_same, List.map_append]; rfl
        · rw [List.length_append, lo]; rfl
        · exact mem_snoc hxo (hx3 i hi)
      · rintro H4 ⟨s5, out, eD, lo, hxo⟩
        exact ⟨sB.trans s5, D, out, rfl, s5 _ _ ep3, eD, hxo, by omega⟩
    · exact ⟨sB, p3, row, rfl, ep3, e3, hx3, by omega⟩
  clear hl3' hx3 e3 ep3 sB s4 s3 hl3
  rintro σ' H4 ⟨sC, r, row, rfl, ep4, er4, hx4, hl4⟩
  refine ⟨_, rfl, _, rfl, _, rfl, a, ns, 2, rfl, sC.seq hS, hl, by omega, fun z2 => ⟨nine_le, fun l2 hl2 => ?_⟩⟩
  have s5 : Same H4 (upd H4 l2 (.lst (([3, 64, 3, 3, 64, 3, 3, 64, 3] : List Int).map V.int))) := same_new hl2 _
  refine ⟨z2, l2, [3, 64, 3, 3, 64, 3, 3, 64, 3], rfl, SqL.of upd_same, by decide, by decide, fun p5 ds5 H5 s6 ep5 hd5 => ?_⟩
  have s56 := s5.trans s6
  have ep6 := s56 _ _ ep4
  refine ⟨_, rfl, p, _, 3, .int (m3 : Int), rfl, rfl, SqL.of ep6, atI_nat (j := 3) rfl, r, p5, row, ds5, e + 1, m3, rfl, SqL.of (s56 _ _ er4), SqL.of ep5, by omega, hd5.len, by omega, by omega, hx4, fun p6 out H6 s7 e6 hx6 hl6 => ?_⟩
  have ep7 := s7 _ _ ep6
  have sD := sC.trans (s56.trans s7)
  refine ⟨_, rfl, _, rfl, p6, out, e + 1, rfl, SqL.of e6, by omega, by omega, fun t7 H7 s8 hT7 => ?_⟩
  have hlv := lv_tree (e + 1) out
  refine ⟨.ref t7, e + 1, treeOf (e + 1) out, rfl, hT7, by omega, by omega, by omega, fun p8 ps8 H8 s9 _ hP8 hl8 hx8 => ?_⟩
  have ep8 := s9 _ _ (s8 _ _ ep7)
  have sE := sD.trans (s8.trans s9)
  refine ⟨fun σ' H' => Same H H' ∧ ∃ (p9 : Addr) (ps9 : List (List Int)), σ' = [some (.ref a), some (.ref p), some (.int ((e + 1 : Nat) : Int)), some (.ref p6), some (.ref p9), Option.none, Option.none] ∧ PathsAt H' p9 ps9 ∧ ∀ x ∈ ps9, x.length ≤ 5, ?_, ?_⟩
  · refine ⟨_, rfl, p, _, 4, .int d4, rfl, rfl, SqL.of ep8, atI_nat (j := 4) rfl, rfl, _, rfl, ite2 (fun _ => ?_) (fun _ => ?_)⟩
    · obtain ⟨rs8, er8, pa8⟩ := id hP8
      have lr8 : rs8.length = ps8.length := pa8.length
      refine ⟨_, rfl, _, rfl, a, ns, 3, rfl, sE.seq hS, hl, by omega, fun z3 => ⟨_, rfl, p8, rfl, ⟨_, SqL.of er8⟩, fun D hD => ?_⟩⟩
      refine lc_list (xs := rs8.map V.ref) (fun k H' => Same H8 H' ∧ H' D = some (.lst ((List.replicate k (12 : Int)).map V.int))) ⟨same_new hD _, upd_same⟩ (fun k H' _ z => SqL.of (z.1 _ _ er8)) ?_ ?_
      · rintro k x H9 hx9 ⟨s10, eD⟩
        have hk : k < rs8.length := by
          have := (List.getElem?_eq_some_iff.mp hx9).1
          rw [List.length_map] at this
          exact this
        refine ⟨rfl, ?_⟩
        show ∃ acc, H9 D = some (.lst acc) ∧ acc.length < sizeLine ∧ _
        refine ⟨_, eD, ?_, same_upd s10 hD _, ?_⟩
        · rw [List.length_map, List.length_replicate]; exact lt_line (by omega)
        · rw [upd_same, List.replicate_succ', List.map_append]; rfl
      · rintro H9 ⟨s10, eD⟩
        rw [List.length_map, lr8] at eD
        refine ⟨z3, D, List.replicate ps8.length 12, rfl, SqL.of eD, by rw [List.length_replicate]; omega, fun x hx => ?_, fun p11 ds11 H11 s11 e11 hd11 => ?_⟩
        · have e : x = 12 := List.eq_of_mem_replicate hx
          rw [e]; decide
        · have l11 := hd11.len
          rw [List.length_replicate] at l11
          refine ⟨p8, p11, ps8, ds11, e + 1, rfl, (hP8.same s10).same s11, SqL.of e11, by omega, by omega, hx8, by omega, fun o qs H12 s12 hP12 _ hx12 => ?_⟩
          exact ⟨sE.trans (s10.trans (s11.trans s12)), o, qs, rfl, hP12, fun x hx => by have := hx12 x hx; omega⟩
    · exact ⟨sE, p8, ps8, rfl, hP8, fun x hx => by have := hx8 x hx; omega⟩
  rintro σ' H9 ⟨sF, p9, ps9, rfl, ⟨rs9, er9, pa9⟩, hx9⟩
  refine ⟨_, rfl, _, rfl, 16, rfl, p9, _, rfl, SqL.of er9, fun p10 hp10 => ?_⟩
  have s10 := same_new hp10 (.lst (cutV (rs9.map V.ref) none (some 16)))
  refine ⟨p10, ps9.take 16, 5, rfl, ⟨rs9.take 16, ?_, PA.same (pr_take 16 pa9) s10⟩, ?_, fun x hx => hx9 x (List.mem_of_mem_take hx), by omega, by omega, fun r11 t11 H11 s11 hT11 hl11 => ?_⟩
  · rw [upd_same, cut16, List.map_take]
  · rw [List.length_take]; omega
  rw [List.length_take] at hl11
  refine ⟨two_le, fun L hL => ?_⟩
  have s12 := same_new hL (.lst [.int ((e + 1 : Nat) : Int), .ref r11])
  exact q L r11 (e + 1) t11 _ (sF.trans (s10.trans (s11.trans s12))) upd_same (hT11.same s12) (by omega) (by omega) (by omega)
end
end K21
set_option Elab.async false
set_option linter.all false
set_option maxRecDepth 100000
set_option maxHeartbeats 4000000
set_option pp.maxSteps 400
set_option pp.deepTerms false
namespace K21
open PySem PySem.Spec PyProof.Rows L2 K11
/-! ### law -/
section
variable {P : Program} {w : World} {K : PySem.W.Frag} {mg : Str → Option Value} {base : Heap}
theorem scLaw : FnScope ["script", "head", "leaves", "depth", "pair", "told", "drawn", "most"] ["script"] (defScope sLaw) := ⟨rfl, rfl, rfl, by decide +kernel, rfl, by decide +kernel, by decide +kernel⟩
def spLaw (K : PySem.W.Frag) : Sp := fun vs H Q _ => ∃ (a : Addr) (ns : List Int), vs = [.ref a] ∧ SqL K H a (ns.map V.int) ∧ ns.length ≤ 63 ∧ ∀ H', Q (.bl true) H'
theorem ok_law {f fC fD fL fW fR fS fN fA fP : Addr} {fd dC dD dL dW dR dS dN dA dP : FuncData} (F : Fun K "law" "law" sLaw f fd)
    (GC : FnOk P w K mg base CX0 1 fC dC ["script", "k"] (spCell K)) (bC : Binds K dC ["script", "k"] []) (kC : PySem.W.keepIn K (.ref fC) = true) (mC : mg "_law_cell" = some (.ref fC))
    (GD : FnOk P w K mg base CX0 1 fD dD ["cell", "sizes"] (spDigits K)) (bD : Binds K dD ["cell", "sizes"] []) (kD : PySem.W.keepIn K (.ref fD) = true) (mD : mg "_law_digits" = some (.ref fD))
    (GL : FnOk P w K mg base CX0 7 fL dL ["leaves", "depth"] spLower) (bL : Binds K dL ["leaves", "depth"] []) (kL : PySem.W.keepIn K (.ref fL) = true) (mL : mg "lower_number" = some (.ref fL))
    (GW : FnOk P w K mg base CX0 1 fW dW ["value"] spWhole) (bW : Binds K dW ["value"] []) (kW : PySem.W.keepIn K (.ref fW) = true) (mW : mg "_law_whole" = some (.ref fW))
    (GR : FnOk P w K mg base CX0 1 fR dR ["leaves", "depth"] spProd) (bR : Binds K dR ["leaves", "depth"] []) (kR : PySem.W.keepIn K (.ref fR) = true) (mR : mg "_law_products" = some (.ref fR))
    (GS : FnOk P w K mg base CX0 9 fS dS ["leaves", "depth"] spSize) (bS : Binds K dS ["leaves", "depth"] []) (kS : PySem.W.keepIn K (.ref fS) = true) (mS : mg "_law_size" = some (.ref fS))
    (GN : FnOk P w K mg base CX0 13 fN dN ["script"] (spDrawn K)) (bN : Binds K dN ["script"] []) (kN : PySem.W.keepIn K (.ref fN) = true) (mN : mg "_law_drawn" = some (.ref fN))
    (GA : FnOk P w K mg base CX0 7 fA dA ["tree", "depth"] spCap) (bA : Binds K dA ["tree", "depth"] []) (kA : PySem.W.keepIn K (.ref fA) = true) (mA : mg "_law_capacity" = some (.ref fA))
    (GP : FnOk P w K mg base CX0 6 fP dP ["tree"] (spPaths 6)) (bP : Binds K dP ["tree"] []) (kP : PySem.W.keepIn K (.ref fP) = true) (mP : mg "_law_paths" = some (.ref fP))
    (ml : mg "len" = none) (mM : mg "min" = none) (mX : mg "max" = none) : FnOk P w K mg base CX0 14 f fd ["script"] (spLaw K) := by
  refine F.ok (k := 13) scLaw (fun vs H Q E h => ?_) (fun cdv A outer s H vs Q E hr h => ?_)
  · obtain ⟨a, ns, rfl, _⟩ := h
    rfl
  obtain ⟨a, ns, rfl, hS, hl, q⟩ := h
  have nd := scLaw.nd
  refine ⟨_, pss_cons (ps_set (i := 1) nd rfl (.inl rfl) (pe_call GD (hr.mono (by decide)) (by rfl) mD kD bD .nil pass0 (pa_cons (pe_call GC (hr.mono (by decide)) (by rfl) mC kC bC .nil pass0 (pa_cons (pv 0) (pa_cons pe_int pa_nil)))
      (pa_cons (pe_lst (pa_cons pe_int (pa_cons pe_int pa_nil))) pa_nil))))
    (C8.pss_cut (ps_set (i := 2) nd rfl (.inl rfl) (pe_op op_add pe_int (pe_ix ix_list (pv 1) pe_int (fun _ _ => rfl))))
    (C8.pss_cut (ps_set (i := 3) nd rfl (.inl rfl) (pe_op op_add pe_int (pe_ix ix_list (pv 1) pe_int (fun _ _ => rfl))))
    (pss_cons (ps_for PassesOwn.never rfl (pi_list (pe_lst (pa_cons (pe_lst (pa_cons (pv 2) (pa_cons (pv 3) pa_nil))) (pa_cons (pe_lst (pa_cons (pe_callB (call_min2 rfl) (by rfl) mM boot_min (pa_cons pe_int (pa_cons (pe_op op_add (pv 2) pe_int) pa_nil))) (pa_cons (pv 3) pa_nil)))
        (pa_cons (pe_lst (pa_cons (pv 2) (pa_cons (pe_callB (call_max2 rfl) (by rfl) mX boot_max (pa_cons pe_int (pa_cons (pe_op op_sub (pv 3) pe_int) pa_nil))) pa_nil))) pa_nil))))) (pg_name (i := 4) nd rfl (.inl rfl))
      (pss_cons (ps_set (i := 5) nd rfl (.inl rfl) (pe_call GL (hr.mono (by decide)) (by rfl) mL kL bL .nil pass0 (pa_cons (pe_ix ix_list (pv 4) pe_int (fun _ _ => rfl)) (pa_cons (pe_ix ix_list (pv 4) pe_int (fun _ _ => rfl)) pa_nil))))
      (pss_one (ps_if (PW.pt (pw_or (pt_not (pt_val (pe_call GW (hr.mono (by decide)) (by rfl) mW kW bW .nil pass0 (pa_cons (pv 5) pa_nil)))) (pw_or1 (pt_cmpR op_ne (pv 5) (pe_call GR (hr.mono (by decide)) (by rfl) mR kR bR .nil pass0 (pa_cons (pe_ix ix_list (pv 4) pe_int (fun _ _ => rfl)) (pa_cons (pe_ix ix_list (pv 4) pe_int (fun _ _ => rfl)) pa_nil))) (nomark _)))))
        (pss_one (ps_ret pe_bl)) pss_nil))))
    (pss_cons (ps_if (pt_cmpR op_gt (pe_call GL (hr.mono (by decide)) (by rfl) mL kL bL .nil pass0 (pa_cons (pv 2) (pa_cons (pv 3) pa_nil))) (pe_call GS (hr.mono (by decide)) (by rfl) mS kS bS .nil pass0 (pa_cons (pv 2) (pa_cons (pv 3) pa_nil))) (nomark _)) (pss_one (ps_ret pe_bl)) pss_nil)
    (pss_cons (ps_set (i := 6) nd rfl (.inl rfl) (pe_call GN hr (by rfl) mN kN bN .nil pass0 (pa_cons (pv 0) pa_nil)))
    (pss_cons (ps_set (i := 7) nd rfl (.inl rfl) (pe_call GA (hr.mono (by decide)) (by rfl) mA kA bA .nil pass0 (pa_cons (pe_ix ix_list (pv 6) pe_int (fun _ _ => rfl)) (pa_cons (pe_ix ix_list (pv 6) pe_int (fun _ _ => rfl)) pa_nil))))
    (pss_cons (ps_if (pt_cmpR op_eq (pv 7) pe_int (nomark _)) (pss_one (ps_ret pe_bl)) pss_nil)
    (pss_cons (ps_set (i := 5) nd rfl (.inl rfl) (pe_call GL (hr.mono (by decide)) (by rfl) mL kL bL .nil pass0 (pa_cons (pv 7) (pa_cons (pe_ix ix_list (pv 6) pe_int (fun _ _ => rfl)) pa_nil))))
    (pss_one (ps_ret (pe_and (pe_call GW (hr.mono (by decide)) (by rfl) mW kW bW .nil pass0 (pa_cons (pv 5) pa_nil)) (pe_and (pe_cmpR op_le (pv 5) (pe_callB call_len_seq (by rfl) ml PySem.boot_len (pa_cons (pe_call GP (hr.mono (by decide)) (by rfl) mP kP bP .nil pass0 (pa_cons (pe_ix ix_list (pv 6) pe_int (fun _ _ => rfl)) pa_nil)) pa_nil)) (nomark _))
      (pe_one (pe_cmpR op_eq (pv 5) (pe_call GR (hr.mono (by decide)) (by rfl) mR kR bR .nil pass0 (pa_cons (pv 7) (pa_cons (pe_ix ix_list (pv 6) pe_int (fun _ _ => rfl)) pa_nil))) (nomark _))))))))))))))), ?_⟩
  refine ⟨_, rfl, a, ns, 0, rfl, hS, hl, by omega, fun z => ⟨two_le, fun l hl' => ?_⟩⟩
  have s1 : Same H (upd H l (.lst (([60, 6] : List Int).map V.int))) := same_new hl' _
  refine ⟨z, l, [60, 6], rfl, SqL.of upd_same, by decide, by decide, fun p ds H1 s2 ep hd => ?_⟩
  obtain ⟨d0, r0, rfl, b0, hd⟩ := hd.cons
  obtain ⟨d1, r1, rfl, b1, hd⟩ := hd.cons
  cases hd.nil
  obtain ⟨m, rfl⟩ : ∃ m : Nat, d0 = (m : Int) := ⟨d0.toNat, by omega⟩
  obtain ⟨e, rfl⟩ : ∃ e : Nat, d1 = (e : Int) := ⟨d1.toNat, by omega⟩
  have sA := s1.trans s2
  have em : (1 : Int) + (m : Int) = ((m + 1 : Nat) : Int) := by omega
  have ee : (1 : Int) + (e : Int) = ((e + 1 : Nat) : Int) := by omega
  refine ⟨fun σ' H' => H' = H1 ∧ σ' = [some (.ref a), some (.ref p), some (.int ((m + 1 : Nat) : Int)), Option.none, Option.none, Option.none, Option.none, Option.none], ?_, ?_⟩
  · exact ⟨_, rfl, p, _, 0, .int (m : Int), rfl, rfl, SqL.of ep, atI_nat (j := 0) rfl, _, _, rfl, rfl, rfl, congrArg (fun z : Int => ([some (V.ref a), some (V.ref p), some (V.int z), Option.none, Option.none, Option.none, Option.none, Option.none] : L2.St)) em⟩
  rintro σ' H1' ⟨rfl, rfl⟩
  refine ⟨fun σ' H' => H' = H1' ∧ σ' = [some (.ref a), some (.ref p), some (.int ((m + 1 : Nat) : Int)), some (.int ((e + 1 : Nat) : Int)), Option.none, Option.none, Option.none, Option.none], ?_, ?_⟩
  · exact ⟨_, rfl, p, _, 1, .int (e : Int), rfl, rfl, SqL.of ep, atI_nat (j := 1) rfl, _, _, rfl, rfl, rfl, congrArg (fun z : Int => ([some (V.ref a), some (V.ref p), some (V.int ((m + 1 : Nat) : Int)), some (V.int z), Option.none, Option.none, Option.none, Option.none] : L2.St)) ee⟩
  rintro σ' H1 ⟨rfl, rfl⟩
  refine ⟨_, rfl, _, rfl, two_le, fun q1 h1 => ⟨_, rfl, _, _, rfl, rfl, _, _, rfl, _, rfl, two_le, fun q2 h2 => ⟨_, rfl, _, rfl, _, _, rfl, rfl, _, _, rfl, two_le, fun q3 h3 => ⟨three_le, fun LL hLL => ?_⟩⟩⟩⟩
  have t1 := same_new h1 (.lst [V.int ((m + 1 : Nat) : Int), V.int ((e + 1 : Nat) : Int)])
  have t2 := same_new h2 (.lst [V.int (if ((m + 1 : Nat) : Int) + 1 < 60 then ((m + 1 : Nat) : Int) + 1 else 60), V.int ((e + 1 : Nat) : Int)])
  have t3 := same_new h3 (.lst [V.int ((m + 1 : Nat) : Int), V.int (if ((e + 1 : Nat) : Int) - 1 > 1 then ((e + 1 : Nat) : Int) - 1 else 1)])
  have t4 := same_new hLL (.lst [V.ref q1, V.ref q2, V.ref q3])
  have eq1 := t4 _ _ (t3 _ _ (t2 _ _ (upd_same (H := H1) (a := q1) (o := .lst [V.int ((m + 1 : Nat) : Int), V.int ((e + 1 : Nat) : Int)]))))
  have eq2 := t4 _ _ (t3 _ _ (upd_same (H := upd H1 q1 (.lst [V.int ((m + 1 : Nat) : Int), V.int ((e + 1 : Nat) : Int)])) (a := q2) (o := .lst [V.int (if ((m + 1 : Nat) : Int) + 1 < 60 then ((m + 1 : Nat) : Int) + 1 else 60), V.int ((e + 1 : Nat) : Int)])))
  have eq3 := t4 _ _ (upd_same (H := upd (upd H1 q1 (.lst [V.int ((m + 1 : Nat) : Int), V.int ((e + 1 : Nat) : Int)])) q2 (.lst [V.int (if ((m + 1 : Nat) : Int) + 1 < 60 then ((m + 1 : Nat) : Int) + 1 else 60), V.int ((e + 1 : Nat) : Int)])) (a := q3) (o := .lst [V.int ((m + 1 : Nat) : Int), V.int (if ((e + 1 : Nat) : Int) - 1 > 1 then ((e + 1 : Nat) : Int) - 1 else 1)]))
  have sB := sA.trans (t1.trans (t2.trans (t3.trans t4)))
  have eLL : upd (upd (upd (upd H1 q1 (.lst [V.int ((m + 1 : Nat) : Int), V.int ((e + 1 : Nat) : Int)])) q2 (.lst [V.int (if ((m + 1 : Nat) : Int) + 1 < 60 then ((m + 1 : Nat) : Int) + 1 else 60), V.int ((e + 1 : Nat) : Int)])) q3 (.lst [V.int ((m + 1 : Nat) : Int), V.int (if ((e + 1 : Nat) : Int) - 1 > 1 then ((e + 1 : Nat) : Int) - 1 else 1)])) LL (.lst [V.ref q1, V.ref q2, V.ref q3]) LL = some (.lst [V.ref q1, V.ref q2, V.ref q3]) := upd_same
  refine ⟨LL, rfl, ⟨_, SqL.of upd_same⟩, ?_⟩
  generalize upd (upd (upd (upd H1 q1 (.lst [V.int ((m + 1 : Nat) : Int), V.int ((e + 1 : Nat) : Int)])) q2 (.lst [V.int (if ((m + 1 : Nat) : Int) + 1 < 60 then ((m + 1 : Nat) : Int) + 1 else 60), V.int ((e + 1 : Nat) : Int)])) q3 (.lst [V.int ((m + 1 : Nat) : Int), V.int (if ((e + 1 : Nat) : Int) - 1 > 1 then ((e + 1 : Nat) : Int) - 1 else 1)])) LL (.lst [V.ref q1, V.ref q2, V.ref q3]) = H4 at sB eq1 eq2 eq3 eLL
  have allq : ∀ x ∈ [V.ref q1, V.ref q2, V.ref q3], ∃ (r : Addr) (n d : Nat), x = .ref r ∧ H4 r = some (.lst [V.int (n : Int), V.int (d : Int)]) ∧ n ≤ 60 ∧ 1 ≤ d ∧ d ≤ 6 := by
    intro x hx
    simp only [List.mem_cons, List.not_mem_nil, or_false] at hx
    rcases hx with rfl | rfl | rfl
    · exact ⟨q1, m + 1, e + 1, rfl, eq1, by omega, by omega, by omega⟩
    · obtain ⟨k, hk, hk6⟩ : ∃ k : Nat, (if ((m + 1 : Nat) : Int) + 1 < 60 then ((m + 1 : Nat) : Int) + 1 else 60) = (k : Int) ∧ k ≤ 60 := by
        by_cases c : ((m + 1 : Nat) : Int) + 1 < 60
        · rw [if_pos c]; exact ⟨m + 2, by omega, by omega⟩
        · rw [if_neg c]; exact ⟨60, rfl, by omega⟩
      rw [hk] at eq2
      exact ⟨q2, k, e + 1, rfl, eq2, hk6, by omega, by omega⟩
    · obtain ⟨k, hk, hk1, hk6⟩ : ∃ k : Nat, (if ((e + 1 : Nat) : Int) - 1 > 1 then ((e + 1 : Nat) : Int) - 1 else 1) = (k : Int) ∧ 1 ≤ k ∧ k ≤ 6 := by
        by_cases c : ((e + 1 : Nat) : Int) - 1 > 1
        · rw [if_pos c]; exact ⟨e, by omega, by omega, by omega⟩
        · rw [if_neg c]; exact ⟨1, rfl, by omega, by omega⟩
      rw [hk] at eq3
      exact ⟨q3, m + 1, k, rfl, eq3, by omega, hk1, hk6⟩
  refine for_list (xs := [V.ref q1, V.ref q2, V.ref q3]) (fun i σ H' => Same H H' ∧ Same H4 H' ∧ ∃ y4 y5 : Option V, σ = [some (.ref a), some (.ref p), some (.int ((m + 1 : Nat) : Int)), some (.int ((e + 1 : Nat) : Int)), y4, y5, Option.none, Option.none]) ⟨sB, .refl _, Option.none, Option.none, rfl⟩ (fun i σ H' _ z => SqL.of (z.2.1 _ _ eLL)) ?_ ?_
  · rintro i x σ H5 hx ⟨sm, sm4, y4, y5, rfl⟩
    obtain ⟨r, n, d, rfl, er, c1, c2, c3⟩ := allq x (List.mem_of_getElem? hx)
    have gr := SqL.of (K := K) (sm4 _ _ er)
    refine ⟨_, rfl, r, _, 0, .int (n : Int), rfl, rfl, gr, atI_nat (j := 0) rfl, _, rfl, r, _, 1, .int (d : Int), rfl, rfl, gr, atI_nat (j := 1) rfl, n, d, rfl, c1, c2, c3, fun H6 s6 => ?_⟩
    have gr := SqL.of (K := K) (s6 _ _ (sm4 _ _ er))
    refine ⟨_, rfl, _, rfl, true, rfl, iteF ?_⟩
    refine ⟨_, rfl, _, rfl, r, _, 0, .int (n : Int), rfl, rfl, gr, atI_nat (j := 0) rfl, _, rfl, r, _, 1, .int (d : Int), rfl, rfl, gr, atI_nat (j := 1) rfl, n, d, rfl, c1, c2, c3, fun H7 s7 => ⟨rfl, _, rfl, ite2 (fun z => ?_) (fun _ => ?_)⟩⟩
    · simp [natV] at z
    · exact ⟨sm.trans (s6.trans s7), sm4.trans (s6.trans s7), _, _, rfl⟩
  · rintro σ H5 ⟨sm, sm4, y4, y5, rfl⟩
    refine ⟨_, rfl, _, rfl, m + 1, e + 1, rfl, by omega, by omega, by omega, fun H6 s6 => ?_⟩
    refine ⟨_, rfl, _, rfl, m + 1, e + 1, rfl, by omega, by omega, fun H7 s7 => ⟨_, _, rfl, rfl, _, rfl, ite2 (fun z => ?_) (fun _ => ?_)⟩⟩
    · have z' : ((sz (e + 1) (m + 1) : Nat) : Int) < ((lowN (e + 1 - 1) (m + 1) : Nat) : Int) := of_decide_eq_true z
      have le := low_le_sz (d := e) (n := m + 1) (by omega) (by omega)
      have e9 : e + 1 - 1 = e := by omega
      rw [e9] at z'
      omega
    have sm7 := sm.trans (s6.trans s7)
    refine ⟨_, rfl, a, ns, rfl, sm7.seq hS, hl, fun L r d t H8 s8 eL hT hlv c1 c3 => ?_⟩
    have gL := SqL.of (K := K) eL
    refine ⟨_, rfl, L, _, 1, .ref r, rfl, rfl, gL, atI_nat (j := 1) rfl, _, rfl, L, _, 0, .int (d : Int), rfl, rfl, gL, atI_nat (j := 0) rfl, .ref r, d, 5, t, rfl, hT, hlv, c1, c3, fun k H9 s9 hk hlow => ?_⟩
    refine ⟨_, rfl, rfl, _, rfl, ite2 (fun _ => q H9) (fun z => ?_)⟩
    have z' : ¬ (k : Int) = 0 := fun y => z (decide_eq_true (congrArg V.int y))
    have hlow' : lowN (d - 1) k ≤ lv 5 t := hlow.resolve_left (by omega)
    have gL9 := SqL.of (K := K) (s9 _ _ eL)
    refine ⟨_, rfl, _, rfl, L, _, 0, .int (d : Int), rfl, rfl, gL9, atI_nat (j := 0) rfl, k, d, rfl, by omega, c1, by omega, fun H10 s10 => ?_⟩
    have eL10 := s10 _ _ (s9 _ _ eL)
    have hT10 := (hT.same s9).same s10
    refine ⟨_, rfl, _, rfl, true, rfl, iteT ?_⟩
    refine ⟨_, rfl, _, rfl, L, _, 1, .ref r, rfl, rfl, SqL.of eL10, atI_nat (j := 1) rfl, .ref r, 5, t, rfl, hT10, by omega, by omega, by omega, fun p11 ps11 H11 s11 _ hP hlen _ => ?_⟩
    obtain ⟨rs11, er11, pa11⟩ := hP
    have le : decide (((lowN (d - 1) k : Nat) : Int) ≤ ((rs11.map V.ref).length : Int)) = true := decide_eq_true (by rw [List.length_map, pa11.length, hlen]; omega)
    refine ⟨p11, _, rfl, .inl (SqL.of er11), _, _, rfl, rfl, _, rfl, ite2 (fun _ => ?_) (fun z => absurd le z)⟩
    refine ⟨_, rfl, _, rfl, _, rfl, L, _, 0, .int (d : Int), rfl, rfl, SqL.of (s11 _ _ eL10), atI_nat (j := 0) rfl, k, d, rfl, by omega, c1, by omega, fun H12 s12 => ⟨rfl, ?_⟩⟩
    rw [decide_eq_true (show V.int ((lowN (d - 1) k : Nat) : Int) = natV (lowN (d - 1) k) from rfl)]
    exact q H12
end
end K21
set_option Elab.async false
set_option linter.all false
set_option maxRecDepth 100000
set_option maxHeartbeats 4000000
namespace K21
open PySem PySem.Spec PyProof.Rows L2 K11
/-! ### what the top has left -/
theorem all_mk {l : PySem.W.OpenLaw} {w : World} {K : PySem.W.Frag} {h : Heap} {mg : Str → Option Value} {fa : Addr} (X : K.In h) (G : h.Ns mainGlobals mg) (hfa : mg "law" = some (.ref fa))
    {f1 f2 f3 f4 f5 f6 f7 f8 f9 f10 f11 f12 f13 f14 f15 f16 f17 f18 f19 f20 f21 : Addr}
    {od1 an1 od2 an2 od3 an3 od4 an4 od5 an5 od6 an6 od7 an7 od8 an8 od9 an9 od10 an10 od11 an11 od12 an12 od13 an13 od14 an14 od15 an15 od16 an16 od17 an17 od18 an18 od19 an19 od20 an20 od21 an21 : Option Addr} {sl1 sl2 sl3 sl4 sl5 sl6 sl7 sl8 sl9 sl10 sl11 sl12 sl13 sl14 sl15 sl16 sl17 sl18 sl19 sl20 sl21 : Array (Option Value)}
    {oc1 dc1 pm1 cd1 ct1 kV1 oc2 dc2 pm2 cd2 ct2 kV2 oc3 dc3 pm3 cd3 ct3 kV3 oc4 dc4 pm4 cd4 ct4 kV4 oc5 dc5 pm5 cd5 ct5 kV5 oc6 dc6 pm6 cd6 ct6 kV6 oc7 dc7 pm7 cd7 ct7 kV7 oc8 dc8 pm8 cd8 ct8 kV8 oc9 dc9 pm9 cd9 ct9 kV9 oc10 dc10 pm10 cd10 ct10 kV10 oc11 dc11 pm11 cd11 ct11 kV11 oc12 dc12 pm12 cd12 ct12 kV12 oc13 dc13 pm13 cd13 ct13 kV13 oc14 dc14 pm14 cd14 ct14 kV14 oc15 dc15 pm15 cd15 ct15 kV15 oc16 dc16 pm16 cd16 ct16 kV16 oc17 dc17 pm17 cd17 ct17 kV17 oc18 dc18 pm18 cd18 ct18 kV18 oc19 dc19 pm19 cd19 ct19 kV19 oc20 dc20 pm20 cd20 ct20 kV20 oc21 dc21 pm21 cd21 ct21 kV21 : Value}
    (a1 : PySem.W.nsIn K mainGlobals "lower_number" = some (some (.ref f1)))
    (l1 : K.lookup f1 = some ⟨oc1, od1, .func (PySem.W.fnOf "lower_number" "lower_number" (defArgs sLower) (defBody sLower) (defScope sLower) .none kV1 dc1 pm1 an1 cd1 ct1), sl1⟩)
    (c1 : PySem.W.codeIn K cd1 "lower_number" = true) (k1 : PySem.W.keepIn K (.ref f1) = true)
    (a2 : PySem.W.nsIn K mainGlobals "_lower_number" = some (some (.ref f2)))
    (l2 : K.lookup f2 = some ⟨oc2, od2, .func (PySem.W.fnOf "_lower_number" "_lower_number" (defArgs sLowerM) (defBody sLowerM) (defScope sLowerM) .none kV2 dc2 pm2 an2 cd2 ct2), sl2⟩)
    (c2 : PySem.W.codeIn K cd2 "_lower_number" = true) (k2 : PySem.W.keepIn K (.ref f2) = true)
    (a3 : PySem.W.nsIn K mainGlobals "_law_whole" = some (some (.ref f3)))
    (l3 : K.lookup f3 = some ⟨oc3, od3, .func (PySem.W.fnOf "_law_whole" "_law_whole" (defArgs sWhole) (defBody sWhole) (defScope sWhole) .none kV3 dc3 pm3 an3 cd3 ct3), sl3⟩)
    (c3 : PySem.W.codeIn K cd3 "_law_whole" = true) (k3 : PySem.W.keepIn K (.ref f3) = true)
    (a4 : PySem.W.nsIn K mainGlobals "_law_cell" = some (some (.ref f4)))
    (l4 : K.lookup f4 = some ⟨oc4, od4, .func (PySem.W.fnOf "_law_cell" "_law_cell" (defArgs sCell) (defBody sCell) (defScope sCell) .none kV4 dc4 pm4 an4 cd4 ct4), sl4⟩)
    (c4 : PySem.W.codeIn K cd4 "_law_cell" = true) (k4 : PySem.W.keepIn K (.ref f4) = true)
    (a5 : PySem.W.nsIn K mainGlobals "_law_digits" = some (some (.ref f5)))
    (l5 : K.lookup f5 = some ⟨oc5, od5, .func (PySem.W.fnOf "_law_digits" "_law_digits" (defArgs sDigits) (defBody sDigits) (defScope sDigits) .none kV5 dc5 pm5 an5 cd5 ct5), sl5⟩)
    (c5 : PySem.W.codeIn K cd5 "_law_digits" = true) (k5 : PySem.W.keepIn K (.ref f5) = true)
    (a6 : PySem.W.nsIn K mainGlobals "_law_tree" = some (some (.ref f6)))
    (l6 : K.lookup f6 = some ⟨oc6, od6, .func (PySem.W.fnOf "_law_tree" "_law_tree" (defArgs sTree) (defBody sTree) (defScope sTree) .none kV6 dc6 pm6 an6 cd6 ct6), sl6⟩)
    (c6 : PySem.W.codeIn K cd6 "_law_tree" = true) (k6 : PySem.W.keepIn K (.ref f6) = true)
    (a7 : PySem.W.nsIn K mainGlobals "_law_paths" = some (some (.ref f7)))
    (l7 : K.lookup f7 = some ⟨oc7, od7, .func (PySem.W.fnOf "_law_paths" "_law_paths" (defArgs sPaths) (defBody sPaths) (defScope sPaths) .none kV7 dc7 pm7 an7 cd7 ct7), sl7⟩)
    (c7 : PySem.W.codeIn K cd7 "_law_paths" = true) (k7 : PySem.W.keepIn K (.ref f7) = true)
    (a8 : PySem.W.nsIn K mainGlobals "_law_from_paths" = some (some (.ref f8)))
    (l8 : K.lookup f8 = some ⟨oc8, od8, .func (PySem.W.fnOf "_law_from_paths" "_law_from_paths" (defArgs sFrom) (defBody sFrom) (defScope sFrom) .none kV8 dc8 pm8 an8 cd8 ct8), sl8⟩)
    (c8 : PySem.W.codeIn K cd8 "_law_from_paths" = true) (k8 : PySem.W.keepIn K (.ref f8) = true)
    (a9 : PySem.W.nsIn K mainGlobals "_law_halves" = some (some (.ref f9)))
    (l9 : K.lookup f9 = some ⟨oc9, od9, .func (PySem.W.fnOf "_law_halves" "_law_halves" (defArgs sHalves) (defBody sHalves) (defScope sHalves) .none kV9 dc9 pm9 an9 cd9 ct9), sl9⟩)
    (c9 : PySem.W.codeIn K cd9 "_law_halves" = true) (k9 : PySem.W.keepIn K (.ref f9) = true)
    (a10 : PySem.W.nsIn K mainGlobals "_law_universal_row" = some (some (.ref f10)))
    (l10 : K.lookup f10 = some ⟨oc10, od10, .func (PySem.W.fnOf "_law_universal_row" "_law_universal_row" (defArgs sURow) (defBody sURow) (defScope sURow) .none kV10 dc10 pm10 an10 cd10 ct10), sl10⟩)
    (c10 : PySem.W.codeIn K cd10 "_law_universal_row" = true) (k10 : PySem.W.keepIn K (.ref f10) = true)
    (a11 : PySem.W.nsIn K mainGlobals "_law_edited" = some (some (.ref f11)))
    (l11 : K.lookup f11 = some ⟨oc11, od11, .func (PySem.W.fnOf "_law_edited" "_law_edited" (defArgs sEdited) (defBody sEdited) (defScope sEdited) .none kV11 dc11 pm11 an11 cd11 ct11), sl11⟩)
    (c11 : PySem.W.codeIn K cd11 "_law_edited" = true) (k11 : PySem.W.keepIn K (.ref f11) = true)
    (a12 : PySem.W.nsIn K mainGlobals "_law_rough" = some (some (.ref f12)))
    (l12 : K.lookup f12 = some ⟨oc12, od12, .func (PySem.W.fnOf "_law_rough" "_law_rough" (defArgs sRough) (defBody sRough) (defScope sRough) .none kV12 dc12 pm12 an12 cd12 ct12), sl12⟩)
    (c12 : PySem.W.codeIn K cd12 "_law_rough" = true) (k12 : PySem.W.keepIn K (.ref f12) = true)
    (a13 : PySem.W.nsIn K mainGlobals "_law_holds" = some (some (.ref f13)))
    (l13 : K.lookup f13 = some ⟨oc13, od13, .func (PySem.W.fnOf "_law_holds" "_law_holds" (defArgs sHolds) (defBody sHolds) (defScope sHolds) .none kV13 dc13 pm13 an13 cd13 ct13), sl13⟩)
    (c13 : PySem.W.codeIn K cd13 "_law_holds" = true) (k13 : PySem.W.keepIn K (.ref f13) = true)
    (a14 : PySem.W.nsIn K mainGlobals "_law_rows" = some (some (.ref f14)))
    (l14 : K.lookup f14 = some ⟨oc14, od14, .func (PySem.W.fnOf "_law_rows" "_law_rows" (defArgs sRows) (defBody sRows) (defScope sRows) .none kV14 dc14 pm14 an14 cd14 ct14), sl14⟩)
    (c14 : PySem.W.codeIn K cd14 "_law_rows" = true) (k14 : PySem.W.keepIn K (.ref f14) = true)
    (a15 : PySem.W.nsIn K mainGlobals "_law_longer" = some (some (.ref f15)))
    (l15 : K.lookup f15 = some ⟨oc15, od15, .func (PySem.W.fnOf "_law_longer" "_law_longer" (defArgs sLonger) (defBody sLonger) (defScope sLonger) .none kV15 dc15 pm15 an15 cd15 ct15), sl15⟩)
    (c15 : PySem.W.codeIn K cd15 "_law_longer" = true) (k15 : PySem.W.keepIn K (.ref f15) = true)
    (a16 : PySem.W.nsIn K mainGlobals "_law_first_missing" = some (some (.ref f16)))
    (l16 : K.lookup f16 = some ⟨oc16, od16, .func (PySem.W.fnOf "_law_first_missing" "_law_first_missing" (defArgs sFirst) (defBody sFirst) (defScope sFirst) .none kV16 dc16 pm16 an16 cd16 ct16), sl16⟩)
    (c16 : PySem.W.codeIn K cd16 "_law_first_missing" = true) (k16 : PySem.W.keepIn K (.ref f16) = true)
    (a17 : PySem.W.nsIn K mainGlobals "_law_products" = some (some (.ref f17)))
    (l17 : K.lookup f17 = some ⟨oc17, od17, .func (PySem.W.fnOf "_law_products" "_law_products" (defArgs sProd) (defBody sProd) (defScope sProd) .none kV17 dc17 pm17 an17 cd17 ct17), sl17⟩)
    (c17 : PySem.W.codeIn K cd17 "_law_products" = true) (k17 : PySem.W.keepIn K (.ref f17) = true)
    (a18 : PySem.W.nsIn K mainGlobals "_law_size" = some (some (.ref f18)))
    (l18 : K.lookup f18 = some ⟨oc18, od18, .func (PySem.W.fnOf "_law_size" "_law_size" (defArgs sSize) (defBody sSize) (defScope sSize) .none kV18 dc18 pm18 an18 cd18 ct18), sl18⟩)
    (c18 : PySem.W.codeIn K cd18 "_law_size" = true) (k18 : PySem.W.keepIn K (.ref f18) = true)
    (a19 : PySem.W.nsIn K mainGlobals "_law_capacity" = some (some (.ref f19)))
    (l19 : K.lookup f19 = some ⟨oc19, od19, .func (PySem.W.fnOf "_law_capacity" "_law_capacity" (defArgs sCap) (defBody sCap) (defScope sCap) .none kV19 dc19 pm19 an19 cd19 ct19), sl19⟩)
    (c19 : PySem.W.codeIn K cd19 "_law_capacity" = true) (k19 : PySem.W.keepIn K (.ref f19) = true)
    (a20 : PySem.W.nsIn K mainGlobals "_law_drawn" = some (some (.ref f20)))
    (l20 : K.lookup f20 = some ⟨oc20, od20, .func (PySem.W.fnOf "_law_drawn" "_law_drawn" (defArgs sDrawn) (defBody sDrawn) (defScope sDrawn) .none kV20 dc20 pm20 an20 cd20 ct20), sl20⟩)
    (c20 : PySem.W.codeIn K cd20 "_law_drawn" = true) (k20 : PySem.W.keepIn K (.ref f20) = true)
    (a21 : PySem.W.nsIn K mainGlobals "law" = some (some (.ref f21)))
    (l21 : K.lookup f21 = some ⟨oc21, od21, .func (PySem.W.fnOf "law" "law" (defArgs sLaw) (defBody sLaw) (defScope sLaw) .none kV21 dc21 pm21 an21 cd21 ct21), sl21⟩)
    (c21 : PySem.W.codeIn K cd21 "law" = true) (k21 : PySem.W.keepIn K (.ref f21) = true)
    (z1 : PySem.W.nsIn K mainGlobals "len" = some none)
    (z2 : PySem.W.nsIn K mainGlobals "isinstance" = some none)
    (z3 : PySem.W.nsIn K mainGlobals "int" = some none)
    (z4 : PySem.W.nsIn K mainGlobals "bool" = some none)
    (z5 : PySem.W.nsIn K mainGlobals "range" = some none)
    (z6 : PySem.W.nsIn K mainGlobals "tuple" = some none)
    (z7 : PySem.W.nsIn K mainGlobals "list" = some none)
    (z8 : PySem.W.nsIn K mainGlobals "sum" = some none)
    (z9 : PySem.W.nsIn K mainGlobals "min" = some none)
    (z10 : PySem.W.nsIn K mainGlobals "max" = some none) :
    ∃ fd : FuncData, (∀ (s : Shared) (v : Value), BindsTo s fd ⟨[v], []⟩ [("script", v)]) ∧ ∀ base : Heap, K.In base → base.Ns mainGlobals mg → FnOk l.prog w K mg base CX0 14 fa fd ["script"] (spLaw K) := by
  have e := hfa.symm.trans (PySem.W.mg_of X G a21)
  cases e
  have F1 := fun_mk (st := sLower) l1 c1 k1
  have b1 : Binds K _ ["leaves", "depth"] [] := F1.binds (ps := ["leaves", "depth"]) fun _ _ _ _ _ _ us hl => match us, hl with | [_, _], _ => rfl
  have m1 := PySem.W.mg_of X G a1
  have F2 := fun_mk (st := sLowerM) l2 c2 k2
  have b2 : Binds K _ ["leaves", "depth", "known"] [] := F2.binds (ps := ["leaves", "depth", "known"]) fun _ _ _ _ _ _ us hl => match us, hl with | [_, _, _], _ => rfl
  have m2 := PySem.W.mg_of X G a2
  have F3 := fun_mk (st := sWhole) l3 c3 k3
  have b3 : Binds K _ ["value"] [] := F3.binds (ps := ["value"]) fun _ _ _ _ _ _ us hl => match us, hl with | [_], _ => rfl
  have m3 := PySem.W.mg_of X G a3
  have F4 := fun_mk (st := sCell) l4 c4 k4
  have b4 : Binds K _ ["script", "k"] [] := F4.binds (ps := ["script", "k"]) fun _ _ _ _ _ _ us hl => match us, hl with | [_, _], _ => rfl
  have m4 := PySem.W.mg_of X G a4
  have F5 := fun_mk (st := sDigits) l5 c5 k5
  have b5 : Binds K _ ["cell", "sizes"] [] := F5.binds (ps := ["cell", "sizes"]) fun _ _ _ _ _ _ us hl => match us, hl with | [_, _], _ => rfl
  have m5 := PySem.W.mg_of X G a5
  have F6 := fun_mk (st := sTree) l6 c6 k6
  have b6 : Binds K _ ["row", "depth"] [] := F6.binds (ps := ["row", "depth"]) fun _ _ _ _ _ _ us hl => match us, hl with | [_, _], _ => rfl
  have m6 := PySem.W.mg_of X G a6
  have F7 := fun_mk (st := sPaths) l7 c7 k7
  have b7 : Binds K _ ["tree"] [] := F7.binds (ps := ["tree"]) fun _ _ _ _ _ _ us hl => match us, hl with | [_], _ => rfl
  have m7 := PySem.W.mg_of X G a7
  have F8 := fun_mk (st := sFrom) l8 c8 k8
  have b8 : Binds K _ ["paths"] [] := F8.binds (ps := ["paths"]) fun _ _ _ _ _ _ us hl => match us, hl with | [_], _ => rfl
  have m8 := PySem.W.mg_of X G a8
  have F9 := fun_mk (st := sHalves) l9 c9 k9
  have b9 : Binds K _ ["number"] [] := F9.binds (ps := ["number"]) fun _ _ _ _ _ _ us hl => match us, hl with | [_], _ => rfl
  have m9 := PySem.W.mg_of X G a9
  have F10 := fun_mk (st := sURow) l10 c10 k10
  have b10 : Binds K _ ["leaves", "depth"] [] := F10.binds (ps := ["leaves", "depth"]) fun _ _ _ _ _ _ us hl => match us, hl with | [_, _], _ => rfl
  have m10 := PySem.W.mg_of X G a10
  have F11 := fun_mk (st := sEdited) l11 c11 k11
  have b11 : Binds K _ ["row", "depth", "digits", "many"] [] := F11.binds (ps := ["row", "depth", "digits", "many"]) fun _ _ _ _ _ _ us hl => match us, hl with | [_, _, _, _], _ => rfl
  have m11 := PySem.W.mg_of X G a11
  have F12 := fun_mk (st := sRough) l12 c12 k12
  have b12 : Binds K _ ["paths", "digits"] [] := F12.binds (ps := ["paths", "digits"]) fun _ _ _ _ _ _ us hl => match us, hl with | [_, _], _ => rfl
  have m12 := PySem.W.mg_of X G a12
  have F13 := fun_mk (st := sHolds) l13 c13 k13
  have b13 : Binds K _ ["big", "small"] [] := F13.binds (ps := ["big", "small"]) fun _ _ _ _ _ _ us hl => match us, hl with | [_, _], _ => rfl
  have m13 := PySem.W.mg_of X G a13
  have F14 := fun_mk (st := sRows) l14 c14 k14
  have b14 : Binds K _ ["count", "depth"] [] := F14.binds (ps := ["count", "depth"]) fun _ _ _ _ _ _ us hl => match us, hl with | [_, _], _ => rfl
  have m14 := PySem.W.mg_of X G a14
  have F15 := fun_mk (st := sLonger) l15 c15 k15
  have b15 : Binds K _ ["rows", "depth"] [] := F15.binds (ps := ["rows", "depth"]) fun _ _ _ _ _ _ us hl => match us, hl with | [_, _], _ => rfl
  have m15 := PySem.W.mg_of X G a15
  have F16 := fun_mk (st := sFirst) l16 c16 k16
  have b16 : Binds K _ ["tree", "leaves", "depth"] [] := F16.binds (ps := ["tree", "leaves", "depth"]) fun _ _ _ _ _ _ us hl => match us, hl with | [_, _, _], _ => rfl
  have m16 := PySem.W.mg_of X G a16
  have F17 := fun_mk (st := sProd) l17 c17 k17
  have b17 : Binds K _ ["leaves", "depth"] [] := F17.binds (ps := ["leaves", "depth"]) fun _ _ _ _ _ _ us hl => match us, hl with | [_, _], _ => rfl
  have m17 := PySem.W.mg_of X G a17
  have F18 := fun_mk (st := sSize) l18 c18 k18
  have b18 : Binds K _ ["leaves", "depth"] [] := F18.binds (ps := ["leaves", "depth"]) fun _ _ _ _ _ _ us hl => match us, hl with | [_, _], _ => rfl
  have m18 := PySem.W.mg_of X G a18
  have F19 := fun_mk (st := sCap) l19 c19 k19
  have b19 : Binds K _ ["tree", "depth"] [] := F19.binds (ps := ["tree", "depth"]) fun _ _ _ _ _ _ us hl => match us, hl with | [_, _], _ => rfl
  have m19 := PySem.W.mg_of X G a19
  have F20 := fun_mk (st := sDrawn) l20 c20 k20
  have b20 : Binds K _ ["script"] [] := F20.binds (ps := ["script"]) fun _ _ _ _ _ _ us hl => match us, hl with | [_], _ => rfl
  have m20 := PySem.W.mg_of X G a20
  have F21 := fun_mk (st := sLaw) l21 c21 k21
  have m21 := PySem.W.mg_of X G a21
  have n_len := PySem.W.mg_none_of X G z1
  have n_isinstance := PySem.W.mg_none_of X G z2
  have n_int := PySem.W.mg_none_of X G z3
  have n_bool := PySem.W.mg_none_of X G z4
  have n_range := PySem.W.mg_none_of X G z5
  have n_tuple := PySem.W.mg_none_of X G z6
  have n_list := PySem.W.mg_none_of X G z7
  have n_sum := PySem.W.mg_none_of X G z8
  have n_min := PySem.W.mg_none_of X G z9
  have n_max := PySem.W.mg_none_of X G z10
  refine ⟨PySem.W.fnOf "law" "law" (defArgs sLaw) (defBody sLaw) (defScope sLaw) .none kV21 dc21 pm21 an21 cd21 ct21, fun s v => .of_eq rfl, fun base _ _ => ?_⟩
  have PLm := low_all (P := l.prog) (w := w) (base := base) F2 b2 m2 n_range n_sum 6
  have PL := ok_lower (P := l.prog) (w := w) (base := base) F1 PLm b2 k2 m2
  have PW := ok_whole (P := l.prog) (w := w) (base := base) F3 n_isinstance n_int n_bool
  have PC := ok_cell (P := l.prog) (w := w) (base := base) F4 n_len n_int
  have PD := ok_digits (P := l.prog) (w := w) (base := base) F5 n_len n_int n_range
  have PT := tree_all (P := l.prog) (w := w) (base := base) F6 b6 m6 n_tuple 4
  have PTT := ok_treeT (P := l.prog) (w := w) (base := base) F6 PT b6 m6 n_tuple
  have PP4 := paths_all (P := l.prog) (w := w) (base := base) F7 b7 m7 n_len n_range 4
  have PP6 := paths_all (P := l.prog) (w := w) (base := base) F7 b7 m7 n_len n_range 6
  have PF := from_all (P := l.prog) (w := w) (base := base) F8 b8 m8 n_len n_tuple 6
  have PH := halves_all (P := l.prog) (w := w) (base := base) F9 b9 m9 8
  have PU := urow_all (P := l.prog) (w := w) (base := base) F10 b10 m10 PH b9 k9 m9 n_len n_range 4
  have PE := ok_edited (P := l.prog) (w := w) (base := base) F11 n_len n_range n_int n_list
  have PR := ok_rough (P := l.prog) (w := w) (base := base) F12 n_len n_range
  have PHo := holds_all (P := l.prog) (w := w) (base := base) F13 b13 m13 n_len n_range 5
  have PLo := ok_longer (P := l.prog) (w := w) (base := base) F15 n_range
  have PRo := ok_rows (P := l.prog) (w := w) (base := base) F14 PLo b15 k15 m15 n_range
  have PFi := ok_first (P := l.prog) (w := w) (base := base) F16 PRo b14 k14 m14 PTT b6 k6 m6 PHo b13 k13 m13
  have PCa := ok_cap (P := l.prog) (w := w) (base := base) F19 PFi b16 k16 m16 n_len n_range
  have PPr := ok_prod (P := l.prog) (w := w) (base := base) F17 n_range n_sum
  have PSi := ok_size (P := l.prog) (w := w) (base := base) F18 PH b9 k9 m9 n_range n_sum
  have PDr := ok_drawn (P := l.prog) (w := w) (base := base) F20 PC b4 k4 m4 PD b5 k5 m5 PU b10 k10 m10 PE b11 k11 m11 PP4 b7 k7 m7 PT b6 k6 m6 PR b12 k12 m12 PF b8 k8 m8 n_len n_range n_int
  exact ok_law F21 PC b4 k4 m4 PD b5 k5 m5 PL b1 k1 m1 PW b3 k3 m3 PPr b17 k17 m17 PSi b18 k18 m18 PDr b20 k20 m20 PCa b19 k19 m19 PP6 b7 k7 m7 n_len n_min n_max
end K21
open PySem PySem.W PyProof.Rows
set_option maxRecDepth 100000 in
set_option maxHeartbeats 0 in
theorem PySem.Challenge.cw_holdsalltrees_k21_lower_numbers_holds : PySem.Challenge.rw_holdsalltrees_k21_lower_numbers.Holds := by
  w_on; o_law; k_head; (case hw => w_witness2)
  k_fill
  refine L2.walk_of (l := PySem.Challenge.rw_holdsalltrees_k21_lower_numbers) (n := 63) (k := 14) (x := "script") (CX := fun _ => L2.CX0) (sp := fun w => K21.spLaw _) rfl (by decide) rfl ⟨rfl, by decide, by decide⟩ (fun w h Y => PySem.W.kIn_of Y) ?F (fun _ _ a ns hl _ hS => ⟨a, ns, rfl, hS, hl, fun _ => rfl⟩) (fun _ _ _ _ _ h => h)
  case F =>
    intro w mg fa h KX G hmg
    refine' K21.all_mk KX G hmg ?a1 ?l1 ?c1 ?k1 ?a2 ?l2 ?c2 ?k2 ?a3 ?l3 ?c3 ?k3 ?a4 ?l4 ?c4 ?k4 ?a5 ?l5 ?c5 ?k5 ?a6 ?l6 ?c6 ?k6 ?a7 ?l7 ?c7 ?k7 ?a8 ?l8 ?c8 ?k8 ?a9 ?l9 ?c9 ?k9 ?a10 ?l10 ?c10 ?k10 ?a11 ?l11 ?c11 ?k11 ?a12 ?l12 ?c12 ?k12 ?a13 ?l13 ?c13 ?k13 ?a14 ?l14 ?c14 ?k14 ?a15 ?l15 ?c15 ?k15 ?a16 ?l16 ?c16 ?k16 ?a17 ?l17 ?c17 ?k17 ?a18 ?l18 ?c18 ?k18 ?a19 ?l19 ?c19 ?k19 ?a20 ?l20 ?c20 ?k20 ?a21 ?l21 ?c21 ?k21 ?z1 ?z2 ?z3 ?z4 ?z5 ?z6 ?z7 ?z8 ?z9 ?z10
    (case a1 => k_is)
    (case l1 => k_is)
    (case c1 => k_is)
    (case k1 => k_is)
    (case a2 => k_is)
    (case l2 => k_is)
    (case c2 => k_is)
    (case k2 => k_is)
    (case a3 => k_is)
    (case l3 => k_is)
    (case c3 => k_is)
    (case k3 => k_is)
    (case a4 => k_is)
    (case l4 => k_is)
    (case c4 => k_is)
    (case k4 => k_is)
    (case a5 => k_is)
    (case l5 => k_is)
    (case c5 => k_is)
    (case k5 => k_is)
    (case a6 => k_is)
    (case l6 => k_is)
    (case c6 => k_is)
    (case k6 => k_is)
    (case a7 => k_is)
    (case l7 => k_is)
    (case c7 => k_is)
    (case k7 => k_is)
    (case a8 => k_is)
    (case l8 => k_is)
    (case c8 => k_is)
    (case k8 => k_is)
    (case a9 => k_is)
    (case l9 => k_is)
    (case c9 => k_is)
    (case k9 => k_is)
    (case a10 => k_is)
    (case l10 => k_is)
    (case c10 => k_is)
    (case k10 => k_is)
    (case a11 => k_is)
    (case l11 => k_is)
    (case c11 => k_is)
    (case k11 => k_is)
    (case a12 => k_is)
    (case l12 => k_is)
    (case c12 => k_is)
    (case k12 => k_is)
    (case a13 => k_is)
    (case l13 => k_is)
    (case c13 => k_is)
    (case k13 => k_is)
    (case a14 => k_is)
    (case l14 => k_is)
    (case c14 => k_is)
    (case k14 => k_is)
    (case a15 => k_is)
    (case l15 => k_is)
    (case c15 => k_is)
    (case k15 => k_is)
    (case a16 => k_is)
    (case l16 => k_is)
    (case c16 => k_is)
    (case k16 => k_is)
    (case a17 => k_is)
    (case l17 => k_is)
    (case c17 => k_is)
    (case k17 => k_is)
    (case a18 => k_is)
    (case l18 => k_is)
    (case c18 => k_is)
    (case k18 => k_is)
    (case a19 => k_is)
    (case l19 => k_is)
    (case c19 => k_is)
    (case k19 => k_is)
    (case a20 => k_is)
    (case l20 => k_is)
    (case c20 => k_is)
    (case k20 => k_is)
    (case a21 => k_is)
    (case l21 => k_is)
    (case c21 => k_is)
    (case k21 => k_is)
    (case z1 => k_is)
    (case z2 => k_is)
    (case z3 => k_is)
    (case z4 => k_is)
    (case z5 => k_is)
    (case z6 => k_is)
    (case z7 => k_is)
    (case z8 => k_is)
    (case z9 => k_is)
    (case z10 => k_is)
