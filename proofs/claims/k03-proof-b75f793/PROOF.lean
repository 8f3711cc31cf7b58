import PyProof.Rows.All
import Wide.All
import OpenK.AllK
import Wide.FinOn
import HandS.ForMost
import HandS.Wide
import HandS.WideBits
import HandS.Defaults
import HandS.IsInst
import HandS.Gcd
import HandS.Flow
import KE.KDictKeyed
import KE.KMathGC
import HandS.Conv
import HandS.TupAny
import HandS.Codes
import HandS.More
import HandS.Style
import PySem.Challenge.RW_holdsalltrees_k03_embedding_whole
set_option Elab.async false
set_option linter.all false
set_option maxRecDepth 100000
set_option maxHeartbeats 4000000
/-! ### dicts whose keys are tuples of ints, texts and None; a table of right answers -/
namespace K11
open PySem PySem.Spec PyProof.Rows L2
def lV : Leaf → V
  | .none => .non
  | .num i => .int i
  | .text x => .str x
theorem lV_is {k : Leaf} {u : Value} (r : RelV (lV k) u) : Leaf.isOf k u = true := by
  cases k with
  | none =>
    have e : u = Value.none := r
    rw [e]
    rfl
  | num i =>
    obtain ⟨t, e⟩ := (show ∃ t, u = Value.int i t from r)
    rw [e]
    exact decide_eq_true rfl
  | text x =>
    obtain ⟨t, e⟩ := (show ∃ t, u = Value.str x t from r)
    rw [e]
    exact keyIs_str x t
abbrev LK (P : Program) (w : World) := tupleKind (leafKind P w)
theorem leaves_are {P : Program} {w : World} : ∀ {ks : List Leaf} {us : List Value}, Vals (ks.map lV) us → PySem.ItemsAre (leafKind P w) ks us := by
  intro ks
  induction ks with
  | nil =>
    intro us r
    cases us with
    | nil => exact .nil
    | cons a l => exact nomatch (show Vals [] (a :: l) from r)
  | cons k ks ih =>
    intro us r
    cases us with
    | nil => exact nomatch (show Vals (lV k :: ks.map lV) [] from r)
    | cons a l =>
      have r' : Vals (lV k :: ks.map lV) (a :: l) := r
      cases r' with
      | cons h t => exact .cons (lV_is h) (ih t)
theorem leaf_key {P : Program} {w : World} {H : Hp} {h : Heap} {b : Addr} {ks : List Leaf} (ok : HOk P w H h) (e : H b = some (.tup (ks.map lV))) : (LK P w).is h ks b := by
  have q : ObjOk P w H h b (.tup (ks.map lV)) := ok b _ e
  obtain ⟨_, its, rv, o, e1, e2, m, e3⟩ := q
  refine ⟨o, its.toArray, m, e1, e2, e3, ?_⟩
  have l := leaves_are (P := P) (w := w) rv
  simpa using l
/-- the dict at a has these entries -/
def RawD (P : Program) (w : World) (a : Addr) (xs : List (List Leaf × Addr × Value)) (h : Heap) : Prop :=
  (a == sysModules) = false ∧ ∃ o es ep, h.get? a = some o ∧ o.ExactDict ∧ o.data = .dict es ep ∧
    es.toList = xs.map (entryOfKey (LK P w)) ∧ (xs.map fun x => x.1).Nodup
theorem rawD_stays {P : Program} {w : World} {a : Addr} {xs : List (List Leaf × Addr × Value)} : ∀ h1 h2 : Heap, RawD P w a xs h1 →
    (∀ o, h1.get? a = some o → h2.get? a = some o) → RawD P w a xs h2 := by
  intro h1 h2 q st
  obtain ⟨q0, o, es, ep, e, r⟩ := q
  exact ⟨q0, o, es, ep, st o e, r⟩
/-- a table at a: its keys ks; each value is what S says of its key -/
def Tab (P : Program) (w : World) (S : List Leaf → V → Prop) (H : Hp) (a : Addr) (ks : List (List Leaf)) : Prop :=
  ∃ xs : List (List Leaf × Addr × Value), (xs.map fun x => x.1) = ks ∧ ks.Nodup ∧
    (∀ x ∈ xs, H x.2.1 = some (.tup (x.1.map lV)) ∧ ∃ v, RelV v x.2.2 ∧ S x.1 v) ∧ H a = some (.ext (RawD P w a xs))
/-- nothing but a is changed -/
def But (a : Addr) (H H' : Hp) : Prop := ∀ b o, b ≠ a → H b = some o → H' b = some o
theorem But.refl (a : Addr) (H : Hp) : But a H H := fun _ _ _ e => e
theorem But.trans {a : Addr} {H H1 H2 : Hp} (p : But a H H1) (q : But a H1 H2) : But a H H2 := fun b o n e => q b o n (p b o n e)
theorem But.same {a : Addr} {H H' : Hp} (p : Same H H') : But a H H' := fun b o _ e => p b o e
section
variable {P : Program} {w : World} {S : List Leaf → V → Prop} {H H' : Hp} {a : Addr} {ks : List (List Leaf)}
theorem Tab.keep (T : Tab P w S H a ks) (s : Same H H') : Tab P w S H' a ks := by
  obtain ⟨xs, e1, e2, e3, e4⟩ := T
  exact ⟨xs, e1, e2, fun x hx => ⟨s _ _ (e3 x hx).1, (e3 x hx).2⟩, s _ _ e4⟩
theorem Tab.holds (T : Tab P w S H a ks) : ∃ φ, H a = some (.ext φ) := let ⟨xs, _, _, _, e⟩ := T; ⟨_, e⟩
theorem Tab.all (T : Tab P w S H a ks) : ∀ k ∈ ks, ∃ v, S k v := by
  obtain ⟨xs, e1, e2, e3, e4⟩ := T
  intro k hk
  rw [← e1] at hk
  obtain ⟨x, hx, rfl⟩ := List.mem_map.mp hk
  obtain ⟨v, _, q⟩ := (e3 x hx).2
  exact ⟨v, q⟩
theorem Tab.nodup (T : Tab P w S H a ks) : ks.Nodup := let ⟨_, _, e, _⟩ := T; e
theorem Tab.dict {h : Heap} (ok : HOk P w H h) {xs : List (List Leaf × Addr × Value)}
    (e3 : ∀ x ∈ xs, H x.2.1 = some (.tup (x.1.map lV)) ∧ ∃ v, RelV v x.2.2 ∧ S x.1 v) (e4 : H a = some (.ext (RawD P w a xs))) :
    (a == sysModules) = false ∧ h.DictOfH (LK P w) a xs := by
  have q : ObjOk P w H h a (.ext (RawD P w a xs)) := ok a _ e4
  obtain ⟨⟨q0, o, es, ep, g1, g2, g3, g4, g5⟩, _⟩ := q
  exact ⟨q0, o, es, ep, g1, g2, g3, g4, fun x hx => leaf_key ok (e3 x hx).1, g5⟩
end
theorem atKey_some {xs : List (List Leaf × Addr × Value)} {k : List Leaf} : (atKey xs k).isSome = decide (k ∈ xs.map fun x => x.1) := by
  induction xs with
  | nil => simp [atKey]
  | cons x xs ih =>
    by_cases e : x.1 = k
    · have q : atKey (x :: xs) k = some x.2 := by simp [atKey, e]
      rw [q]; simp [e]
    · have q : atKey (x :: xs) k = atKey xs k := by simp [atKey, e]
      rw [q, ih]
      have e' : ¬ k = x.1 := fun z => e z.symm
      simp [e']
theorem atKey_mem {xs : List (List Leaf × Addr × Value)} {k : List Leaf} {p : Addr × Value} (h : atKey xs k = some p) : (k, p) ∈ xs := by
  unfold atKey at h
  obtain ⟨x, hx, rfl⟩ := Option.map_eq_some_iff.mp h
  have m := List.mem_of_find?_eq_some hx
  have e := List.find?_some hx
  have e' : x.1 = k := of_decide_eq_true e
  rw [← e']
  exact m
theorem stored_keys (xs : List (List Leaf × Addr × Value)) (k : List Leaf) (b : Addr) (v : Value) :
    ((storedH xs k b v).map fun x => x.1) = if k ∈ xs.map (fun x => x.1) then xs.map (fun x => x.1) else xs.map (fun x => x.1) ++ [k] := by
  unfold storedH
  have e := atKey_some (xs := xs) (k := k)
  by_cases h : k ∈ xs.map (fun x => x.1)
  · rw [decide_eq_true h] at e
    rw [if_pos e, if_pos h, List.map_map]
    refine List.map_congr_left fun x _ => ?_
    by_cases q : x.1 = k <;> simp [putAt, q]
  · rw [decide_eq_false h] at e
    rw [if_neg (by rw [e]; decide), if_neg h, List.map_append]
    rfl
theorem stored_mem {xs : List (List Leaf × Addr × Value)} {k : List Leaf} {b : Addr} {v : Value} {x : List Leaf × Addr × Value} (h : x ∈ storedH xs k b v) :
    x ∈ xs ∨ x = (k, b, v) ∨ ∃ y ∈ xs, y.1 = k ∧ x = (y.1, y.2.1, v) := by
  unfold storedH at h
  by_cases q : (atKey xs k).isSome = true
  · rw [if_pos q] at h
    obtain ⟨y, hy, rfl⟩ := List.mem_map.mp h
    by_cases e : y.1 = k
    · exact .inr (.inr ⟨y, hy, e, by simp [putAt, e]⟩)
    · left
      have z : putAt k v y = y := by simp [putAt, e]
      rw [z]; exact hy
  · rw [if_neg q] at h
    rcases List.mem_append.mp h with h | h
    · exact .inl h
    · right; left; simpa using h
/-! ### the rules -/
def tTNotIn (P : Program) (w : World) (ty td : TE) : TE := fun σ H Q => ty σ H fun y H1 => td σ H1 fun x H2 =>
  ∃ (S : List Leaf → V → Prop) (a b : Addr) (ks : List (List Leaf)) (k : List Leaf), x = .ref a ∧ y = .ref b ∧ Tab P w S H2 a ks ∧ H2 b = some (.tup (k.map lV)) ∧ Q (.bl (!decide (k ∈ ks))) H2
def tTGet (P : Program) (w : World) (td ty : TE) : TE := fun σ H Q => td σ H fun x H1 => ty σ H1 fun y H2 =>
  ∃ (S : List Leaf → V → Prop) (a b : Addr) (ks : List (List Leaf)) (k : List Leaf), x = .ref a ∧ y = .ref b ∧ Tab P w S H2 a ks ∧ H2 b = some (.tup (k.map lV)) ∧ k ∈ ks ∧ ∀ v, S k v → Q v H2
def sTPut (P : Program) (w : World) (td ty tv : TE) : TS := fun D σ H => tv σ H fun v H1 => td σ H1 fun x H2 => ty σ H2 fun y H3 =>
  ∃ (S : List Leaf → V → Prop) (a b : Addr) (ks : List (List Leaf)) (k : List Leaf), x = .ref a ∧ y = .ref b ∧ Tab P w S H3 a ks ∧ H3 b = some (.tup (k.map lV)) ∧ S k v ∧ ks.length < sizeLine ∧
    ∀ H4, But a H3 H4 → Tab P w S H4 a (if k ∈ ks then ks else ks ++ [k]) → D.nx σ H4
section
variable {X : Cx} {o i value : Expr} {pos pos' : Pos} {td ty tv : TE}
theorem pc_tnotin (hu : X.A.units + 1 < cLine) (hi : PE X i ty) (ho : PE X o td) : PC X .NotIn i o (tTNotIn X.prog X.w ty td) := by
  constructor
  intro pins s σ H Q I h
  refine thn (hi.run pins s σ H _ I h) fun iv s1 R1 => ?_
  obtain ⟨y, H1, I1, ry, q1⟩ := R1
  refine thn (ho.run pins s1 σ H1 _ I1 q1) fun u s2 R2 => ?_
  obtain ⟨x, H2, I2, rx, S, a, b, ks, k, ex, ey, T, eb, q2⟩ := R2
  subst ex ey
  have e1 : u = Value.ref a := rx
  have e2 : iv = Value.ref b := ry
  subst e1 e2
  obtain ⟨xs, g1, g2, g3, g4⟩ := T
  obtain ⟨hd, dd⟩ := Tab.dict I2.hok g3 g4
  refine wpAny_notIn_heap (tupleKind_room_in1 hu) (leaf_key I2.hok eb) hd dd ?_
  rw [atKey_some, g1]
  exact ⟨.bl (!decide (k ∈ ks)), H2, I2.tok _, rfl, q2⟩
theorem pe_tget (hu : X.A.units + 1 < cLine) (ho : PE X o td) (hi : PE X i ty) (hs : NoSl i) : PE X (.Subscript o i pos) (tTGet X.prog X.w td ty) := by
  constructor
  intro pins s σ H Q I h
  refine subD_of PySem.F.slot_dict_getitem.lookup hs ?_
  refine thn (ho.run pins s σ H _ I h) fun u s1 R1 => ?_
  obtain ⟨x, H1, I1, rx, q1⟩ := R1
  refine thn (hi.run pins s1 σ H1 _ I1 q1) fun iv s2 R2 => ?_
  obtain ⟨y, H2, I2, ry, S, a, b, ks, k, ex, ey, T, eb, hk, q2⟩ := R2
  subst ex ey
  have e1 : u = Value.ref a := rx
  have e2 : iv = Value.ref b := ry
  subst e1 e2
  obtain ⟨xs, g1, g2, g3, g4⟩ := T
  obtain ⟨hd, dd⟩ := Tab.dict I2.hok g3 g4
  refine ⟨dd.typeIs, ?_⟩
  have hsome : (atKey xs k).isSome = true := by rw [atKey_some, g1]; exact decide_eq_true hk
  obtain ⟨p, hp⟩ := Option.isSome_iff_exists.mp hsome
  obtain ⟨v, rv, sv⟩ := (g3 _ (atKey_mem hp)).2
  exact wpAny_getItem_heap (tupleKind_room_in1 hu) (leaf_key I2.hok eb) dd hp ⟨v, H2, I2.tok _, rv, q2 v sv⟩
theorem ps_tput (hu : X.A.units + 1 < cLine) (ho : PE X o td) (hi : PE X i ty) (hv : PE X value tv)
    (hs : swapsWith value (some (.Subscript o i pos')) pos.line X.env = pure false) : PS X (.Assign [.Subscript o i pos'] value pos) (sTPut X.prog X.w td ty tv) := by
  constructor
  intro pins s σ H D I h
  refine wpAny_Assign_Subscript ?_ hs
  refine thn (hv.run pins s σ H _ I h) fun r s1 R1 => ?_
  obtain ⟨v, H1, I1, rv, q1⟩ := R1
  refine thn (ho.run pins s1 σ H1 _ I1 q1) fun u s2 R2 => ?_
  obtain ⟨x, H2, I2, rx, q2⟩ := R2
  refine thn (hi.run pins s2 σ H2 _ I2 q2) fun iv s3 R3 => ?_
  obtain ⟨y, H3, I3, ry, S, a, b, ks, k, ex, ey, T, eb, sv, hl, q3⟩ := R3
  subst ex ey
  have e1 : u = Value.ref a := rx
  have e2 : iv = Value.ref b := ry
  subst e1 e2
  obtain ⟨xs, g1, g2, g3, g4⟩ := T
  obtain ⟨hd, dd⟩ := Tab.dict I3.hok g3 g4
  have hlen : xs.length = ks.length := by rw [← g1, List.length_map]
  refine wpAny_setItem_heap (hsz := by rw [hlen]; exact Nat.le_of_lt hl) (tupleKind_room_in1 hu) (leaf_key I3.hok eb) dd fun h' dd' sb => ?_
  obtain ⟨ob, es, ep, z1, z2, z3, z4, z5, z6⟩ := dd'
  have off : ∀ c, ∀ l, H3 c = some (.tup l) → c ≠ a := fun c l e => ne_of e g4 (fun z => nomatch z)
  have I4 : Inv X pins σ (upd H3 a (.ext (RawD X.prog X.w a (storedH xs k b r)))) { s3 with heap := h', toks := s3.toks + (LK X.prog X.w).draws k } := by
    refine d_write I3 (by rw [g4]; exact True.intro) sb ⟨ob, z1⟩ ?_
    exact ⟨⟨hd, ob, es, ep, z1, z2, z3, z4, z6⟩, ⟨ob, z1⟩, rawD_stays⟩
  refine ⟨σ, _, I4, ?_⟩
  refine q3 _ (fun c p n e => by rw [upd_ne n]; exact e) ?_
  refine ⟨storedH xs k b r, ?_, ?_, ?_, upd_same⟩
  · rw [stored_keys, g1]
  · rw [← g1, ← stored_keys xs k b r]
    exact z6
  · intro x hx
    rcases stored_mem hx with hx | rfl | ⟨y, hy, e, rfl⟩
    · obtain ⟨t1, t2⟩ := g3 x hx
      exact ⟨by rw [upd_ne (off _ _ t1)]; exact t1, t2⟩
    · exact ⟨by show upd H3 a _ b = _; rw [upd_ne (off _ _ eb)]; exact eb, v, rv, sv⟩
    · obtain ⟨t1, t2⟩ := g3 y hy
      refine ⟨by show upd H3 a _ y.2.1 = _; rw [upd_ne (off _ _ t1)]; exact t1, v, rv, ?_⟩
      show S y.1 v
      rw [e]; exact sv
/-- {}, to be such a table -/
def tTNew (P : Program) (w : World) : TE := fun _ H Q => ∀ p H', H p = none → Same H H' → (∀ S, Tab P w S H' p []) → Q (.ref p) H'
theorem pe_tnew : PE X (.Dict [] [] pos) (tTNew X.prog X.w) := by
  constructor
  intro pins s σ H Q I h
  have fr := I.hok.fresh (Nat.le_refl s.heap.objs.size)
  have nb : (s.heap.objs.size == sysModules) = false := beq_eq_false_iff_ne.mpr (Ne.symm (Nat.ne_of_lt I.big))
  have raw : RawD X.prog X.w s.heap.objs.size [] (s.heap.push { cls := .type "dict", data := .dict #[] }) :=
    ⟨nb, _, #[], 0, Heap.get?_push_size _ rfl, ⟨rfl, rfl, rfl⟩, rfl, rfl, List.nodup_nil⟩
  refine wpAny_Dict_empty ⟨.ref s.heap.objs.size, upd H s.heap.objs.size (.ext (RawD X.prog X.w s.heap.objs.size [])), ?_, rfl, ?_⟩
  · refine I.laid (t' := s.toks) (fun _ _ q => Heap.get?_push_of_some _ q) (Nat.le_refl _) ?_
    exact ⟨raw, ⟨_, Heap.get?_push_size _ rfl⟩, rawD_stays⟩
  · refine h _ _ fr (fun c o e => by rw [upd_ne (ne_of_none e fr)]; exact e) fun S => ?_
    exact ⟨[], rfl, List.nodup_nil, (fun x hx => by cases hx), upd_same⟩
end
/-! ### comb -/
def rComb : List V → Hp → VK → Prop := fun vs H Q => ∃ a b : Int, vs = [.int a, .int b] ∧ 0 ≤ a ∧ 0 ≤ b ∧ b ≤ 9000 ∧ a < 2 ^ 64 ∧ Q (.int (PySem.W.mcComb a b)) H
theorem cr_comb {X : Cx} : CallR X (.builtin "math.comb") rComb := by
  intro pins s σ H vs us Q I r h
  obtain ⟨a, b, rfl, ha, hb, hb2, ha2, q⟩ := h
  obtain ⟨t, u, rfl⟩ := Vals.int2 r
  exact PySem.W.mc_comb ha hb ha2 (.inl hb2) fun _ => ⟨.int _, H, I.tok _, ⟨_, rfl⟩, q⟩
end K11
set_option Elab.async false
set_option maxRecDepth 100000
namespace K21
/-! ### the numbers: low, the counts of products, the sizes -/
def lowN : Nat → Nat → Nat
  | 0, n => n
  | d + 1, n => ((List.range n).map fun j => lowN d (n / (j + 1))).sum
/-- the halving row of a number; f calls are enough where n < 2 ^ f -/
def halF : Nat → Nat → List Nat
  | 0, _ => []
  | f + 1, n => if n = 0 then [] else halF f (n / 2) ++ [n] ++ halF f ((n + 1) / 2 - 1)
def sz : Nat → Nat → Nat
  | 0, _ => 1
  | d + 1, n => ((halF 7 n).map (sz d)).sum
def upd1 (one : Nat) (cs l : List Nat) (o : Nat) : List Nat := l.set (one * (o + 1)) (l.getD (one * (o + 1)) 0 + cs.getD (o + 1) 0)
def updI (N : Nat) (cs l : List Nat) (i : Nat) : List Nat := (List.range (N / (i + 1))).foldl (upd1 (i + 1) cs) l
def stepC (N : Nat) (cs : List Nat) : List Nat := (List.range N).foldl (updI N cs) (List.replicate (N + 1) 0)
def cnts (N : Nat) : Nat → List Nat
  | 0 => List.replicate (N + 1) 1
  | s + 1 => stepC N (cnts N s)
def tabL : List (List Nat) := [
  [0, 1, 2, 3, 4, 5, 6, 7, 8, 9, 10, 11, 12, 13, 14, 15, 16, 17, 18, 19, 20, 21, 22, 23, 24, 25, 26, 27, 28, 29, 30, 31, 32, 33, 34, 35, 36, 37, 38, 39, 40, 41, 42, 43, 44, 45, 46, 47, 48, 49, 50, 51, 52, 53, 54, 55, 56, 57, 58, 59, 60],
  [0, 1, 3, 5, 8, 10, 14, 16, 20, 23, 27, 29, 35, 37, 41, 45, 50, 52, 58, 60, 66, 70, 74, 76, 84, 87, 91, 95, 101, 103, 111, 113, 119, 123, 127, 131, 140, 142, 146, 150, 158, 160, 168, 170, 176, 182, 186, 188, 198, 201, 207, 211, 217, 219, 227, 231, 239, 243, 247, 249, 261],
  [0, 1, 4, 7, 13, 16, 25, 28, 38, 44, 53, 56, 74, 77, 86, 95, 110, 113, 131, 134, 152, 161, 170, 173, 203, 209, 218, 228, 246, 249, 276, 279, 300, 309, 318, 327, 363, 366, 375, 384, 414, 417, 444, 447, 465, 483, 492, 495, 540, 546, 564, 573, 591, 594, 624, 633, 663, 672, 681, 684, 738],
  [0, 1, 5, 9, 19, 23, 39, 43, 63, 73, 89, 93, 133, 137, 153, 169, 204, 208, 248, 252, 292, 308, 324, 328, 408, 418, 434, 454, 494, 498, 562, 566, 622, 638, 654, 670, 770, 774, 790, 806, 886, 890, 954, 958, 998, 1038, 1054, 1058, 1198, 1208, 1248, 1264, 1304, 1308, 1388, 1404, 1484, 1500, 1516, 1520, 1680],
  [0, 1, 6, 11, 26, 31, 56, 61, 96, 111, 136, 141, 216, 221, 246, 271, 341, 346, 421, 426, 501, 526, 551, 556, 731, 746, 771, 806, 881, 886, 1011, 1016, 1142, 1167, 1192, 1217, 1442, 1447, 1472, 1497, 1672, 1677, 1802, 1807, 1882, 1957, 1982, 1987, 2337, 2352, 2427, 2452, 2527, 2532, 2707, 2732, 2907, 2932, 2957, 2962, 3337],
  [0, 1, 7, 13, 34, 40, 76, 82, 138, 159, 195, 201, 327, 333, 369, 405, 531, 537, 663, 669, 795, 831, 867, 873, 1209, 1230, 1266, 1322, 1448, 1454, 1670, 1676, 1928, 1964, 2000, 2036, 2477, 2483, 2519, 2555, 2891, 2897, 3113, 3119, 3245, 3371, 3407, 3413, 4169, 4190, 4316, 4352, 4478, 4484, 4820, 4856, 5192, 5228, 5264, 5270, 6026]]
def tabS : List (List Nat) := [
  [1, 1, 1, 1, 1, 1, 1, 1, 1, 1, 1, 1, 1, 1, 1, 1, 1, 1, 1, 1, 1, 1, 1, 1, 1, 1, 1, 1, 1, 1, 1, 1, 1, 1, 1, 1, 1, 1, 1, 1, 1, 1, 1, 1, 1, 1, 1, 1, 1, 1, 1, 1, 1, 1, 1, 1, 1, 1, 1, 1, 1],
  [0, 1, 2, 3, 4, 5, 6, 7, 8, 9, 10, 11, 12, 13, 14, 15, 16, 17, 18, 19, 20, 21, 22, 23, 24, 25, 26, 27, 28, 29, 30, 31, 32, 33, 34, 35, 36, 37, 38, 39, 40, 41, 42, 43, 44, 45, 46, 47, 48, 49, 50, 51, 52, 53, 54, 55, 56, 57, 58, 59, 60],
  [0, 1, 3, 5, 8, 11, 14, 17, 21, 25, 29, 33, 37, 41, 45, 49, 54, 59, 64, 69, 74, 79, 84, 89, 94, 99, 104, 109, 114, 119, 124, 129, 135, 141, 147, 153, 159, 165, 171, 177, 183, 189, 195, 201, 207, 213, 219, 225, 231, 237, 243, 249, 255, 261, 267, 273, 279, 285, 291, 297, 303],
  [0, 1, 4, 7, 13, 19, 25, 31, 41, 51, 61, 71, 81, 91, 101, 111, 126, 141, 156, 171, 186, 201, 216, 231, 246, 261, 276, 291, 306, 321, 336, 351, 372, 393, 414, 435, 456, 477, 498, 519, 540, 561, 582, 603, 624, 645, 666, 687, 708, 729, 750, 771, 792, 813, 834, 855, 876, 897, 918, 939, 960],
  [0, 1, 5, 9, 19, 29, 39, 49, 69, 89, 109, 129, 149, 169, 189, 209, 244, 279, 314, 349, 384, 419, 454, 489, 524, 559, 594, 629, 664, 699, 734, 769, 825, 881, 937, 993, 1049, 1105, 1161, 1217, 1273, 1329, 1385, 1441, 1497, 1553, 1609, 1665, 1721, 1777, 1833, 1889, 1945, 2001, 2057, 2113, 2169, 2225, 2281, 2337, 2393],
  [0, 1, 6, 11, 26, 41, 56, 71, 106, 141, 176, 211, 246, 281, 316, 351, 421, 491, 561, 631, 701, 771, 841, 911, 981, 1051, 1121, 1191, 1261, 1331, 1401, 1471, 1597, 1723, 1849, 1975, 2101, 2227, 2353, 2479, 2605, 2731, 2857, 2983, 3109, 3235, 3361, 3487, 3613, 3739, 3865, 3991, 4117, 4243, 4369, 4495, 4621, 4747, 4873, 4999, 5125],
  [0, 1, 7, 13, 34, 55, 76, 97, 153, 209, 265, 321, 377, 433, 489, 545, 671, 797, 923, 1049, 1175, 1301, 1427, 1553, 1679, 1805, 1931, 2057, 2183, 2309, 2435, 2561, 2813, 3065, 3317, 3569, 3821, 4073, 4325, 4577, 4829, 5081, 5333, 5585, 5837, 6089, 6341, 6593, 6845, 7097, 7349, 7601, 7853, 8105, 8357, 8609, 8861, 9113, 9365, 9617, 9869]]
def allN (n : Nat) (p : Nat → Bool) : Bool := (List.range n).all p
theorem allN_of {n : Nat} {p : Nat → Bool} (h : allN n p = true) {i : Nat} (hi : i < n) : p i = true :=
  List.all_eq_true.mp h i (List.mem_range.mpr hi)
def tl (d n : Nat) : Nat := (tabL.getD d []).getD n 0
def ts (d n : Nat) : Nat := (tabS.getD d []).getD n 0
theorem tl_step : (allN 5 fun d => allN 61 fun n => decide (tl (d + 1) n = ((List.range n).map fun j => tl d (n / (j + 1))).sum)) = true := by decide +kernel
theorem tl_zero : (allN 61 fun n => decide (tl 0 n = n)) = true := by decide +kernel
theorem ts_step : (allN 6 fun d => allN 61 fun n => decide (ts (d + 1) n = ((halF 7 n).map fun p => ts d p).sum)) = true := by decide +kernel
theorem ts_zero : (allN 61 fun n => decide (ts 0 n = 1)) = true := by decide +kernel
theorem tl_ts : (allN 6 fun d => allN 61 fun n => decide (tl d n ≤ ts (d + 1) n)) = true := by decide +kernel
theorem hal_le : (allN 61 fun n => (halF 7 n).all fun p => decide (p ≤ n)) = true := by decide +kernel
theorem low_tab : ∀ (d : Nat), d ≤ 5 → ∀ n, n ≤ 60 → lowN d n = tl d n
  | 0, _, n, hn => (of_decide_eq_true (allN_of tl_zero (show n < 61 by omega))).symm
  | d + 1, hd, n, hn => by
    rw [of_decide_eq_true (allN_of (allN_of tl_step (show d < 5 by omega)) (show n < 61 by omega))]
    show ((List.range n).map fun j => lowN d (n / (j + 1))).sum = _
    congr 1
    refine List.map_congr_left fun j _ => ?_
    exact low_tab d (by omega) (n / (j + 1)) (Nat.le_trans (Nat.div_le_self _ _) hn)
theorem sz_tab : ∀ (d : Nat), d ≤ 6 → ∀ n, n ≤ 60 → sz d n = ts d n
  | 0, _, n, hn => (of_decide_eq_true (allN_of ts_zero (show n < 61 by omega))).symm
  | d + 1, hd, n, hn => by
    rw [of_decide_eq_true (allN_of (allN_of ts_step (show d < 6 by omega)) (show n < 61 by omega))]
    show ((halF 7 n).map (sz d)).sum = _
    congr 1
    refine List.map_congr_left fun p hp => ?_
    have hl := List.all_eq_true.mp (allN_of hal_le (show n < 61 by omega)) p hp
    exact sz_tab d (by omega) p (Nat.le_trans (of_decide_eq_true hl) hn)
theorem low_le_sz {d n : Nat} (hd : d ≤ 5) (hn : n ≤ 60) : lowN d n ≤ sz (d + 1) n := by
  rw [low_tab d hd n hn, sz_tab (d + 1) (by omega) n hn]
  exact of_decide_eq_true (allN_of (allN_of tl_ts (show d < 6 by omega)) (show n < 61 by omega))
/-! the counts of products, summed up to M -/
def Ps (l : List Nat) (M : Nat) : Nat := ((List.range M).map fun j => l.getD (j + 1) 0).sum
theorem Ps_succ (l : List Nat) (M : Nat) : Ps l (M + 1) = Ps l M + l.getD (M + 1) 0 := by
  unfold Ps
  rw [List.range_succ, List.map_append, List.sum_append]
  simp
theorem getD_set (l : List Nat) (k j x : Nat) : (l.set k x).getD j 0 = if j = k ∧ k < l.length then x else l.getD j 0 := by
  rw [List.getD_eq_getElem?_getD, List.getD_eq_getElem?_getD, List.getElem?_set]
  by_cases h : k = j
  · subst h
    by_cases q : k < l.length
    · rw [if_pos rfl, if_pos q, if_pos ⟨rfl, q⟩]; rfl
    · rw [if_pos rfl, if_neg q, if_neg (fun z => q z.2), List.getElem?_eq_none (by omega)]
  · rw [if_neg h, if_neg (fun z => h z.1.symm)]
theorem Ps_set (l : List Nat) (k x M : Nat) (hk : 1 ≤ k) (hl : k < l.length) : Ps (l.set k (l.getD k 0 + x)) M = Ps l M + if k ≤ M then x else 0 := by
  induction M with
  | zero => rw [if_neg (by omega)]; rfl
  | succ M ih =>
    rw [Ps_succ, Ps_succ, ih, getD_set]
    by_cases h : k ≤ M
    · rw [if_pos h, if_pos (show k ≤ M + 1 by omega), if_neg (show ¬ (M + 1 = k ∧ k < l.length) by omega)]; omega
    · rw [if_neg h]
      by_cases q : k = M + 1
      · rw [if_pos (show k ≤ M + 1 by omega), if_pos ⟨q.symm, hl⟩, q]; omega
      · rw [if_neg (show ¬ k ≤ M + 1 by omega), if_neg (show ¬ (M + 1 = k ∧ k < l.length) by omega)]; omega
theorem upd1_len (one : Nat) (cs l : List Nat) (o : Nat) : (upd1 one cs l o).length = l.length := List.length_set ..
theorem fold_len (one : Nat) (cs : List Nat) : ∀ (os : List Nat) (l : List Nat), (os.foldl (upd1 one cs) l).length = l.length
  | [], _ => rfl
  | o :: os, l => by rw [List.foldl_cons, fold_len one cs os, upd1_len]
theorem updI_len (N : Nat) (cs l : List Nat) (i : Nat) : (updI N cs l i).length = l.length := fold_len _ _ _ _
theorem updI_Ps (N M : Nat) (cs l : List Nat) (i : Nat) (hl : l.length = N + 1) (hM : M ≤ N) : Ps (updI N cs l i) M = Ps l M + Ps cs (M / (i + 1)) := by
  have key : ∀ n, n ≤ N / (i + 1) → Ps ((List.range n).foldl (upd1 (i + 1) cs) l) M = Ps l M + Ps cs (min n (M / (i + 1))) := by
    intro n
    induction n with
    | zero => intro _; rw [Nat.zero_min]; rfl
    | succ n ih =>
      intro hn
      rw [List.range_succ, List.foldl_append]
      show Ps (upd1 (i + 1) cs ((List.range n).foldl (upd1 (i + 1) cs) l) n) M = _
      have hk : (i + 1) * (n + 1) ≤ N := by
        have := Nat.mul_le_mul_left (i + 1) hn
        exact Nat.le_trans this (Nat.mul_div_le N (i + 1))
      have h1 : 1 ≤ (i + 1) * (n + 1) := Nat.mul_pos (by omega) (by omega)
      have ih' := ih (by omega)
      have hX := fold_len (i + 1) cs (List.range n) l
      generalize (List.range n).foldl (upd1 (i + 1) cs) l = X at ih' hX
      unfold upd1
      rw [Ps_set _ _ _ _ h1 (by rw [hX, hl]; omega), ih']
      have iff : (i + 1) * (n + 1) ≤ M ↔ n + 1 ≤ M / (i + 1) := by
        rw [Nat.le_div_iff_mul_le (by omega), Nat.mul_comm]
      by_cases c : n + 1 ≤ M / (i + 1)
      · rw [if_pos (iff.mpr c), Nat.min_eq_left (by omega), Nat.min_eq_left c, Ps_succ]; omega
      · rw [if_neg (fun z => c (iff.mp z)), Nat.min_eq_right (by omega), Nat.min_eq_right (by omega)]; omega
  have h := key (N / (i + 1)) (Nat.le_refl _)
  rw [Nat.min_eq_right (Nat.div_le_div_right hM)] at h
  exact h
theorem stepC_len (N : Nat) (cs : List Nat) : (stepC N cs).length = N + 1 := by
  unfold stepC
  have : ∀ (is l : List Nat), (is.foldl (updI N cs) l).length = l.length := by
    intro is
    induction is with
    | nil => exact fun _ => rfl
    | cons i is ih => intro l; rw [List.foldl_cons, ih, updI_len]
  rw [this, List.length_replicate]
theorem fold_updI (N : Nat) (cs : List Nat) : ∀ n, ((List.range n).foldl (updI N cs) (List.replicate (N + 1) 0)).length = N + 1 := by
  intro n
  induction n with
  | zero => exact List.length_replicate ..
  | succ n ih => rw [List.range_succ, List.foldl_append]; show (updI N cs _ n).length = _; rw [updI_len, ih]
theorem stepC_Ps (N M : Nat) (cs : List Nat) (hM : M ≤ N) : Ps (stepC N cs) M = ((List.range N).map fun i => Ps cs (M / (i + 1))).sum := by
  have key : ∀ n, Ps ((List.range n).foldl (updI N cs) (List.replicate (N + 1) 0)) M = ((List.range n).map fun i => Ps cs (M / (i + 1))).sum := by
    intro n
    induction n with
    | zero =>
      show Ps (List.replicate (N + 1) 0) M = 0
      unfold Ps
      have : ((List.range M).map fun j => (List.replicate (N + 1) 0).getD (j + 1) 0) = List.replicate M 0 := by
        rw [List.eq_replicate_iff]
        refine ⟨by rw [List.length_map, List.length_range], fun b hb => ?_⟩
        obtain ⟨j, hj, rfl⟩ := List.mem_map.mp hb
        rw [List.getD_eq_getElem?_getD, List.getElem?_replicate]
        by_cases c : j + 1 < N + 1
        · rw [if_pos c]; rfl
        · rw [if_neg c]; rfl
      rw [this]
      simp
    | succ n ih =>
      rw [List.range_succ, List.foldl_append, List.map_append, List.sum_append, ← ih]
      show Ps (updI N cs _ n) M = _
      rw [updI_Ps N M cs _ n (fold_updI N cs n) hM]
      simp
  exact key N
theorem cnts_len (N : Nat) : ∀ s, (cnts N s).length = N + 1
  | 0 => List.length_replicate ..
  | s + 1 => stepC_len N _
theorem lowN_zero : ∀ s, lowN s 0 = 0
  | 0 => rfl
  | _ + 1 => rfl
theorem cnts_Ps (N : Nat) : ∀ (s M : Nat), M ≤ N → Ps (cnts N s) M = lowN s M
  | 0, M, hM => by
    show Ps (List.replicate (N + 1) 1) M = M
    induction M with
    | zero => rfl
    | succ M ih =>
      rw [Ps_succ, ih (by omega), List.getD_eq_getElem?_getD, List.getElem?_replicate, if_pos (by omega)]
      rfl
  | s + 1, M, hM => by
    show Ps (stepC N (cnts N s)) M = ((List.range M).map fun j => lowN s (M / (j + 1))).sum
    rw [stepC_Ps N M _ hM]
    have e : ((List.range N).map fun i => Ps (cnts N s) (M / (i + 1))) = (List.range N).map fun i => lowN s (M / (i + 1)) := by
      refine List.map_congr_left fun i _ => cnts_Ps N s (M / (i + 1)) (Nat.le_trans (Nat.div_le_self _ _) hM)
    rw [e]
    have z : ∀ k, ((List.range (M + k)).map fun i => lowN s (M / (i + 1))).sum = ((List.range M).map fun j => lowN s (M / (j + 1))).sum := by
      intro k
      induction k with
      | zero => rfl
      | succ k ih =>
        rw [← Nat.add_assoc, List.range_succ, List.map_append, List.sum_append, ih]
        have : M / (M + k + 1) = 0 := Nat.div_eq_of_lt (by omega)
        simp [this, lowN_zero]
    have := z (N - M)
    rw [show M + (N - M) = N by omega] at this
    exact this
theorem cnts_sum {s N : Nat} : ((cnts N s).drop 1).sum = lowN s N := by
  rw [← cnts_Ps N s N (Nat.le_refl _)]
  unfold Ps
  congr 1
  refine List.ext_getElem? fun i => ?_
  rw [List.getElem?_drop, List.getElem?_map]
  have hl := cnts_len N s
  by_cases c : i < N
  · rw [List.getElem?_range c]
    show _ = some ((cnts N s).getD (i + 1) 0)
    rw [Nat.add_comm 1 i, List.getElem?_eq_getElem (by omega), List.getD_eq_getElem?_getD, List.getElem?_eq_getElem (by omega)]
    rfl
  · rw [List.getElem?_eq_none (by omega), List.getElem?_eq_none (by rw [List.length_range]; omega)]
    rfl
theorem low_small2 {m : Nat} (hm : m ≤ 17) (h : lowN 1 m ≤ 16) : m ≤ 7 := by
  rw [low_tab 1 (by decide) m (by omega)] at h
  have t : (allN 18 fun m => !decide (tl 1 m ≤ 16) || decide (m ≤ 7)) = true := by decide +kernel
  have q := allN_of t (show m < 18 by omega)
  rw [decide_eq_true h] at q
  simpa using q
theorem low_small3 {m : Nat} (hm : m ≤ 17) (h : lowN 2 m ≤ 16) : m ≤ 5 := by
  rw [low_tab 2 (by decide) m (by omega)] at h
  have t : (allN 18 fun m => !decide (tl 2 m ≤ 16) || decide (m ≤ 5)) = true := by decide +kernel
  have q := allN_of t (show m < 18 by omega)
  rw [decide_eq_true h] at q
  simpa using q
end K21
set_option Elab.async false
set_option maxRecDepth 100000
namespace K21
/-! ### trees, embeddings, full trees, complete trees -/
inductive Tr where
  | node (cs : List Tr)
def Tr.kids : Tr → List Tr
  | .node cs => cs
/-- leaves, where the height is at most the first number -/
def lv : Nat → Tr → Nat
  | 0, _ => 1
  | n + 1, t => if t.kids = [] then 1 else (t.kids.map (lv n)).sum
def Hb : Nat → Tr → Prop
  | 0, t => t.kids = []
  | n + 1, t => ∀ c ∈ t.kids, Hb n c
/-- full of this height -/
def Fu : Nat → Tr → Prop
  | 0, t => t.kids = []
  | d + 1, t => t.kids ≠ [] ∧ ∀ c ∈ t.kids, Fu d c
def fl : Nat → Tr → Nat
  | 0, _ => 1
  | d + 1, t => (t.kids.map (fl d)).sum
/-- both lists from the right: each small one goes to a big one -/
def Emb (h : Tr → Tr → Prop) : List Tr → List Tr → Prop
  | _, [] => True
  | [], _ :: _ => False
  | b :: bs, s :: ss => Emb h bs (s :: ss) ∨ (Emb h bs ss ∧ h b s)
def HQ (Q : Tr → Prop) : Nat → Tr → Tr → Prop
  | 0, b, _ => Q b
  | d + 1, b, s => Emb (HQ Q d) b.kids.reverse s.kids.reverse
/-- b holds s, where the height of s is at most d -/
def Ho (d : Nat) (b s : Tr) : Prop := HQ (fun _ => True) d b s
theorem Emb.nil (h : Tr → Tr → Prop) (bs : List Tr) : Emb h bs [] := by cases bs <;> exact True.intro
theorem Emb.len {h : Tr → Tr → Prop} : ∀ {bs ss : List Tr}, Emb h bs ss → ss.length ≤ bs.length
  | _, [], _ => Nat.zero_le _
  | [], _ :: _, e => e.elim
  | b :: bs, s :: ss, e => by
    rcases e with e | ⟨e, _⟩
    · have := Emb.len e; rw [List.length_cons] at this ⊢; rw [List.length_cons]; omega
    · have := Emb.len e; rw [List.length_cons, List.length_cons]; omega
/-- nodes of depth e of which Q is true -/
noncomputable def cQ (Q : Tr → Prop) : Nat → Tr → Nat
  | 0, t => by classical exact if Q t then 1 else 0
  | e + 1, t => (t.kids.map (cQ Q e)).sum
theorem sum_le_sum {α : Type} (f g : α → Nat) : ∀ l : List α, (∀ a ∈ l, f a ≤ g a) → (l.map f).sum ≤ (l.map g).sum
  | [], _ => Nat.le_refl _
  | a :: l, h => by
    rw [List.map_cons, List.map_cons, List.sum_cons, List.sum_cons]
    exact Nat.add_le_add (h a (List.mem_cons_self ..)) (sum_le_sum f g l fun b hb => h b (List.mem_cons_of_mem _ hb))
theorem lv_pos : ∀ (m : Nat) (t : Tr), 1 ≤ lv m t
  | 0, _ => Nat.le_refl _
  | m + 1, t => by
    unfold lv
    by_cases h : t.kids = []
    · rw [if_pos h]; exact Nat.le_refl _
    · rw [if_neg h]
      obtain ⟨c, cs, e⟩ : ∃ c cs, t.kids = c :: cs := by
        cases q : t.kids with
        | nil => exact absurd q h
        | cons c cs => exact ⟨c, cs, rfl⟩
      rw [e, List.map_cons, List.sum_cons]
      have := lv_pos m c
      omega
theorem cQ_le (Q : Tr → Prop) : ∀ (e m : Nat) (t : Tr), Hb m t → cQ Q e t ≤ lv m t
  | 0, m, t, _ => by
    have h := lv_pos m t
    unfold cQ
    by_cases q : Q t
    · rw [if_pos q]; exact h
    · rw [if_neg q]; exact Nat.zero_le _
  | e + 1, 0, t, h => by
    have h' : t.kids = [] := h
    unfold cQ
    rw [h']
    exact Nat.zero_le _
  | e + 1, m + 1, t, h => by
    unfold cQ lv
    by_cases k : t.kids = []
    · rw [k]; exact Nat.zero_le _
    · rw [if_neg k]
      exact sum_le_sum _ _ _ fun c hc => cQ_le Q e m c (h c hc)
/-- how many children there are of which Q is true -/
noncomputable def nQ (Q : Tr → Prop) (l : List Tr) : Nat := (l.map (cQ Q 0)).sum
theorem nQ_cons (Q : Tr → Prop) (a : Tr) (l : List Tr) : nQ Q (a :: l) = cQ Q 0 a + nQ Q l := by
  unfold nQ
  rw [List.map_cons, List.sum_cons]
theorem nQ_rev (Q : Tr → Prop) : ∀ l : List Tr, nQ Q l.reverse = nQ Q l
  | [] => rfl
  | a :: l => by
    rw [List.reverse_cons]
    have h : nQ Q (l.reverse ++ [a]) = nQ Q l.reverse + nQ Q [a] := by unfold nQ; rw [List.map_append, List.sum_append]
    rw [h, nQ_rev Q l, nQ_cons, nQ_cons]
    show nQ Q l + (cQ Q 0 a + 0) = _
    omega
theorem cQ_yes {Q : Tr → Prop} {t : Tr} (h : Q t) : cQ Q 0 t = 1 := by unfold cQ; rw [if_pos h]
theorem emb_count {Q : Tr → Prop} : ∀ {bs ss : List Tr}, Emb (HQ Q 0) bs ss → ss.length ≤ nQ Q bs
  | _, [], _ => Nat.zero_le _
  | [], _ :: _, e => e.elim
  | b :: bs, s :: ss, e => by
    rw [nQ_cons]
    rcases e with e | ⟨e, q⟩
    · have := emb_count e; omega
    · have := emb_count e
      have q' : Q b := q
      rw [cQ_yes q', List.length_cons]
      omega
/-- T comes from S by at least j children for each leaf -/
inductive Two (R : Tr → Tr → Prop) : List Tr → List Tr → Prop
  | nil : Two R [] []
  | cons {a b : Tr} {as bs : List Tr} : R a b → Two R as bs → Two R (a :: as) (b :: bs)
theorem Two.app {R : Tr → Tr → Prop} {as bs cs ds : List Tr} (h : Two R as bs) (k : Two R cs ds) : Two R (as ++ cs) (bs ++ ds) := by
  induction h with
  | nil => exact k
  | cons r _ ih => exact .cons r ih
theorem Two.rev {R : Tr → Tr → Prop} {as bs : List Tr} (h : Two R as bs) : Two R as.reverse bs.reverse := by
  induction h with
  | nil => exact .nil
  | cons r _ ih =>
    rw [List.reverse_cons, List.reverse_cons]
    exact ih.app (.cons r .nil)
def XR (j : Nat) : Nat → Tr → Tr → Prop
  | 0, s, t => s.kids = [] ∧ j ≤ t.kids.length
  | e + 1, s, t => Two (XR j e) s.kids t.kids
theorem emb_two {h h' : Tr → Tr → Prop} {R : Tr → Tr → Prop} (k : ∀ b s t, R s t → h b t → h' b s) : ∀ {bs ss ts : List Tr}, Two R ss ts → Emb h bs ts → Emb h' bs ss
  | bs, [], _, .nil, _ => Emb.nil _ _
  | [], _ :: _, _, .cons _ _, e => e.elim
  | b :: bs, s :: ss, t :: ts, .cons r q, e => by
    rcases e with e | ⟨e, x⟩
    · exact .inl (emb_two k (.cons r q) e)
    · exact .inr ⟨emb_two k q e, k b s t r x⟩
/-- at least j children of which Q is true -/
def Qj (Q : Tr → Prop) (j : Nat) (t : Tr) : Prop := j ≤ nQ Q t.kids
theorem HQ_ext {Q : Tr → Prop} {j : Nat} : ∀ (e : Nat) (b s t : Tr), XR j e s t → HQ Q (e + 1) b t → HQ (Qj Q j) e b s
  | 0, b, s, t, x, h => by
    have q : Emb (HQ Q 0) b.kids.reverse t.kids.reverse := h
    have l := emb_count q
    rw [nQ_rev, List.length_reverse] at l
    exact Nat.le_trans x.2 l
  | e + 1, b, s, t, x, h => emb_two (fun b s t r y => HQ_ext e b s t r y) (Two.rev x) h
theorem fl_pos : ∀ (d : Nat) (t : Tr), Fu d t → 1 ≤ fl d t
  | 0, _, _ => Nat.le_refl _
  | d + 1, t, h => by
    obtain ⟨n, f⟩ := h
    unfold fl
    cases q : t.kids with
    | nil => exact absurd q n
    | cons c cs =>
      rw [List.map_cons, List.sum_cons]
      have := fl_pos d c (f c (by rw [q]; exact List.mem_cons_self ..))
      omega
theorem sum_ones (n : Nat) (d : Nat) : ((List.replicate n (Tr.node [])).map (fl 0)).sum = n := by
  induction n with
  | zero => rfl
  | succ n ih => rw [List.replicate_succ, List.map_cons, List.sum_cons, ih]; show 1 + n = n + 1; omega
/-- such a tree of any greater number of leaves -/
theorem ext_ex {j : Nat} (hj : 1 ≤ j) : ∀ (e : Nat) (s : Tr), Fu e s → ∀ n, fl e s * j ≤ n → ∃ t, Fu (e + 1) t ∧ fl (e + 1) t = n ∧ XR j e s t
  | 0, s, hs, n, hn => by
    have hn' : j ≤ n := by
      have : (1 : Nat) * j ≤ n := hn
      omega
    refine ⟨.node (List.replicate n (.node [])), ⟨?_, ?_⟩, sum_ones n 0, hs, ?_⟩
    · intro z
      have : n = 0 := by
        have := congrArg List.length (show List.replicate n (Tr.node []) = [] from z)
        simpa using this
      omega
    · intro c hc
      rw [(List.mem_replicate.mp hc).2]
      rfl
    · show j ≤ (List.replicate n (Tr.node [])).length
      rw [List.length_replicate]
      exact hn'
  | e + 1, s, hs, n, hn => by
    -- all children but the first one grow as little as they may
    have rest : ∀ l : List Tr, (∀ c ∈ l, Fu e c) → ∃ ts, (∀ t ∈ ts, Fu (e + 1) t) ∧ (ts.map (fl (e + 1))).sum = (l.map (fl e)).sum * j ∧ Two (XR j e) l ts := by
      intro l
      induction l with
      | nil => exact fun _ => ⟨[], (fun t ht => by cases ht), (by simp), .nil⟩
      | cons c cs ih =>
        intro h
        obtain ⟨ts, a1, a2, a3⟩ := ih fun d hd => h d (List.mem_cons_of_mem _ hd)
        obtain ⟨t, b1, b2, b3⟩ := ext_ex hj e c (h c (List.mem_cons_self ..)) (fl e c * j) (Nat.le_refl _)
        refine ⟨t :: ts, fun x hx => ?_, ?_, .cons b3 a3⟩
        · rcases List.mem_cons.mp hx with rfl | hx
          · exact b1
          · exact a1 x hx
        · rw [List.map_cons, List.sum_cons, a2, b2, List.map_cons, List.sum_cons, Nat.add_mul]
    obtain ⟨hne, hf⟩ := hs
    unfold fl at hn
    cases q : s.kids with
    | nil => exact absurd q hne
    | cons c cs =>
      rw [q] at hf hn
      obtain ⟨ts, a1, a2, a3⟩ := rest cs fun d hd => hf d (List.mem_cons_of_mem _ hd)
      rw [List.map_cons, List.sum_cons, Nat.add_mul] at hn
      obtain ⟨t, b1, b2, b3⟩ := ext_ex hj e c (hf c (List.mem_cons_self ..)) (n - (cs.map (fl e)).sum * j) (by omega)
      refine ⟨.node (t :: ts), ⟨(fun z => nomatch z), fun x hx => ?_⟩, ?_, ?_⟩
      · rcases List.mem_cons.mp (show x ∈ t :: ts from hx) with rfl | hx
        · exact b1
        · exact a1 x hx
      · show ((t :: ts).map (fl (e + 1))).sum = n
        rw [List.map_cons, List.sum_cons, a2, b2]
        omega
      · show Two (XR j e) s.kids (t :: ts)
        rw [q]
        exact .cons b3 a3
/-- complete for the height d and n leaves, with Q at the leaves' images -/
def Cpl (Q : Tr → Prop) (d n : Nat) (b : Tr) : Prop := ∀ s, Fu d s → fl d s = n → HQ Q d b s
theorem sum_range_split (f g : Nat → Nat) : ∀ n, (∀ i, i < n → f i ≤ g i) → ((List.range n).map f).sum ≤ ((List.range n).map g).sum :=
  fun n h => sum_le_sum f g _ fun i hi => h i (List.mem_range.mp hi)
/-- the nodes with at least 1, 2, .. children of the kind -/
theorem le_count (k : Nat) : ∀ n, ((List.range n).map fun i => if i + 1 ≤ k then 1 else 0).sum ≤ k := by
  intro n
  have h : ((List.range n).map fun i => if i + 1 ≤ k then 1 else 0).sum = min n k := by
    induction n with
    | zero => simp
    | succ n ih =>
      rw [List.range_succ, List.map_append, List.sum_append, ih]
      by_cases c : n + 1 ≤ k
      · simp [c]; omega
      · simp [c]; omega
  rw [h]
  omega
theorem sum_swap {α : Type} (f : Nat → α → Nat) (n : Nat) : ∀ l : List α, ((List.range n).map fun i => (l.map (f i)).sum).sum = (l.map fun a => ((List.range n).map fun i => f i a).sum).sum
  | [] => by
    have : ((List.range n).map fun i => (([] : List α).map (f i)).sum) = List.replicate n 0 := by
      rw [List.eq_replicate_iff]
      refine ⟨by rw [List.length_map, List.length_range], fun b hb => ?_⟩
      obtain ⟨i, _, rfl⟩ := List.mem_map.mp hb
      rfl
    rw [this]
    simp
  | a :: l => by
    rw [List.map_cons, List.sum_cons, ← sum_swap f n l]
    have : ((List.range n).map fun i => ((a :: l).map (f i)).sum) = (List.range n).map fun i => f i a + (l.map (f i)).sum := by
      refine List.map_congr_left fun i _ => ?_
      rw [List.map_cons, List.sum_cons]
    rw [this]
    generalize List.range n = r
    induction r with
    | nil => rfl
    | cons x r ih => rw [List.map_cons, List.sum_cons, ih, List.map_cons, List.sum_cons, List.map_cons, List.sum_cons]; omega
theorem cQ_zero (Q : Tr → Prop) (t : Tr) [Decidable (Q t)] : cQ Q 0 t = if Q t then 1 else 0 := by
  unfold cQ
  by_cases h : Q t
  · rw [if_pos h, if_pos h]
  · rw [if_neg h, if_neg h]
theorem cQ_sum (Q : Tr → Prop) (n : Nat) : ∀ (e : Nat) (t : Tr), ((List.range n).map fun i => cQ (Qj Q (i + 1)) e t).sum ≤ cQ Q (e + 1) t
  | 0, t => by
    have h : ((List.range n).map fun i => cQ (Qj Q (i + 1)) 0 t) = (List.range n).map fun i => if i + 1 ≤ nQ Q t.kids then 1 else 0 := by
      refine List.map_congr_left fun i _ => ?_
      classical
      rw [cQ_zero]
      by_cases c : i + 1 ≤ nQ Q t.kids
      · rw [if_pos c, if_pos (show Qj Q (i + 1) t from c)]
      · rw [if_neg c, if_neg (show ¬ Qj Q (i + 1) t from c)]
    rw [h]
    exact le_count _ n
  | e + 1, t => by
    have h : ((List.range n).map fun i => cQ (Qj Q (i + 1)) (e + 1) t) = (List.range n).map fun i => (t.kids.map (cQ (Qj Q (i + 1)) e)).sum := rfl
    rw [h, sum_swap]
    exact sum_le_sum _ _ _ fun c _ => cQ_sum Q n e c
theorem fu_star (n : Nat) (h : 1 ≤ n) : Fu 1 (.node (List.replicate n (.node []))) := by
  refine ⟨fun z => ?_, fun c hc => ?_⟩
  · have := congrArg List.length (show List.replicate n (Tr.node []) = [] from z)
    simp at this
    omega
  · rw [(List.mem_replicate.mp hc).2]
    rfl
/-- a complete tree has at least so many nodes of this depth -/
theorem low_le : ∀ (d : Nat) (Q : Tr → Prop) (n : Nat) (b : Tr), 1 ≤ n → Cpl Q (d + 1) n b → lowN d n ≤ cQ Q (d + 1) b
  | 0, Q, n, b, hn, h => by
    have q : Emb (HQ Q 0) b.kids.reverse (List.replicate n (Tr.node [])).reverse := h (.node (List.replicate n (.node []))) (fu_star n hn) (sum_ones n 0)
    have l := emb_count q
    rw [nQ_rev, List.length_reverse, List.length_replicate] at l
    exact l
  | d + 1, Q, n, b, hn, h => by
    show ((List.range n).map fun j => lowN d (n / (j + 1))).sum ≤ _
    refine Nat.le_trans (sum_range_split _ (fun i => cQ (Qj Q (i + 1)) (d + 1) b) n fun i hi => ?_) (cQ_sum Q n (d + 1) b)
    have hp : 1 ≤ n / (i + 1) := (Nat.one_le_div_iff (by omega)).mpr (by omega)
    refine low_le d (Qj Q (i + 1)) (n / (i + 1)) b hp fun s hs hf => ?_
    obtain ⟨t, t1, t2, t3⟩ := ext_ex (j := i + 1) (by omega) (d + 1) s hs n (by rw [hf]; exact Nat.div_mul_le_self n (i + 1))
    exact HQ_ext (d + 1) b s t t3 (h t t1 t2)
/-- .. and so many leaves -/
theorem low_leaves {d n m : Nat} {b : Tr} (hn : 1 ≤ n) (hb : Hb m b) (h : ∀ s, Fu (d + 1) s → fl (d + 1) s = n → Ho (d + 1) b s) : lowN d n ≤ lv m b :=
  Nat.le_trans (low_le d (fun _ => True) n b hn h) (cQ_le _ (d + 1) m b hb)
end K21
set_option Elab.async false
set_option linter.all false
set_option maxRecDepth 100000
namespace K21
/-! ### rows and their trees -/
def stepP (d : Int) (st : List (List Int) × List Int) (x : Int) : List (List Int) × List Int := if x = d then (st.1 ++ [st.2], []) else (st.1, st.2 ++ [x])
def partsOf (d : Int) (row : List Int) : List (List Int) := (row.foldl (stepP d) ([], [])).1 ++ [(row.foldl (stepP d) ([], [])).2]
def treeOf : Nat → List Int → Tr
  | 0, _ => .node []
  | d + 1, row => .node ((partsOf ((d + 1 : Nat) : Int) row).map (treeOf d))
theorem step_none {d : Int} : ∀ (r : List Int) (st : List (List Int) × List Int), (∀ x ∈ r, x ≠ d) → r.foldl (stepP d) st = (st.1, st.2 ++ r)
  | [], st, _ => by rw [List.append_nil]; rfl
  | x :: r, st, h => by
    rw [List.foldl_cons, step_none r _ fun y hy => h y (List.mem_cons_of_mem _ hy)]
    unfold stepP
    rw [if_neg (h x (List.mem_cons_self ..))]
    simp
theorem step_done {d : Int} : ∀ (r : List Int) (a : List (List Int)) (b : List Int), r.foldl (stepP d) (a, b) = (a ++ (r.foldl (stepP d) ([], b)).1, (r.foldl (stepP d) ([], b)).2)
  | [], a, b => by simp
  | x :: r, a, b => by
    rw [List.foldl_cons, List.foldl_cons]
    by_cases h : x = d
    · have e1 : stepP d (a, b) x = (a ++ [b], []) := if_pos h
      have e2 : stepP d ([], b) x = ([b], []) := if_pos h
      rw [e1, e2, step_done r (a ++ [b]) [], step_done r [b] []]
      simp
    · have e1 : stepP d (a, b) x = (a, b ++ [x]) := if_neg h
      have e2 : stepP d ([], b) x = ([], b ++ [x]) := if_neg h
      rw [e1, e2, step_done r a (b ++ [x])]
theorem parts_none {d : Int} {r : List Int} (h : ∀ x ∈ r, x ≠ d) : partsOf d r = [r] := by
  unfold partsOf
  rw [step_none r _ h]
  simp
theorem parts_app {d : Int} {r s : List Int} (h : ∀ x ∈ r, x ≠ d) : partsOf d (r ++ d :: s) = r :: partsOf d s := by
  unfold partsOf
  have e : (r ++ d :: s).foldl (stepP d) ([], []) = ([r] ++ (s.foldl (stepP d) ([], [])).1, (s.foldl (stepP d) ([], [])).2) := by
    rw [List.foldl_append, step_none r _ h, List.foldl_cons]
    have e2 : stepP d (([] : List (List Int)), [] ++ r) d = ([r], []) := by
      unfold stepP
      rw [if_pos rfl]
      simp
    rw [e2, step_done]
  rw [e]
  simp
theorem step_len {d : Int} : ∀ (r : List Int) (st : List (List Int) × List Int), (r.foldl (stepP d) st).1.length ≤ st.1.length + r.length ∧ (r.foldl (stepP d) st).2.length ≤ st.2.length + r.length
  | [], st => ⟨Nat.le_refl _, Nat.le_refl _⟩
  | x :: r, st => by
    rw [List.foldl_cons]
    have ih := step_len (d := d) r (stepP d st x)
    have h1 : (stepP d st x).1.length ≤ st.1.length + 1 ∧ (stepP d st x).2.length ≤ st.2.length + 1 := by
      unfold stepP
      by_cases h : x = d
      · rw [if_pos h]; simp
      · rw [if_neg h]; simp
    rw [List.length_cons]
    omega
theorem step_all {d : Int} : ∀ (r : List Int) (st : List (List Int) × List Int), ∀ x ∈ (r.foldl (stepP d) st).1, x ∈ st.1 ∨ x.length ≤ st.2.length + r.length
  | [], st, x, h => .inl h
  | y :: r, st, x, h => by
    rw [List.foldl_cons] at h
    rcases step_all r (stepP d st y) x h with q | q
    · unfold stepP at q
      by_cases c : y = d
      · rw [if_pos c] at q
        rcases List.mem_append.mp q with q | q
        · exact .inl q
        · have e : x = st.2 := by simpa using q
          rw [e]
          exact .inr (Nat.le_add_right _ _)
      · rw [if_neg c] at q
        exact .inl q
    · unfold stepP at q
      by_cases c : y = d
      · rw [if_pos c] at q
        simp only [List.length_nil, Nat.zero_add] at q
        rw [List.length_cons]
        exact .inr (by omega)
      · rw [if_neg c] at q
        simp only [List.length_append, List.length_cons, List.length_nil] at q
        rw [List.length_cons]
        exact .inr (by omega)
/-- every full tree is the tree of a row -/
theorem surj : ∀ (d : Nat) (s : Tr), Fu d s → ∃ row : List Int, (∀ x ∈ row, 1 ≤ x ∧ x ≤ (d : Int)) ∧ row.length + 1 = fl d s ∧ treeOf d row = s
  | 0, s, h => by
    refine ⟨[], (fun x hx => by cases hx), rfl, ?_⟩
    cases s with
    | node cs =>
      have e : cs = [] := h
      rw [e]
      rfl
  | d + 1, s, h => by
    obtain ⟨hne, hf⟩ := h
    have all : ∀ cs : List Tr, cs ≠ [] → (∀ c ∈ cs, Fu d c) → ∃ row : List Int, (∀ x ∈ row, 1 ≤ x ∧ x ≤ ((d + 1 : Nat) : Int)) ∧ row.length + 1 = (cs.map (fl d)).sum ∧ (partsOf ((d + 1 : Nat) : Int) row).map (treeOf d) = cs := by
      intro cs
      induction cs with
      | nil => exact fun z => absurd rfl z
      | cons c cs ih =>
        intro _ hc
        obtain ⟨r, r1, r2, r3⟩ := surj d c (hc c (List.mem_cons_self ..))
        have off : ∀ x ∈ r, x ≠ ((d + 1 : Nat) : Int) := fun x hx => by have := r1 x hx; omega
        have low : ∀ x ∈ r, 1 ≤ x ∧ x ≤ ((d + 1 : Nat) : Int) := fun x hx => by have := r1 x hx; omega
        cases cs with
        | nil =>
          refine ⟨r, low, ?_, ?_⟩
          · rw [r2]; simp
          · rw [parts_none off]
            show [treeOf d r] = [c]
            rw [r3]
        | cons c2 cs2 =>
          obtain ⟨row, a1, a2, a3⟩ := ih (fun z => nomatch z) fun x hx => hc x (List.mem_cons_of_mem _ hx)
          refine ⟨r ++ ((d + 1 : Nat) : Int) :: row, fun x hx => ?_, ?_, ?_⟩
          · rcases List.mem_append.mp hx with hx | hx
            · exact low x hx
            · rcases List.mem_cons.mp hx with rfl | hx
              · omega
              · exact a1 x hx
          · rw [List.map_cons, List.sum_cons, ← a2, ← r2, List.length_append, List.length_cons]; omega
          · rw [parts_app off, List.map_cons, a3, r3]
    obtain ⟨row, a1, a2, a3⟩ := all s.kids hne hf
    refine ⟨row, a1, a2, ?_⟩
    cases s with
    | node cs =>
      show Tr.node _ = _
      rw [a3]
      rfl
/-- all rows -/
def longerL (d : Nat) (rows : List (List Int)) : List (List Int) := rows.flatMap fun r => (List.range d).map fun (j : Nat) => r ++ [(1 : Int) + (j : Int)]
def rowsL (d : Nat) : Nat → List (List Int)
  | 0 => [[]]
  | c + 1 => longerL d (rowsL d c)
theorem rowsL_len (d : Nat) : ∀ c, (rowsL d c).length = d ^ c
  | 0 => rfl
  | c + 1 => by
    show (longerL d (rowsL d c)).length = _
    unfold longerL
    have h : ∀ l : List (List Int), (l.flatMap fun r => (List.range d).map fun (j : Nat) => r ++ [(1 : Int) + (j : Int)]).length = l.length * d := by
      intro l
      induction l with
      | nil => simp
      | cons a l ih => rw [List.flatMap_cons, List.length_append, ih, List.length_map, List.length_range, List.length_cons, Nat.add_mul]; omega
    rw [h, rowsL_len d c, Nat.pow_succ]
theorem rowsL_item (d : Nat) : ∀ (c : Nat) (r : List Int), r ∈ rowsL d c → r.length = c
  | 0, r, h => by
    have e : r = [] := by simpa [rowsL] using h
    rw [e]; rfl
  | c + 1, r, h => by
    obtain ⟨a, ha, hr⟩ := List.mem_flatMap.mp h
    obtain ⟨j, _, rfl⟩ := List.mem_map.mp hr
    rw [List.length_append, rowsL_item d c a ha]
    rfl
theorem rowsL_mem (d : Nat) : ∀ (c : Nat) (r : List Int), r.length = c → (∀ x ∈ r, 1 ≤ x ∧ x ≤ (d : Int)) → r ∈ rowsL d c
  | 0, r, h, _ => by
    have e : r = [] := List.length_eq_zero_iff.mp h
    rw [e]
    exact List.mem_cons_self ..
  | c + 1, r, h, k => by
    have hne : r ≠ [] := fun z => by rw [z] at h; cases h
    have e := List.dropLast_concat_getLast hne
    have hl := k (r.getLast hne) (List.getLast_mem hne)
    refine List.mem_flatMap.mpr ⟨r.dropLast, ?_, ?_⟩
    · exact rowsL_mem d c r.dropLast (by rw [List.length_dropLast]; omega) fun x hx => k x (List.dropLast_subset r hx)
    · refine List.mem_map.mpr ⟨(r.getLast hne - 1).toNat, List.mem_range.mpr (by omega), ?_⟩
      have e2 : (1 : Int) + (((r.getLast hne - 1).toNat : Nat) : Int) = r.getLast hne := by omega
      rw [e2]
      exact e
/-- a tree that holds the trees of all rows is complete -/
theorem cpl_of {d n : Nat} {b : Tr} (h : ∀ r ∈ rowsL d n, Ho d b (treeOf d r)) : ∀ s, Fu d s → fl d s = n + 1 → Ho d b s := by
  intro s hs hf
  obtain ⟨row, a1, a2, a3⟩ := surj d s hs
  rw [← a3]
  exact h row (rowsL_mem d n row (by omega) a1)
/-- .. and then it has leaves enough -/
theorem leaves_of {d n m : Nat} {b : Tr} (hb : Hb m b) (h : ∀ r ∈ rowsL (d + 1) n, Ho (d + 1) b (treeOf (d + 1) r)) : lowN d (n + 1) ≤ lv m b :=
  low_leaves (by omega) hb (cpl_of h)
/-- by prefixes, as the table is filled -/
theorem emb_end {h : Tr → Tr → Prop} (bs ss : List Tr) (b s : Tr) : Emb h (bs ++ [b]).reverse (ss ++ [s]).reverse ↔ Emb h bs.reverse (ss ++ [s]).reverse ∨ (Emb h bs.reverse ss.reverse ∧ h b s) := by
  rw [List.reverse_append, List.reverse_append]
  exact Iff.rfl
theorem emb_no {h : Tr → Tr → Prop} (ss : List Tr) (s : Tr) : ¬ Emb h ([] : List Tr).reverse (ss ++ [s]).reverse := by
  rw [List.reverse_append]
  exact fun z => z
end K21
set_option Elab.async false
set_option linter.all false
set_option maxRecDepth 100000
set_option maxHeartbeats 4000000
namespace K21
open PySem PySem.Spec PyProof.Rows L2 K11
/-! ### the text by places -/
def topS (i : Nat) : Stmt := PySem.Challenge.pw_holdsalltrees_k03_embedding_whole.main.body.getD i (.Pass ⟨0, 0, 0, 0⟩)
abbrev sPHolds : Stmt := topS 1
abbrev sPEmb : Stmt := topS 2
abbrev sImages : Stmt := topS 3
abbrev sWhole : Stmt := topS 5
abbrev sIs : Stmt := topS 6
abbrev sCell : Stmt := topS 7
abbrev sDigits : Stmt := topS 8
abbrev sTree : Stmt := topS 9
abbrev sPaths : Stmt := topS 10
abbrev sLoose : Stmt := topS 11
abbrev sExtra : Stmt := topS 12
abbrev sWidened : Stmt := topS 13
abbrev sWithout : Stmt := topS 14
abbrev sLarge : Stmt := topS 15
abbrev sThinned : Stmt := topS 16
abbrev sLargePair : Stmt := topS 17
abbrev sPair : Stmt := topS 18
abbrev sShaped : Stmt := topS 19
abbrev sNumbers : Stmt := topS 20
abbrev sHolds : Stmt := topS 21
abbrev sLeast : Stmt := topS 22
abbrev sTold : Stmt := topS 23
abbrev sLaw : Stmt := topS 24
/-! ### heaps -/
theorem same_new {H : Hp} {p : Addr} (h : H p = none) (o : HO) : Same H (upd H p o) := fun b u q => by rw [upd_ne (ne_of_none q h)]; exact q
/-- what was there before is kept when a newer object changes -/
theorem same_upd {H H' : Hp} {p : Addr} (s : Same H H') (h : H p = none) (o : HO) : Same H (upd H' p o) := fun b u q => by
  rw [upd_ne (ne_of_none q h)]
  exact s b u q
theorem lt_line {n : Nat} (h : n ≤ 1000) : n < sizeLine := small1000 h
theorem le_line {n : Nat} (h : n ≤ 1000) : n ≤ sizeLine := Nat.le_of_lt (small1000 h)
theorem one_le : 1 ≤ sizeLine := le_line (by decide)
theorem two_le : 2 ≤ sizeLine := le_line (by decide)
theorem three_le : 3 ≤ sizeLine := le_line (by decide)
theorem four_le : 4 ≤ sizeLine := le_line (by decide)
theorem five_le : 5 ≤ sizeLine := le_line (by decide)
theorem nine_le : 9 ≤ sizeLine := le_line (by decide)
theorem pr_get {α β : Type} {F : α → β → Prop} : ∀ {as : List α} {bs : List β} {i : Nat} {a : α}, Paired F as bs → as[i]? = some a → ∃ b, bs[i]? = some b ∧ F a b
  | _, _, _, _, .nil, e => by simp at e
  | _, _, 0, _, .cons r _, e => by simp at e; subst e; exact ⟨_, rfl, r⟩
  | _, _, i + 1, _, .cons _ t, e => by simpa using pr_get (i := i) t (by simpa using e)
theorem pr_take {α β : Type} {F : α → β → Prop} : ∀ {as : List α} {bs : List β} (n : Nat), Paired F as bs → Paired F (as.take n) (bs.take n)
  | _, _, 0, _ => .nil
  | _, _, _ + 1, .nil => .nil
  | _, _, n + 1, .cons r t => .cons r (pr_take n t)
theorem pr_app {α β : Type} {F : α → β → Prop} {as cs : List α} {bs ds : List β} (h : Paired F as bs) (k : Paired F cs ds) : Paired F (as ++ cs) (bs ++ ds) := by
  induction h with
  | nil => exact k
  | cons r _ ih => exact .cons r ih
/-- at p a list of paths -/
def PA (H : Hp) (rs : List Addr) (ps : List (List Int)) : Prop := Paired (fun r x => H r = some (.tup (x.map V.int))) rs ps
def PathsAt (H : Hp) (p : Addr) (ps : List (List Int)) : Prop := ∃ rs : List Addr, H p = some (.lst (rs.map V.ref)) ∧ PA H rs ps
theorem PA.same {H H' : Hp} {rs : List Addr} {ps : List (List Int)} (h : PA H rs ps) (s : Same H H') : PA H' rs ps := L2.Paired.mapP h fun _ _ e => s _ _ e
theorem PathsAt.same {H H' : Hp} {p : Addr} {ps : List (List Int)} (h : PathsAt H p ps) (s : Same H H') : PathsAt H' p ps := by
  obtain ⟨rs, e, q⟩ := h
  exact ⟨rs, s _ _ e, q.same s⟩
/-- v is the tree t, of tuples, of at most this height -/
def TA : Nat → Hp → V → Tr → Prop
  | 0, H, v, t => ∃ a, v = .ref a ∧ H a = some (.tup []) ∧ t = .node []
  | n + 1, H, v, t => ∃ a vs, v = .ref a ∧ H a = some (.tup vs) ∧ Paired (TA n H) vs t.kids
theorem TA.same {H H' : Hp} (s : Same H H') : ∀ {n : Nat} {v : V} {t : Tr}, TA n H v t → TA n H' v t
  | 0, _, _, h => by
    obtain ⟨a, e1, e2, e3⟩ := h
    exact ⟨a, e1, s _ _ e2, e3⟩
  | n + 1, _, _, h => by
    obtain ⟨a, vs, e1, e2, e3⟩ := h
    exact ⟨a, vs, e1, s _ _ e2, L2.Paired.mapP e3 fun _ _ x => TA.same s x⟩
theorem TA.hb : ∀ {n : Nat} {H : Hp} {v : V} {t : Tr}, TA n H v t → Hb n t
  | 0, _, _, t, h => by
    obtain ⟨a, e1, e2, e3⟩ := h
    show t.kids = []
    rw [e3]
    rfl
  | n + 1, H, v, t, h => by
    obtain ⟨a, vs, e1, e2, e3⟩ := h
    intro c hc
    have all : ∀ {ws : List V} {ts : List Tr}, Paired (TA n H) ws ts → ∀ c ∈ ts, Hb n c := by
      intro ws ts q
      induction q with
      | nil => exact fun c hc => nomatch hc
      | cons r _ ih =>
        intro c hc
        rcases List.mem_cons.mp hc with rfl | hc
        · exact TA.hb r
        · exact ih c hc
    exact all e3 c hc
/-- such a tree is a tuple -/
theorem TA.tup : ∀ {n : Nat} {H : Hp} {v : V} {t : Tr}, TA n H v t → ∃ a vs, v = .ref a ∧ H a = some (.tup vs) ∧ vs.length = t.kids.length
  | 0, _, _, t, h => by
    obtain ⟨a, e1, e2, e3⟩ := h
    exact ⟨a, [], e1, e2, by rw [e3]; rfl⟩
  | n + 1, _, _, _, h => by
    obtain ⟨a, vs, e1, e2, e3⟩ := h
    exact ⟨a, vs, e1, e2, e3.length⟩
theorem neverOk {P : Program} {w : World} {K : PySem.W.Frag} {mg : Str → Option Value} {base : Heap} {f : Addr} {fd : FuncData} {ps : List Str} {sp : Sp} (no : ∀ vs H Q E, ¬ sp vs H Q E) : FnOk P w K mg base CX0 0 f fd ps sp :=
  ⟨fun vs H Q E h => absurd h (no vs H Q E), fun A outer s H args us vs Q E _ _ _ _ h => absurd h (no vs H Q E)⟩
theorem map_atV {α : Type} {f : α → V} {l : List α} {i : Nat} {x : V} (h : (l.map f)[i]? = some x) : ∃ s, l[i]? = some s ∧ x = f s := by
  rw [List.getElem?_map] at h
  obtain ⟨s, hs, rfl⟩ := Option.map_eq_some_iff.mp h
  exact ⟨s, hs, rfl⟩
theorem tk1 {α : Type} {l : List α} {i : Nat} {s : α} (h : l[i]? = some s) : l.take (i + 1) = l.take i ++ [s] := by
  rw [List.take_add_one, h]
  rfl
theorem _root_.L2.Same.seqT {K : PySem.W.Frag} {H H' : Hp} {a : Addr} {xs : List V} (e : Same H H') (h : SqT K H a xs) : SqT K H' a xs := by
  rcases h with (h | ⟨o, h⟩) | h
  · exact .inl (.inl (e _ _ h))
  · exact .inl (.inr ⟨o, e _ _ h⟩)
  · exact .inr h
/-- a tree of tuples stays when a list changes -/
theorem TA.lst {H : Hp} {D : Addr} {ws : List V} (eD : H D = some (.lst ws)) (o : HO) : ∀ {n : Nat} {v : V} {t : Tr}, TA n H v t → TA n (upd H D o) v t
  | 0, _, _, h => by
    obtain ⟨a, e1, e2, e3⟩ := h
    exact ⟨a, e1, by rw [upd_ne (ne_of e2 eD (fun z => nomatch z))]; exact e2, e3⟩
  | n + 1, _, _, h => by
    obtain ⟨a, vs, e1, e2, e3⟩ := h
    exact ⟨a, vs, e1, by rw [upd_ne (ne_of e2 eD (fun z => nomatch z))]; exact e2, L2.Paired.mapP e3 fun _ _ x => TA.lst eD o x⟩
theorem PA.lst {H : Hp} {D : Addr} {ws : List V} {rs : List Addr} {ps : List (List Int)} (h : PA H rs ps) (eD : H D = some (.lst ws)) (o : HO) : PA (upd H D o) rs ps :=
  L2.Paired.mapP h fun _ _ e => by rw [upd_ne (ne_of e eD (fun z => nomatch z))]; exact e
theorem cat1 {K : PySem.W.Frag} {H1 : Hp} {r : Addr} {x : List Int} {z : Int} {Q' : V → Hp → Prop} (e : H1 r = some (.tup (x.map V.int))) (hx50 : x.length ≤ 50) (k : ∀ r' H2, Same H1 H2 → H2 r' = some (.tup ((x ++ [z]).map V.int)) → Q' (.ref r') H2) :
    (1 ≤ sizeLine ∧ ∀ T, H1 T = none → rCatA K (.ref r) (.ref T) (upd H1 T (.tup [.int z])) Q') := by
  refine ⟨one_le, fun T hT => ?_⟩
  have sT := same_new hT (.tup [.int z])
  refine ⟨r, T, _, _, rfl, rfl, .inl (.inl (sT _ _ e)), .inl (.inl upd_same), ?_, fun hn => ?_, fun _ hn => ?_, fun _ _ p2 hp2 => ?_⟩
  · rw [List.length_map, List.length_singleton]; exact le_line (by omega)
  · have hx0 : x = [] := by
      cases x with
      | nil => rfl
      | cons a l => exact nomatch hn
    refine k T _ sT ?_
    rw [hx0]
    exact upd_same
  · exact nomatch hn
  · refine k p2 _ (sT.trans (same_new hp2 _)) ?_
    rw [upd_same, List.map_append]
    rfl
/-- v is the tree t, of tuples and lists, of at most this height -/
def SeqAt (H : Hp) (a : Addr) (vs : List V) : Prop := H a = some (.tup vs) ∨ H a = some (.lst vs)
theorem SeqAt.same {H H' : Hp} {a : Addr} {vs : List V} (h : SeqAt H a vs) (s : Same H H') : SeqAt H' a vs := h.imp (s _ _) (s _ _)
def TS : Nat → Hp → V → Tr → Prop
  | 0, H, v, t => ∃ a, v = .ref a ∧ SeqAt H a [] ∧ t = .node []
  | n + 1, H, v, t => ∃ a vs, v = .ref a ∧ SeqAt H a vs ∧ Paired (TS n H) vs t.kids
theorem TS.same {H H' : Hp} (s : Same H H') : ∀ {n : Nat} {v : V} {t : Tr}, TS n H v t → TS n H' v t
  | 0, _, _, h => by
    obtain ⟨a, e1, e2, e3⟩ := h
    exact ⟨a, e1, e2.same s, e3⟩
  | n + 1, _, _, h => by
    obtain ⟨a, vs, e1, e2, e3⟩ := h
    exact ⟨a, vs, e1, e2.same s, L2.Paired.mapP e3 fun _ _ x => TS.same s x⟩
theorem TS.par : ∀ {n : Nat} {H : Hp} {v : V} {t : Tr}, TS n H v t → ∃ a vs, v = .ref a ∧ SeqAt H a vs ∧ Paired (TS (n - 1) H) vs t.kids
  | 0, _, _, t, h => by
    obtain ⟨a, e1, e2, e3⟩ := h
    exact ⟨a, [], e1, e2, by rw [e3]; exact .nil⟩
  | n + 1, _, _, _, h => h
theorem TS.hb : ∀ {n : Nat} {H : Hp} {v : V} {t : Tr}, TS n H v t → Hb n t
  | 0, _, _, t, h => by
    obtain ⟨a, e1, e2, e3⟩ := h
    show t.kids = []
    rw [e3]
    rfl
  | n + 1, H, v, t, h => by
    obtain ⟨a, vs, e1, e2, e3⟩ := h
    intro c hc
    have all : ∀ {ws : List V} {ts : List Tr}, Paired (TS n H) ws ts → ∀ c ∈ ts, Hb n c := by
      intro ws ts q
      induction q with
      | nil => exact fun c hc => nomatch hc
      | cons r _ ih =>
        intro c hc
        rcases List.mem_cons.mp hc with rfl | hc
        · exact TS.hb r
        · exact ih c hc
    exact all e3 c hc
end K21
set_option Elab.async false
set_option linter.all false
set_option maxRecDepth 100000
set_option maxHeartbeats 4000000
namespace K21
open PySem PySem.Spec PyProof.Rows L2 K11
/-! ### the law's readers: _law_whole, _law_cell, _law_digits -/
/-- drawn digits: each one below its size -/
def Dg : List Int → List Int → Prop
  | [], [] => True
  | d :: ds, s :: ss => (0 ≤ d ∧ d < s) ∧ Dg ds ss
  | _, _ => False
theorem Dg.len : ∀ {ds ss : List Int}, Dg ds ss → ds.length = ss.length
  | [], [], _ => rfl
  | _ :: _, _ :: _, h => congrArg Nat.succ (Dg.len h.2)
  | [], _ :: _, h => h.elim
  | _ :: _, [], h => h.elim
theorem Dg.snoc : ∀ {ds ss : List Int} {d s : Int}, Dg ds ss → 0 ≤ d → d < s → Dg (ds ++ [d]) (ss ++ [s])
  | [], [], _, _, _, a, b => ⟨⟨a, b⟩, True.intro⟩
  | _ :: _, _ :: _, _, _, h, a, b => ⟨h.1, Dg.snoc h.2 a b⟩
  | [], _ :: _, _, _, h, _, _ => h.elim
  | _ :: _, [], _, _, h, _, _ => h.elim
theorem Dg.cons {ds ss : List Int} {s : Int} (h : Dg ds (s :: ss)) : ∃ d r, ds = d :: r ∧ (0 ≤ d ∧ d < s) ∧ Dg r ss := by
  cases ds with
  | nil => exact h.elim
  | cons d r => exact ⟨d, r, rfl, h.1, h.2⟩
theorem Dg.nil {ds : List Int} (h : Dg ds []) : ds = [] := by
  cases ds with
  | nil => rfl
  | cons d r => exact h.elim
theorem take_snoc {l : List Int} {i : Nat} {s : Int} (h : l[i]? = some s) : l.take (i + 1) = l.take i ++ [s] := by
  rw [List.take_add_one, h]
  rfl
theorem map_at {l : List Int} {i : Nat} {x : V} (h : (l.map V.int)[i]? = some x) : ∃ s, l[i]? = some s ∧ x = .int s := by
  rw [List.getElem?_map] at h
  obtain ⟨s, hs, rfl⟩ := Option.map_eq_some_iff.mp h
  exact ⟨s, hs, rfl⟩
section
variable {P : Program} {w : World} {K : PySem.W.Frag} {mg : Str → Option Value} {base : Heap}
theorem scWhole : FnScope ["value"] ["value"] (defScope sWhole) := ⟨rfl, rfl, rfl, by decide +kernel, rfl, by decide +kernel, by decide +kernel⟩
theorem scCell : FnScope ["script", "k", "seed", "cell"] ["script", "k"] (defScope sCell) := ⟨rfl, rfl, rfl, by decide +kernel, rfl, by decide +kernel, by decide +kernel⟩
theorem scDigits : FnScope ["cell", "sizes", "row", "rest", "size", "seed", "k", "twice"] ["cell", "sizes"] (defScope sDigits) := ⟨rfl, rfl, rfl, by decide +kernel, rfl, by decide +kernel, by decide +kernel⟩
/-- of an int -/
def spWhole : Sp := fun vs H Q _ => ∃ i : Int, vs = [.int i] ∧ Q (.bl true) H
theorem ok_whole {f : Addr} {fd : FuncData} (F : Fun K "_law_whole" "_law_whole" sWhole f fd) (mI : mg "isinstance" = none) (mi : mg "int" = none) (mb : mg "bool" = none) :
    FnOk P w K mg base CX0 1 f fd ["value"] spWhole := by
  refine F.ok scWhole (fun vs H Q E h => ?_) (fun cdv A outer s H vs Q E hr h => ?_)
  · obtain ⟨i, rfl, _⟩ := h
    rfl
  obtain ⟨i, rfl, q⟩ := h
  refine ⟨_, pss_one (ps_ret (pe_and (pe_callB call_isi (by rfl) mI boot_isinstance (pa_cons (pv 0) (pa_cons (pe_bltn (v := .ty "int") (by rfl) mi PyProof.Rows.boot_int rfl) pa_nil)))
    (pe_one (pe_not (pe_callB call_isi (by rfl) mI boot_isinstance (pa_cons (pv 0) (pa_cons (pe_bltn (v := .ty "bool") (by rfl) mb PyProof.Rows.boot_bool rfl) pa_nil))))))), ?_⟩
  refine ⟨_, rfl, _, _, _, _, true, rfl, .ty "int", .base (.int i), kit_ty (by decide +kernel), true, rfl, ?_⟩
  refine iteT ⟨_, rfl, _, _, _, _, false, rfl, .ty "bool", .base (.int i), kit_ty (by decide +kernel), false, rfl, q⟩
/-- some int; the heap as it was -/
def spCell (K : PySem.W.Frag) : Sp := fun vs H Q _ => ∃ (a : Addr) (ns : List Int) (k : Nat), vs = [.ref a, .int (k : Int)] ∧ SqL K H a (ns.map V.int) ∧ ns.length ≤ 63 ∧ k ≤ 1000 ∧ ∀ z : Int, Q (.int z) H
theorem ok_cell {f : Addr} {fd : FuncData} (F : Fun K "_law_cell" "_law_cell" sCell f fd) (ml : mg "len" = none) (mi : mg "int" = none) :
    FnOk P w K mg base CX0 1 f fd ["script", "k"] (spCell K) := by
  refine F.ok scCell (fun vs H Q E h => ?_) (fun cdv A outer s H vs Q E hr h => ?_)
  · obtain ⟨a, ns, k, rfl, _⟩ := h
    rfl
  obtain ⟨a, ns, k, rfl, hS, hl, hk, q⟩ := h
  have nd := scCell.nd
  refine ⟨_, pss_cons (ps_if (pt_cmpR op_lt (pv 1) (pe_callB call_len_seq (by rfl) ml PySem.boot_len (pa_cons (pv 0) pa_nil)) (nomark _)) (pss_one (ps_ret (pe_ix ix_list (pv 0) (pv 1) (fun _ _ => rfl)))) pss_nil)
    (pss_cons (ps_set (i := 2) nd rfl (.inl rfl) pe_int)
    (pss_cons (ps_for PassesOwn.never rfl (pi_list (pv 0)) (pg_name (i := 3) nd rfl (.inl rfl))
      (pss_one (ps_set (i := 2) nd rfl (.inl rfl) (pe_op op_mod (pe_callTy call_int1 (by rfl) mi PyProof.Rows.boot_int (pa_cons (pe_op op_add (pe_op op_mul (pv 2) pe_int) (pe_op op_mod (pe_callTy call_int1 (by rfl) mi PyProof.Rows.boot_int (pa_cons (pv 3) pa_nil)) pe_int)) pa_nil)) pe_int))))
    (pss_one (ps_ret (pe_op op_mod (pe_callTy call_int1 (by rfl) mi PyProof.Rows.boot_int (pa_cons (pe_op op_mul (pe_op op_mul (pe_op op_add (pv 2) pe_int) (pe_op op_add (pv 1) pe_int)) pe_int) pa_nil)) pe_int))))), ?_⟩
  refine ⟨_, rfl, _, rfl, a, _, rfl, .inl hS, _, _, rfl, rfl, _, rfl, ite2 (fun c => ?_) (fun c => ?_)⟩
  · have c' := of_decide_eq_true c
    rw [List.length_map] at c'
    have hk' : k < ns.length := by omega
    have g : (ns.map V.int)[k]? = some (.int ns[k]) := by rw [List.getElem?_map, List.getElem?_eq_getElem hk']; rfl
    exact ⟨_, rfl, _, rfl, a, _, _, _, rfl, rfl, hS, atI_nat g, q _⟩
  · refine ⟨_, rfl, a, rfl, ⟨_, hS⟩, for_list (xs := ns.map V.int) (fun i σ H' => H' = H ∧ ∃ (z : Int) (y : Option V), σ = [some (.ref a), some (.int (k : Int)), some (.int z), y]) ⟨rfl, 17, Option.none, rfl⟩ (fun i σ H' _ z => by rw [z.1]; exact hS) ?_ ?_⟩
    · rintro i x σ H' hx ⟨rfl, z, y, rfl⟩
      obtain ⟨v, hv, rfl⟩ := map_at hx
      refine ⟨_, rfl, _, _, rfl, rfl, .inr ⟨by decide, by decide⟩, _, rfl, .inl ⟨_, rfl, _, _, rfl, rfl, (by show (0 : Int) < 1000003; decide), _, _, rfl, rfl, .inl ⟨_, rfl, _, _, rfl, rfl, (by show (0 : Int) < 1000003; decide), ?_⟩⟩⟩
      exact ⟨rfl, _, _, rfl⟩
    · rintro σ H' ⟨rfl, z, y, rfl⟩
      refine ⟨_, rfl, _, _, rfl, rfl, _, rfl, _, _, rfl, rfl, _, _, rfl, rfl, .inr ⟨by omega, by omega⟩, _, _, rfl, rfl, .inr ⟨by decide, by decide⟩, .inl ⟨_, rfl, _, _, rfl, rfl, (by show (0 : Int) < 2147483647; decide), ?_⟩⟩
      exact q _
/-- a new list of digits -/
def spDigits (K : PySem.W.Frag) : Sp := fun vs H Q _ => ∃ (c : Int) (l : Addr) (ss : List Int), vs = [.int c, .ref l] ∧ SqL K H l (ss.map V.int) ∧ ss.length ≤ 1000 ∧ (∀ s ∈ ss, 0 < s ∧ s < 1073741824) ∧
  ∀ p ds H', Same H H' → H' p = some (.lst (ds.map V.int)) → Dg ds ss → Q (.ref p) H'
theorem ok_digits {f : Addr} {fd : FuncData} (F : Fun K "_law_digits" "_law_digits" sDigits f fd) (ml : mg "len" = none) (mi : mg "int" = none) (mr : mg "range" = none) :
    FnOk P w K mg base CX0 1 f fd ["cell", "sizes"] (spDigits K) := by
  refine F.ok scDigits (fun vs H Q E h => ?_) (fun cdv A outer s H vs Q E hr h => ?_)
  · obtain ⟨c, l, ss, rfl, _⟩ := h
    rfl
  obtain ⟨c, l, ss, rfl, hS, hlen, hpos, q⟩ := h
  have nd := scDigits.nd
  refine ⟨_, pss_cons (ps_set (i := 2) nd rfl (.inl rfl) (pe_lst pa_nil))
    (pss_cons (ps_set (i := 3) nd rfl (.inl rfl) (pe_callTy call_int1 (by rfl) mi PyProof.Rows.boot_int (pa_cons (pv 0) pa_nil)))
    (pss_cons (ps_if (pt_cmpR op_ge (pv 3) (pe_op op_pow pe_int pe_int) (nomark _))
      (pss_cons (ps_set (i := 3) nd rfl (.inl rfl) (pe_op op_sub (pv 3) (pe_op op_pow pe_int pe_int)))
        (pss_cons (ps_for PassesOwn.never rfl (pi_list (pv 1)) (pg_name (i := 4) nd rfl (.inl rfl))
          (pss_cons (ps_expr (pe_bm PySem.F.plainAttrs_list PySem.F.slot_list_append PySem.F.type_list_append mt_append (pv 2) (pa_cons (pe_op op_mod (pe_callTy call_int1 (by rfl) mi PyProof.Rows.boot_int (pa_cons (pv 3) pa_nil)) (pv 4)) pa_nil)))
          (pss_one (ps_set (i := 3) nd rfl (.inl rfl) (pe_op op_fdiv (pe_callTy call_int1 (by rfl) mi PyProof.Rows.boot_int (pa_cons (pv 3) pa_nil)) (pv 4))))))
        (pss_one (ps_ret (pv 2))))) pss_nil)
    (pss_cons (ps_set (i := 5) nd rfl (.inl rfl) (pe_op op_mod (pe_callTy call_int1 (by rfl) mi PyProof.Rows.boot_int (pa_cons (pv 3) pa_nil)) pe_int))
    (pss_cons (ps_for PassesOwn.never rfl (pi_range1 rfl mr (pa_cons (pe_callB call_len_seq (by rfl) ml PySem.boot_len (pa_cons (pv 1) pa_nil)) pa_nil)) (pg_name (i := 6) nd rfl (.inl rfl))
      (pss_cons (ps_set (i := 5) nd rfl (.inl rfl) (pe_op op_mod (pe_callTy call_int1 (by rfl) mi PyProof.Rows.boot_int (pa_cons (pe_op op_add (pe_op op_add (pe_op op_mul (pv 5) pe_int) (pe_op op_mul pe_int (pv 6))) pe_int) pa_nil)) pe_int))
      (pss_cons (ps_set (i := 7) nd rfl (.inl rfl) (pe_op op_mod (pe_callTy call_int1 (by rfl) mi PyProof.Rows.boot_int (pa_cons (pe_op op_mul (pv 5) (pe_op op_add (pe_op op_fdiv (pv 5) pe_int) pe_int)) pa_nil)) pe_int))
      (pss_one (ps_expr (pe_bm PySem.F.plainAttrs_list PySem.F.slot_list_append PySem.F.type_list_append mt_append (pv 2) (pa_cons (pe_op op_mod (pe_op op_fdiv (pv 7) pe_int) (pe_ix ix_list (pv 1) (pv 6) (fun _ _ => rfl))) pa_nil)))))))
    (pss_one (ps_ret (pv 2))))))), ?_⟩
  refine ⟨Nat.zero_le _, fun o no => ?_⟩
  have s1 : Same H (upd H o (.lst [])) := same_new no _
  refine ⟨_, rfl, .inl ⟨_, rfl, ?_⟩⟩
  refine ⟨_, rfl, _, _, rfl, rfl, ⟨by decide, by decide, by decide⟩, _, _, rfl, rfl, _, rfl, ite2 (fun _ => ?_) (fun _ => ?_)⟩
  · refine ⟨_, rfl, _, _, rfl, rfl, ⟨by decide, by decide, by decide⟩, _, _, rfl, rfl, ?_⟩
    refine ⟨_, rfl, l, rfl, ⟨_, s1.seq hS⟩, for_list (xs := ss.map V.int) (fun i σ H' => Same H H' ∧ ∃ (ds : List Int) (r : Int) (y : Option V), H' o = some (.lst (ds.map V.int)) ∧ Dg ds (ss.take i) ∧ σ = [some (.int c), some (.ref l), some (.ref o), some (.int r), y, Option.none, Option.none, Option.none])
      ⟨s1, [], _, Option.none, upd_same, True.intro, rfl⟩ (fun i σ H' _ z => z.1.seq hS) ?_ ?_⟩
    · rintro i x σ H' hx ⟨sm, ds, r, y, eo, hd, rfl⟩
      obtain ⟨v, hv, rfl⟩ := map_at hx
      have hv2 := hpos v (List.mem_of_getElem? hv)
      refine ⟨_, rfl, .inl ⟨rfl, _, SqL.of eo⟩, _, rfl, .inl ⟨_, rfl, _, rfl, _, _, rfl, rfl, hv2.1, o, _, _, rfl, rfl, eo, ?_, ?_⟩⟩
      · rw [List.length_map, hd.len, List.length_take]
        exact Nat.lt_of_le_of_lt (Nat.min_le_right _ _) (small1000 hlen)
      · refine ⟨_, rfl, .inl ⟨_, rfl, _, rfl, _, _, rfl, rfl, hv2, ?_⟩⟩
        refine ⟨fun b u e => ?_, ds ++ [r % v], _, _, ?_, ?_, rfl⟩
        · rw [upd_ne (ne_of_none e no)]
          exact sm _ _ e
        · rw [upd_same, List.map_append]
          rfl
        · rw [take_snoc hv]
          exact hd.snoc (Int.emod_nonneg _ (by omega)) (Int.emod_lt_of_pos _ hv2.1)
    · rintro σ H' ⟨sm, ds, r, y, eo, hd, rfl⟩
      rw [List.length_map, List.take_length] at hd
      exact ⟨_, rfl, q o ds H' sm eo hd⟩
  · refine ⟨_, rfl, .inl ⟨_, rfl, _, _, rfl, rfl, (by show (0 : Int) < 2147483629; decide), ?_⟩⟩
    refine ⟨_, rfl, l, _, rfl, .inl (s1.seq hS), _, rfl, (by rw [List.length_map]; omega), (by rw [List.length_map]; omega), ?_⟩
    have hn : (((ss.map V.int).length : Nat) : Int).toNat = ss.length := by rw [List.length_map]; rfl
    rw [hn]
    refine for_range (n := ss.length) (fun i σ H' => Same H H' ∧ ∃ (ds : List Int) (r z : Int) (y y' : Option V), H' o = some (.lst (ds.map V.int)) ∧ Dg ds (ss.take i) ∧ σ = [some (.int c), some (.ref l), some (.ref o), some (.int r), Option.none, some (.int z), y, y'])
      ⟨s1, [], _, _, Option.none, Option.none, upd_same, True.intro, rfl⟩ ?_ ?_
    · rintro i σ H' hi ⟨sm, ds, r, z, y, y', eo, hd, rfl⟩
      refine ⟨_, rfl, _, _, rfl, rfl, .inr ⟨by decide, by decide⟩, _, rfl, _, _, rfl, rfl, .inl ⟨by decide, by decide⟩, _, _, rfl, rfl, _, _, rfl, rfl, .inl ⟨_, rfl, _, _, rfl, rfl, (by show (0 : Int) < 2147483647; decide), ?_⟩⟩
      have b0 := Int.emod_nonneg (z * 48271 + 974711 * (0 + (i : Int)) + 12345) (show (2147483647 : Int) ≠ 0 by decide)
      have b1 := Int.emod_lt_of_pos (z * 48271 + 974711 * (0 + (i : Int)) + 12345) (show (0 : Int) < 2147483647 by decide)
      refine ⟨_, rfl, _, rfl, _, _, rfl, rfl, ⟨by decide, by decide⟩, _, _, rfl, rfl, _, _, rfl, rfl, .inl ⟨?_, ?_⟩, .inl ⟨_, rfl, _, _, rfl, rfl, (by show (0 : Int) < 2147483629; decide), ?_⟩⟩
      · exact Int.lt_of_lt_of_le (by decide) b0
      · exact Int.lt_trans b1 (by decide)
      have g : (ss.map V.int)[i]? = some (.int ss[i]) := by rw [List.getElem?_map, List.getElem?_eq_getElem hi]; rfl
      have hv2 := hpos ss[i] (List.getElem_mem hi)
      refine ⟨_, rfl, .inl ⟨rfl, _, SqL.of eo⟩, _, rfl, _, _, rfl, rfl, ⟨by decide, by decide⟩, _, rfl, _, rfl, l, _, _, _, rfl, rfl, sm.seq hS, ?_, _, _, rfl, rfl, hv2.1, o, _, _, rfl, rfl, eo, ?_, ?_⟩
      · rw [Int.zero_add]; exact atI_nat g
      · rw [List.length_map, hd.len, List.length_take]
        exact Nat.lt_of_le_of_lt (Nat.min_le_right _ _) (small1000 hlen)
      · refine ⟨fun b u e => ?_, ds ++ [((z * 48271 + 974711 * (0 + (i : Int)) + 12345) % 2147483647 * ((z * 48271 + 974711 * (0 + (i : Int)) + 12345) % 2147483647 / 65537 + 3)) % 2147483629 / 19 % ss[i]], _, _, _, _, ?_, ?_, rfl⟩
        · rw [upd_ne (ne_of_none e no)]
          exact sm _ _ e
        · rw [upd_same, List.map_append]
          rfl
        · rw [take_snoc (List.getElem?_eq_getElem hi)]
          exact hd.snoc (Int.emod_nonneg _ (by omega)) (Int.emod_lt_of_pos _ hv2.1)
    · rintro σ H' ⟨sm, ds, r, z, y, y', eo, hd, rfl⟩
      rw [List.take_length] at hd
      exact ⟨_, rfl, q o ds H' sm eo hd⟩
end
end K21
set_option Elab.async false
set_option linter.all false
set_option maxRecDepth 100000
set_option maxHeartbeats 4000000
set_option pp.maxSteps 400
set_option pp.deepTerms false
namespace K21
open PySem PySem.Spec PyProof.Rows L2 K11
/-! ### _law_tree -/
theorem last_two {x : V} : atI [x] (-1) = some x := atI_last [] x
section
variable {P : Program} {w : World} {K : PySem.W.Frag} {mg : Str → Option Value} {base : Heap}
abbrev nTree : List Str := ["row", "depth", "parts", "number", "part"]
theorem scTree : FnScope nTree ["row", "depth"] (defScope sTree) := ⟨rfl, rfl, rfl, by decide +kernel, rfl, by decide +kernel, by decide +kernel⟩
def spTreeL (K : PySem.W.Frag) (c : Nat) : Sp := fun vs H Q _ => ∃ (a : Addr) (row : List Int) (d : Nat), vs = [.ref a, .int (d : Int)] ∧ SqL K H a (row.map V.int) ∧ row.length ≤ 500 ∧ d + 1 ≤ c ∧
  ∀ r H', Same H H' → TA d H' (.ref r) (treeOf d row) → Q (.ref r) H'
theorem ok_treeL {c : Nat} {f : Addr} {fd : FuncData} (F : Fun K "_law_tree" "_law_tree" sTree f fd) (G : FnOk P w K mg base CX0 c f fd ["row", "depth"] (spTreeL K c)) (bG : Binds K fd ["row", "depth"] []) (mG : mg "_law_tree" = some (.ref f))
    (mt : mg "tuple" = none) : FnOk P w K mg base CX0 (c + 1) f fd ["row", "depth"] (spTreeL K (c + 1)) := by
  refine F.ok scTree (fun vs H Q E h => ?_) (fun cdv A outer s H vs Q E hr h => ?_)
  · obtain ⟨a, row, d, rfl, _⟩ := h
    rfl
  obtain ⟨a, row, d, rfl, hS, hl, hc, q⟩ := h
  have nd := scTree.nd
  have kG := F.kp
  refine ⟨_, pss_cons (ps_if (pt_cmpR op_eq (pv 1) pe_int (nomark _)) (pss_one (ps_ret (pe_tup pa_nil))) pss_nil)
    (pss_cons (ps_set (i := 2) nd rfl (.inl rfl) (pe_lst (pa_cons (pe_lst pa_nil) pa_nil)))
    (pss_cons (ps_for PassesOwn.never rfl (pi_list (pv 0)) (pg_name (i := 3) nd rfl (.inl rfl))
      (pss_one (ps_if (pt_cmpR op_eq (pv 3) (pv 1) (nomark _))
        (pss_one (ps_expr (pe_bm PySem.F.plainAttrs_list PySem.F.slot_list_append PySem.F.type_list_append mt_append (pv 2) (pa_cons (pe_lst pa_nil) pa_nil))))
        (pss_one (ps_expr (pe_bm PySem.F.plainAttrs_list PySem.F.slot_list_append PySem.F.type_list_append mt_append (pe_ix ix_list (pv 2) (pe_un un_neg pe_int) (fun _ _ => rfl)) (pa_cons (pv 3) pa_nil)))))))
    (pss_one (ps_ret (pe_tupleOf (by rfl) mt (pe_lc (own := [("part", 4)]) (g := gName 4) (tt := tYes) rfl nd (pi_list (pv 2)) (blkOk_by (N := nTree) (sc := defScope sTree) (by decide +kernel))
      (fun _ _ _ _ _ => pg_name (i := 4) nd rfl (Or.inl rfl)) (fun _ _ _ _ _ => pts_nil)
      (fun _ _ _ _ _ => pe_call G hr (by rfl) mG kG bG .nil pass0 (pa_cons (pv 4) (pa_cons (pe_op op_sub (pv 1) pe_int) pa_nil))))))))), ?_⟩
  refine ⟨_, rfl, rfl, _, rfl, ite2 (fun z => ?_) (fun z => ?_)⟩
  · have z' : (d : Int) = 0 := V.int.inj (of_decide_eq_true z)
    have z2 : d = 0 := by omega
    subst z2
    refine ⟨Nat.zero_le _, fun p hp => q p _ (same_new hp _) ⟨p, rfl, upd_same, rfl⟩⟩
  have z' : ¬ (d : Int) = 0 := fun y => z (decide_eq_true (congrArg V.int y))
  obtain ⟨e, rfl⟩ : ∃ e, d = e + 1 := ⟨d - 1, by omega⟩
  refine ⟨Nat.zero_le _, fun c0 hc0 => ⟨one_le, fun P0 hP0 => ?_⟩⟩
  have s1 : Same H (upd H c0 (.lst [])) := same_new hc0 _
  have hPn : H P0 = none := s1.free hP0
  have ncP : c0 ≠ P0 := fun z => by rw [← z, upd_same] at hP0; cases hP0
  refine ⟨_, rfl, a, rfl, ⟨_, (same_upd s1 hPn _).seq hS⟩, for_list (xs := row.map V.int) (fun i σ H' => ∃ (done : List (List Int)) (cur : List Int) (rs : List Addr) (ca : Addr) (y : Option V),
    σ = [some (.ref a), some (.int ((e + 1 : Nat) : Int)), some (.ref P0), y, Option.none] ∧ H' P0 = some (.lst ((rs ++ [ca]).map V.ref)) ∧ H' ca = some (.lst (cur.map V.int)) ∧
    Paired (fun r x => H' r = some (.lst (x.map V.int)) ∧ r ≠ ca ∧ r ≠ P0) rs done ∧ ca ≠ P0 ∧ H ca = none ∧ Same H H' ∧ (row.take i).foldl (stepP ((e + 1 : Nat) : Int)) ([], []) = (done, cur)) ?_ ?_ ?_ ?_⟩
  · exact ⟨[], [], [], c0, Option.none, rfl, upd_same, (by rw [upd_ne ncP, upd_same]; rfl), .nil, ncP, hc0, same_upd s1 hPn _, rfl⟩
  · rintro i σ H' _ ⟨done, cur, rs, ca, y, _, _, _, _, _, _, sm, _⟩
    exact sm.seq hS
  · rintro i x σ H' hx ⟨done, cur, rs, ca, y, rfl, eP, ec, pr, ncp, hca, sm, fo⟩
    obtain ⟨v, hv, rfl⟩ := map_at hx
    have fo' : (row.take (i + 1)).foldl (stepP ((e + 1 : Nat) : Int)) ([], []) = stepP ((e + 1 : Nat) : Int) (done, cur) v := by
      rw [take_snoc hv, List.foldl_append, fo]
      rfl
    have hi : i < row.length := (List.getElem?_eq_some_iff.mp hv).1
    have ln := step_len (d := ((e + 1 : Nat) : Int)) (row.take i) ([], [])
    rw [fo, List.length_take] at ln
    simp only [List.length_nil] at ln
    have lr := pr.length
    refine ⟨_, rfl, _, rfl, rfl, _, rfl, ite2 (fun c => ?_) (fun c => ?_)⟩
    · have c' : v = ((e + 1 : Nat) : Int) := V.int.inj (of_decide_eq_true c)
      refine ⟨_, rfl, .inl ⟨rfl, _, SqL.of eP⟩, Nat.zero_le _, fun n hn => ?_⟩
      have nP : P0 ≠ n := ne_of_none eP hn
      have hnn : H n = none := sm.free hn
      refine ⟨P0, _, _, rfl, rfl, by rw [upd_ne nP]; exact eP, ?_, ?_⟩
      · rw [List.length_map, List.length_append, List.length_singleton]
        exact lt_line (by omega)
      · refine ⟨done ++ [cur], [], rs ++ [ca], n, some (.int v), rfl, ?_, ?_, ?_, nP.symm, hnn, ?_, ?_⟩
        · rw [upd_same, List.map_append (l₂ := [n])]
          rfl
        · rw [upd_ne nP.symm, upd_same]
          rfl
        · refine (L2.Paired.mapP pr fun r l h => ⟨(by rw [upd_ne h.2.2, upd_ne (ne_of_none h.1 hn)]; exact h.1), ne_of_none h.1 hn, h.2.2⟩).snoc ⟨?_, ne_of_none ec hn, ncp⟩
          rw [upd_ne ncp, upd_ne (ne_of_none ec hn)]
          exact ec
        · exact same_upd (same_upd sm hnn _) hPn _
        · rw [fo']
          unfold stepP
          rw [if_pos c']
    · have c' : ¬ v = ((e + 1 : Nat) : Int) := fun y => c (decide_eq_true (congrArg V.int y))
      refine ⟨_, rfl, 1, rfl, P0, _, -1, .ref ca, rfl, rfl, SqL.of eP, ?_, .inl ⟨rfl, _, SqL.of ec⟩, _, rfl, ca, _, _, rfl, rfl, ec, ?_, ?_⟩
      · rw [List.map_append]
        exact atI_last _ _
      · rw [List.length_map]
        exact lt_line (by omega)
      · refine ⟨done, cur ++ [v], rs, ca, some (.int v), rfl, ?_, ?_, ?_, ncp, hca, same_upd sm hca _, ?_⟩
        · rw [upd_ne ncp.symm]
          exact eP
        · rw [upd_same, List.map_append]
          rfl
        · refine L2.Paired.mapP pr fun r l h => ⟨?_, h.2⟩
          rw [upd_ne h.2.1]
          exact h.1
        · rw [fo']
          unfold stepP
          rw [if_neg c']
  · rintro σ H' ⟨done, cur, rs, ca, y, rfl, eP, ec, pr, ncp, hca, sm, fo⟩
    rw [List.length_map, List.take_length] at fo
    have hparts : partsOf ((e + 1 : Nat) : Int) row = done ++ [cur] := by
      unfold partsOf
      rw [fo]
    have ln := step_len (d := ((e + 1 : Nat) : Int)) row ([], [])
    rw [fo] at ln
    simp only [List.length_nil] at ln
    have lr := pr.length
    have prs : Paired (fun r x => H' r = some (.lst (x.map V.int)) ∧ x.length ≤ 500) (rs ++ [ca]) (done ++ [cur]) := by
      refine Paired.snoc ?_ ⟨ec, by omega⟩
      have dl : ∀ x ∈ done, x.length ≤ 500 := by
        intro x hx
        have := step_all (d := ((e + 1 : Nat) : Int)) row ([], []) x (by rw [fo]; exact hx)
        rcases this with h | h
        · exact nomatch h
        · simp only [List.length_nil] at h; omega
      clear ln lr hparts fo eP
      induction pr with
      | nil => exact .nil
      | cons h _ ih => exact .cons ⟨h.1, dl _ (List.mem_cons_self ..)⟩ (ih fun x hx => dl x (List.mem_cons_of_mem _ hx))
    refine ⟨_, rfl, P0, rfl, ⟨_, SqL.of eP⟩, fun D hD => ?_⟩
    have hDn : H D = none := sm.free hD
    have sD : Same H' (upd H' D (.lst [])) := same_new hD _
    refine lc_list (xs := (rs ++ [ca]).map V.ref) (fun j H3 => Same H' H3 ∧ ∃ ws : List V, H3 D = some (.lst ws) ∧ Paired (TA e H3) ws (((done ++ [cur]).map (treeOf e)).take j)) ⟨sD, [], upd_same, .nil⟩ (fun j H3 _ z => SqL.of (z.1 _ _ eP)) ?_ ?_
    · rintro j x H3 hx ⟨s3, ws, eD, pw⟩
      obtain ⟨r, hr', rfl⟩ := map_atV hx
      obtain ⟨part, hp, hpr⟩ := pr_get prs hr'
      refine ⟨rfl, ?_⟩
      show tCall (spTreeL K c) [] E0 (tCons (tVar 4) (tCons (tOp (rI0 fun i j => .int (i - j)) (tVar 1) (tC (.int 1))) tNil)) [some (.ref a), some (.int ((e + 1 : Nat) : Int)), some (.ref P0), y, some (.ref r)] H3 _
      refine ⟨_, rfl, _, rfl, _, _, rfl, rfl, r, part, e, ?_, SqL.of (s3 _ _ hpr.1), hpr.2, by omega, fun t H4 s4 ht => ?_⟩
      · have e1 : ((e + 1 : Nat) : Int) - 1 = (e : Int) := by omega
        exact congrArg (fun z => [V.ref r, V.int z]) e1
      · have eD4 := s4 _ _ eD
        have hj : j < (done ++ [cur]).length := (List.getElem?_eq_some_iff.mp hp).1
        have lw := pw.length
        rw [List.length_take, List.length_map] at lw
        have hD4 : ∀ o, Same H' (upd H4 D o) := fun o => same_upd (s3.trans s4) hD o
        refine ⟨ws, eD4, ?_, hD4 _, ws ++ [.ref t], upd_same, ?_⟩
        · rw [List.length_append, List.length_singleton] at hj
          exact lt_line (by omega)
        · have mv : ∀ {v : V} {t' : Tr}, TA e H4 v t' → TA e (upd H4 D (.lst (ws ++ [.ref t]))) v t' := fun h => h.lst eD4 _
          rw [tk1 (show ((done ++ [cur]).map (treeOf e))[j]? = some (treeOf e part) by rw [List.getElem?_map, hp]; rfl)]
          exact (L2.Paired.mapP pw fun _ _ x => mv (x.same s4)).snoc (mv ht)
    · rintro H3 ⟨s3, ws, eD, pw⟩
      rw [List.length_map] at pw
      refine .inl ⟨D, ws, rfl, SqL.of eD, fun u hu => ?_⟩
      have su : Same H3 (upd H3 u (.tup ws)) := same_new hu _
      refine q u _ (sm.trans (s3.trans su)) ⟨u, ws, rfl, upd_same, ?_⟩
      show Paired (TA e _) ws ((partsOf ((e + 1 : Nat) : Int) row).map (treeOf e))
      rw [hparts]
      have ht : ((done ++ [cur]).map (treeOf e)).take (rs ++ [ca]).length = (done ++ [cur]).map (treeOf e) := List.take_of_length_le (by rw [List.length_map, List.length_append, List.length_append, lr]; exact Nat.le_refl _)
      rw [ht] at pw
      exact L2.Paired.mapP pw fun _ _ x => x.same su
def spTreeT (K : PySem.W.Frag) (c : Nat) : Sp := fun vs H Q _ => ∃ (a : Addr) (row : List Int) (d : Nat), vs = [.ref a, .int (d : Int)] ∧ SqT K H a (row.map V.int) ∧ row.length ≤ 500 ∧ d + 1 ≤ c ∧
  ∀ r H', Same H H' → TA d H' (.ref r) (treeOf d row) → Q (.ref r) H'
theorem ok_treeT {c : Nat} {f : Addr} {fd : FuncData} (F : Fun K "_law_tree" "_law_tree" sTree f fd) (G : FnOk P w K mg base CX0 c f fd ["row", "depth"] (spTreeL K c)) (bG : Binds K fd ["row", "depth"] []) (mG : mg "_law_tree" = some (.ref f))
    (mt : mg "tuple" = none) : FnOk P w K mg base CX0 (c + 1) f fd ["row", "depth"] (spTreeT K (c + 1)) := by
  refine F.ok scTree (fun vs H Q E h => ?_) (fun cdv A outer s H vs Q E hr h => ?_)
  · obtain ⟨a, row, d, rfl, _⟩ := h
    rfl
  obtain ⟨a, row, d, rfl, hS, hl, hc, q⟩ := h
  have nd := scTree.nd
  have kG := F.kp
  refine ⟨_, pss_cons (ps_if (pt_cmpR op_eq (pv 1) pe_int (nomark _)) (pss_one (ps_ret (pe_tup pa_nil))) pss_nil)
    (pss_cons (ps_set (i := 2) nd rfl (.inl rfl) (pe_lst (pa_cons (pe_lst pa_nil) pa_nil)))
    (pss_cons (ps_for PassesOwn.never rfl (pi_tup (pv 0)) (pg_name (i := 3) nd rfl (.inl rfl))
      (pss_one (ps_if (pt_cmpR op_eq (pv 3) (pv 1) (nomark _))
        (pss_one (ps_expr (pe_bm PySem.F.plainAttrs_list PySem.F.slot_list_append PySem.F.type_list_append mt_append (pv 2) (pa_cons (pe_lst pa_nil) pa_nil))))
        (pss_one (ps_expr (pe_bm PySem.F.plainAttrs_list PySem.F.slot_list_append PySem.F.type_list_append mt_append (pe_ix ix_list (pv 2) (pe_un un_neg pe_int) (fun _ _ => rfl)) (pa_cons (pv 3) pa_nil)))))))
    (pss_one (ps_ret (pe_tupleOf (by rfl) mt (pe_lc (own := [("part", 4)]) (g := gName 4) (tt := tYes) rfl nd (pi_list (pv 2)) (blkOk_by (N := nTree) (sc := defScope sTree) (by decide +kernel))
      (fun _ _ _ _ _ => pg_name (i := 4) nd rfl (Or.inl rfl)) (fun _ _ _ _ _ => pts_nil)
      (fun _ _ _ _ _ => pe_call G hr (by rfl) mG kG bG .nil pass0 (pa_cons (pv 4) (pa_cons (pe_op op_sub (pv 1) pe_int) pa_nil))))))))), ?_⟩
  refine ⟨_, rfl, rfl, _, rfl, ite2 (fun z => ?_) (fun z => ?_)⟩
  · have z' : (d : Int) = 0 := V.int.inj (of_decide_eq_true z)
    have z2 : d = 0 := by omega
    subst z2
    refine ⟨Nat.zero_le _, fun p hp => q p _ (same_new hp _) ⟨p, rfl, upd_same, rfl⟩⟩
  have z' : ¬ (d : Int) = 0 := fun y => z (decide_eq_true (congrArg V.int y))
  obtain ⟨e, rfl⟩ : ∃ e, d = e + 1 := ⟨d - 1, by omega⟩
  refine ⟨Nat.zero_le _, fun c0 hc0 => ⟨one_le, fun P0 hP0 => ?_⟩⟩
  have s1 : Same H (upd H c0 (.lst [])) := same_new hc0 _
  have hPn : H P0 = none := s1.free hP0
  have ncP : c0 ≠ P0 := fun z => by rw [← z, upd_same] at hP0; cases hP0
  refine ⟨_, rfl, a, rfl, ⟨_, (same_upd s1 hPn _).seqT hS⟩, for_tup (xs := row.map V.int) (fun i σ H' => ∃ (done : List (List Int)) (cur : List Int) (rs : List Addr) (ca : Addr) (y : Option V),
    σ = [some (.ref a), some (.int ((e + 1 : Nat) : Int)), some (.ref P0), y, Option.none] ∧ H' P0 = some (.lst ((rs ++ [ca]).map V.ref)) ∧ H' ca = some (.lst (cur.map V.int)) ∧
    Paired (fun r x => H' r = some (.lst (x.map V.int)) ∧ r ≠ ca ∧ r ≠ P0) rs done ∧ ca ≠ P0 ∧ H ca = none ∧ Same H H' ∧ (row.take i).foldl (stepP ((e + 1 : Nat) : Int)) ([], []) = (done, cur)) ?_ ?_ ?_ ?_⟩
  · exact ⟨[], [], [], c0, Option.none, rfl, upd_same, (by rw [upd_ne ncP, upd_same]; rfl), .nil, ncP, hc0, same_upd s1 hPn _, rfl⟩
  · rintro i σ H' _ ⟨done, cur, rs, ca, y, _, _, _, _, _, _, sm, _⟩
    exact sm.seqT hS
  · rintro i x σ H' hx ⟨done, cur, rs, ca, y, rfl, eP, ec, pr, ncp, hca, sm, fo⟩
    obtain ⟨v, hv, rfl⟩ := map_at hx
    have fo' : (row.take (i + 1)).foldl (stepP ((e + 1 : Nat) : Int)) ([], []) = stepP ((e + 1 : Nat) : Int) (done, cur) v := by
      rw [take_snoc hv, List.foldl_append, fo]
      rfl
    have hi : i < row.length := (List.getElem?_eq_some_iff.mp hv).1
    have ln := step_len (d := ((e + 1 : Nat) : Int)) (row.take i) ([], [])
    rw [fo, List.length_take] at ln
    simp only [List.length_nil] at ln
    have lr := pr.length
    refine ⟨_, rfl, _, rfl, rfl, _, rfl, ite2 (fun c => ?_) (fun c => ?_)⟩
    · have c' : v = ((e + 1 : Nat) : Int) := V.int.inj (of_decide_eq_true c)
      refine ⟨_, rfl, .inl ⟨rfl, _, SqL.of eP⟩, Nat.zero_le _, fun n hn => ?_⟩
      have nP : P0 ≠ n := ne_of_none eP hn
      have hnn : H n = none := sm.free hn
      refine ⟨P0, _, _, rfl, rfl, by rw [upd_ne nP]; exact eP, ?_, ?_⟩
      · rw [List.length_map, List.length_append, List.length_singleton]
        exact lt_line (by omega)
      · refine ⟨done ++ [cur], [], rs ++ [ca], n, some (.int v), rfl, ?_, ?_, ?_, nP.symm, hnn, ?_, ?_⟩
        · rw [upd_same, List.map_append (l₂ := [n])]
          rfl
        · rw [upd_ne nP.symm, upd_same]
          rfl
        · refine (L2.Paired.mapP pr fun r l h => ⟨(by rw [upd_ne h.2.2, upd_ne (ne_of_none h.1 hn)]; exact h.1), ne_of_none h.1 hn, h.2.2⟩).snoc ⟨?_, ne_of_none ec hn, ncp⟩
          rw [upd_ne ncp, upd_ne (ne_of_none ec hn)]
          exact ec
        · exact same_upd (same_upd sm hnn _) hPn _
        · rw [fo']
          unfold stepP
          rw [if_pos c']
    · have c' : ¬ v = ((e + 1 : Nat) : Int) := fun y => c (decide_eq_true (congrArg V.int y))
      refine ⟨_, rfl, 1, rfl, P0, _, -1, .ref ca, rfl, rfl, SqL.of eP, ?_, .inl ⟨rfl, _, SqL.of ec⟩, _, rfl, ca, _, _, rfl, rfl, ec, ?_, ?_⟩
      · rw [List.map_append]
        exact atI_last _ _
      · rw [List.length_map]
        exact lt_line (by omega)
      · refine ⟨done, cur ++ [v], rs, ca, some (.int v), rfl, ?_, ?_, ?_, ncp, hca, same_upd sm hca _, ?_⟩
        · rw [upd_ne ncp.symm]
          exact eP
        · rw [upd_same, List.map_append]
          rfl
        · refine L2.Paired.mapP pr fun r l h => ⟨?_, h.2⟩
          rw [upd_ne h.2.1]
          exact h.1
        · rw [fo']
          unfold stepP
          rw [if_neg c']
  · rintro σ H' ⟨done, cur, rs, ca, y, rfl, eP, ec, pr, ncp, hca, sm, fo⟩
    rw [List.length_map, List.take_length] at fo
    have hparts : partsOf ((e + 1 : Nat) : Int) row = done ++ [cur] := by
      unfold partsOf
      rw [fo]
    have ln := step_len (d := ((e + 1 : Nat) : Int)) row ([], [])
    rw [fo] at ln
    simp only [List.length_nil] at ln
    have lr := pr.length
    have prs : Paired (fun r x => H' r = some (.lst (x.map V.int)) ∧ x.length ≤ 500) (rs ++ [ca]) (done ++ [cur]) := by
      refine Paired.snoc ?_ ⟨ec, by omega⟩
      have dl : ∀ x ∈ done, x.length ≤ 500 := by
        intro x hx
        have := step_all (d := ((e + 1 : Nat) : Int)) row ([], []) x (by rw [fo]; exact hx)
        rcases this with h | h
        · exact nomatch h
        · simp only [List.length_nil] at h; omega
      clear ln lr hparts fo eP
      induction pr with
      | nil => exact .nil
      | cons h _ ih => exact .cons ⟨h.1, dl _ (List.mem_cons_self ..)⟩ (ih fun x hx => dl x (List.mem_cons_of_mem _ hx))
    refine ⟨_, rfl, P0, rfl, ⟨_, SqL.of eP⟩, fun D hD => ?_⟩
    have hDn : H D = none := sm.free hD
    have sD : Same H' (upd H' D (.lst [])) := same_new hD _
    refine lc_list (xs := (rs ++ [ca]).map V.ref) (fun j H3 => Same H' H3 ∧ ∃ ws : List V, H3 D = some (.lst ws) ∧ Paired (TA e H3) ws (((done ++ [cur]).map (treeOf e)).take j)) ⟨sD, [], upd_same, .nil⟩ (fun j H3 _ z => SqL.of (z.1 _ _ eP)) ?_ ?_
    · rintro j x H3 hx ⟨s3, ws, eD, pw⟩
      obtain ⟨r, hr', rfl⟩ := map_atV hx
      obtain ⟨part, hp, hpr⟩ := pr_get prs hr'
      refine ⟨rfl, ?_⟩
      show tCall (spTreeL K c) [] E0 (tCons (tVar 4) (tCons (tOp (rI0 fun i j => .int (i - j)) (tVar 1) (tC (.int 1))) tNil)) [some (.ref a), some (.int ((e + 1 : Nat) : Int)), some (.ref P0), y, some (.ref r)] H3 _
      refine ⟨_, rfl, _, rfl, _, _, rfl, rfl, r, part, e, ?_, SqL.of (s3 _ _ hpr.1), hpr.2, by omega, fun t H4 s4 ht => ?_⟩
      · have e1 : ((e + 1 : Nat) : Int) - 1 = (e : Int) := by omega
        exact congrArg (fun z => [V.ref r, V.int z]) e1
      · have eD4 := s4 _ _ eD
        have hj : j < (done ++ [cur]).length := (List.getElem?_eq_some_iff.mp hp).1
        have lw := pw.length
        rw [List.length_take, List.length_map] at lw
        have hD4 : ∀ o, Same H' (upd H4 D o) := fun o => same_upd (s3.trans s4) hD o
        refine ⟨ws, eD4, ?_, hD4 _, ws ++ [.ref t], upd_same, ?_⟩
        · rw [List.length_append, List.length_singleton] at hj
          exact lt_line (by omega)
        · have mv : ∀ {v : V} {t' : Tr}, TA e H4 v t' → TA e (upd H4 D (.lst (ws ++ [.ref t]))) v t' := fun h => h.lst eD4 _
          rw [tk1 (show ((done ++ [cur]).map (treeOf e))[j]? = some (treeOf e part) by rw [List.getElem?_map, hp]; rfl)]
          exact (L2.Paired.mapP pw fun _ _ x => mv (x.same s4)).snoc (mv ht)
    · rintro H3 ⟨s3, ws, eD, pw⟩
      rw [List.length_map] at pw
      refine .inl ⟨D, ws, rfl, SqL.of eD, fun u hu => ?_⟩
      have su : Same H3 (upd H3 u (.tup ws)) := same_new hu _
      refine q u _ (sm.trans (s3.trans su)) ⟨u, ws, rfl, upd_same, ?_⟩
      show Paired (TA e _) ws ((partsOf ((e + 1 : Nat) : Int) row).map (treeOf e))
      rw [hparts]
      have ht : ((done ++ [cur]).map (treeOf e)).take (rs ++ [ca]).length = (done ++ [cur]).map (treeOf e) := List.take_of_length_le (by rw [List.length_map, List.length_append, List.length_append, lr]; exact Nat.le_refl _)
      rw [ht] at pw
      exact L2.Paired.mapP pw fun _ _ x => x.same su
theorem tree_all {f : Addr} {fd : FuncData} (F : Fun K "_law_tree" "_law_tree" sTree f fd) (bG : Binds K fd ["row", "depth"] []) (mG : mg "_law_tree" = some (.ref f)) (mt : mg "tuple" = none) :
    ∀ c, FnOk P w K mg base CX0 c f fd ["row", "depth"] (spTreeL K c)
  | 0 => neverOk fun vs H Q E h => by
    obtain ⟨a, row, d, _, _, _, h2, _⟩ := h
    omega
  | c + 1 => ok_treeL F (tree_all F bG mG mt c) bG mG mt
end
end K21
set_option Elab.async false
set_option linter.all false
set_option maxRecDepth 100000
set_option maxHeartbeats 4000000
set_option pp.maxSteps 400
set_option pp.deepTerms false
namespace K21
open PySem PySem.Spec PyProof.Rows L2 K11
/-! ### _law_paths -/
theorem sum_take_le {α : Type} (f : α → Nat) : ∀ (l : List α) (k : Nat), ((l.take k).map f).sum ≤ (l.map f).sum
  | [], k => by rw [List.take_nil]; exact Nat.le_refl _
  | a :: l, 0 => Nat.zero_le _
  | a :: l, k + 1 => by
    rw [List.take_succ_cons, List.map_cons, List.map_cons, List.sum_cons, List.sum_cons]
    exact Nat.add_le_add_left (sum_take_le f l k) _
theorem mem_snoc {α : Type} {P : α → Prop} {l : List α} {a : α} (h : ∀ x ∈ l, P x) (h2 : P a) : ∀ x ∈ l ++ [a], P x := fun x hx => by
  rcases List.mem_append.mp hx with hx | hx
  · exact h x hx
  · have e : x = a := by simpa using hx
    rw [e]; exact h2
section
variable {P : Program} {w : World} {K : PySem.W.Frag} {mg : Str → Option Value} {base : Heap}
theorem scPaths : FnScope ["tree", "paths", "k", "path"] ["tree"] (defScope sPaths) := ⟨rfl, rfl, rfl, by decide +kernel, rfl, by decide +kernel, by decide +kernel⟩
def spPaths (c : Nat) : Sp := fun vs H Q _ => ∃ (v : V) (n : Nat) (t : Tr), vs = [v] ∧ TA n H v t ∧ lv n t ≤ 500 ∧ n + 1 ≤ c ∧ n ≤ 50 ∧
  ∀ p ps H', Same H H' → H p = none → PathsAt H' p ps → ps.length = lv n t → (∀ x ∈ ps, x.length ≤ n) → Q (.ref p) H'
theorem ok_paths {c : Nat} {f : Addr} {fd : FuncData} (F : Fun K "_law_paths" "_law_paths" sPaths f fd) (G : FnOk P w K mg base CX0 c f fd ["tree"] (spPaths c)) (bG : Binds K fd ["tree"] []) (mG : mg "_law_paths" = some (.ref f))
    (ml : mg "len" = none) (mr : mg "range" = none) : FnOk P w K mg base CX0 (c + 1) f fd ["tree"] (spPaths (c + 1)) := by
  refine F.ok scPaths (fun vs H Q E h => ?_) (fun cdv A outer s H vs Q E hr h => ?_)
  · obtain ⟨v, n, t, rfl, _⟩ := h
    rfl
  obtain ⟨v, n, t, rfl, hT, hl, hc, hn, q⟩ := h
  have nd := scPaths.nd
  have kG := F.kp
  refine ⟨_, pss_cons (ps_if (pt_cmpR op_eq (pe_callB call_len_seq (by rfl) ml PySem.boot_len (pa_cons (pv 0) pa_nil)) pe_int (nomark _)) (pss_one (ps_ret (pe_lst (pa_cons (pe_tup pa_nil) pa_nil)))) pss_nil)
    (pss_cons (ps_set (i := 1) nd rfl (.inl rfl) (pe_lst pa_nil))
    (pss_cons (ps_for PassesOwn.never rfl (pi_range1 rfl mr (pa_cons (pe_callB call_len_seq (by rfl) ml PySem.boot_len (pa_cons (pv 0) pa_nil)) pa_nil)) (pg_name (i := 2) nd rfl (.inl rfl))
      (pss_one (ps_for PassesOwn.never rfl (pi_list (pe_call G hr (by rfl) mG kG bG .nil pass0 (pa_cons (pe_ix ix_tup (pv 0) (pv 2) (fun _ _ => rfl)) pa_nil))) (pg_name (i := 3) nd rfl (.inl rfl))
        (pss_one (ps_expr (pe_bm PySem.F.plainAttrs_list PySem.F.slot_list_append PySem.F.type_list_append mt_append (pv 1) (pa_cons (pe_op op_catT (pe_tup (pa_cons (pv 2) pa_nil)) (pv 3)) pa_nil)))))))
    (pss_one (ps_ret (pv 1))))), ?_⟩
  obtain ⟨a, vs, rfl, ea, hlen⟩ := hT.tup
  refine ⟨_, rfl, a, _, rfl, .inr (.inl (.inl ea)), rfl, _, rfl, ite2 (fun z => ?_) (fun z => ?_)⟩
  · have z' : (vs.length : Int) = 0 := V.int.inj (of_decide_eq_true z)
    refine ⟨Nat.zero_le _, fun u hu => ⟨one_le, fun p hp => ?_⟩⟩
    have s1 : Same H (upd H u (.tup [])) := same_new hu _
    have s2 := same_new hp (.lst [.ref u])
    have nu : u ≠ p := fun e => by rw [← e, upd_same] at hp; cases hp
    have hk : t.kids = [] := List.length_eq_zero_iff.mp (by omega)
    refine q p [[]] _ (s1.trans s2) (s1.free hp) ⟨[u], upd_same, .cons ?_ .nil⟩ ?_ ?_
    · rw [upd_ne nu, upd_same]
      rfl
    · cases n with
      | zero => rfl
      | succ n => unfold lv; rw [if_pos hk]; rfl
    · intro x hx
      have e : x = [] := by simpa using hx
      rw [e]
      exact Nat.zero_le _
  have z' : ¬ (vs.length : Int) = 0 := fun y => z (decide_eq_true (congrArg V.int y))
  cases n with
  | zero =>
    obtain ⟨a', e1, e2, e3⟩ := hT
    rw [e3] at hlen
    exact absurd (congrArg (fun k : Nat => (k : Int)) hlen) z'
  | succ n =>
    obtain ⟨a', vs', e1, e2, pk⟩ := hT
    cases e1
    rw [ea] at e2
    cases e2
    have hk : t.kids ≠ [] := fun e => z' (by rw [hlen, e]; rfl)
    have el : lv (n + 1) t = (t.kids.map (lv n)).sum := by unfold lv; rw [if_neg hk]
    rw [el] at hl q
    have hvs : vs.length ≤ 500 := by
      have h1 : ∀ l : List Tr, l.length ≤ (l.map (lv n)).sum := by
        intro l
        induction l with
        | nil => exact Nat.le_refl _
        | cons x l ih =>
          rw [List.length_cons, List.map_cons, List.sum_cons]
          have := lv_pos n x
          omega
      have := h1 t.kids
      omega
    refine ⟨Nat.zero_le _, fun P0 hP0 => ?_⟩
    have s0 : Same H (upd H P0 (.lst [])) := same_new hP0 _
    refine ⟨_, rfl, a, _, rfl, .inr (.inl (.inl (s0 _ _ ea))), _, rfl, by omega, by omega, ?_⟩
    have e0 : ((vs.length : Nat) : Int).toNat = vs.length := rfl
    rw [e0]
    refine for_range (n := vs.length) (fun k σ H' => Same H H' ∧ ∃ (y2 y3 : Option V) (rs : List Addr) (ps : List (List Int)), σ = [some (.ref a), some (.ref P0), y2, y3] ∧ H' P0 = some (.lst (rs.map V.ref)) ∧ PA H' rs ps ∧
      ps.length = ((t.kids.take k).map (lv n)).sum ∧ ∀ x ∈ ps, x.length ≤ n + 1) ⟨s0, Option.none, Option.none, [], [], rfl, upd_same, .nil, rfl, fun x hx => nomatch hx⟩ ?_ ?_
    · rintro k σ H1 hk1 ⟨sm, y2, y3, rs, ps, rfl, eP, pa, hlen2, hx⟩
      have gv : vs[k]? = some vs[k] := List.getElem?_eq_getElem hk1
      obtain ⟨tk, htk, hTk⟩ := pr_get pk gv
      have hlk : lv n tk ≤ 500 := by
        have h1 := sum_take_le (lv n) t.kids (k + 1)
        rw [tk1 htk, List.map_append, List.sum_append] at h1
        simp at h1
        omega
      have hsum : ((t.kids.take (k + 1)).map (lv n)).sum = ((t.kids.take k).map (lv n)).sum + lv n tk := by
        rw [tk1 htk, List.map_append, List.sum_append]
        simp
      have htot := sum_take_le (lv n) t.kids (k + 1)
      refine ⟨_, rfl, _, rfl, a, _, _, vs[k], rfl, rfl, .inl (.inl (sm _ _ ea)), ?_, vs[k], n, tk, rfl, hTk.same sm, hlk, by omega, by omega, fun p2 ps2 H2 s2 hp2 hP2 hl2 hx2 => ?_⟩
      · rw [Int.zero_add]; exact atI_nat gv
      obtain ⟨rs2, e2, pa2⟩ := hP2
      have nP2 : P0 ≠ p2 := ne_of_none eP hp2
      have l2 : rs2.length = ps2.length := pa2.length
      refine ⟨p2, rfl, ⟨_, SqL.of e2⟩, for_list (xs := rs2.map V.ref) (fun j σ H' => Same H H' ∧ H' p2 = some (.lst (rs2.map V.ref)) ∧ PA H' rs2 ps2 ∧ ∃ (y3 : Option V) (rs3 : List Addr) (ps3 : List (List Int)), σ = [some (.ref a), some (.ref P0), some (.int (0 + (k : Int))), y3] ∧ H' P0 = some (.lst (rs3.map V.ref)) ∧ PA H' rs3 ps3 ∧
        ps3.length = ps.length + j ∧ ∀ x ∈ ps3, x.length ≤ n + 1) ⟨sm.trans s2, e2, pa2, y3, rs, ps, rfl, s2 _ _ eP, pa.same s2, rfl, hx⟩ (fun j σ H' _ z => SqL.of z.2.1) ?_ ?_⟩
      · rintro j x σ H3 hx3 ⟨sm3, e3, pa3, y3', rs3, ps3, rfl, eP3, pa3', hl3, hx3'⟩
        obtain ⟨r, hr', rfl⟩ := map_atV hx3
        obtain ⟨path, hpath, er⟩ := pr_get pa3 hr'
        have hj : j < ps2.length := (List.getElem?_eq_some_iff.mp hpath).1
        have hlp := hx2 path (List.mem_of_getElem? hpath)
        refine ⟨_, rfl, .inl ⟨rfl, _, SqL.of eP3⟩, _, rfl, one_le, fun T1 hT1 => ?_⟩
        have st := same_new hT1 (.tup [.int (0 + (k : Int))])
        have eT : upd H3 T1 (.tup [.int (0 + (k : Int))]) T1 = some (.tup [.int (0 + (k : Int))]) := upd_same
        have fin : ∀ (T2 : Addr) (H4 : Hp), Same H3 H4 → H4 T2 = some (.tup (((0 + (k : Int)) :: path).map V.int)) →
            ∃ l xs y, V.ref P0 = .ref l ∧ [V.ref T2] = [y] ∧ H4 l = some (.lst xs) ∧ xs.length < sizeLine ∧
              (Same H (upd H4 l (.lst (xs ++ [y]))) ∧ upd H4 l (.lst (xs ++ [y])) p2 = some (.lst (rs2.map V.ref)) ∧ PA (upd H4 l (.lst (xs ++ [y]))) rs2 ps2 ∧ ∃ (y3 : Option V) (rs3 : List Addr) (ps3 : List (List Int)), [some (.ref a), some (.ref P0), some (.int (0 + (k : Int))), some (.ref r)] = [some (.ref a), some (.ref P0), some (.int (0 + (k : Int))), y3] ∧ upd H4 l (.lst (xs ++ [y])) P0 = some (.lst (rs3.map V.ref)) ∧ PA (upd H4 l (.lst (xs ++ [y]))) rs3 ps3 ∧
                ps3.length = ps.length + (j + 1) ∧ ∀ x ∈ ps3, x.length ≤ n + 1) := by
          intro T2 H4 s4 e4
          have eP4 := s4 _ _ eP3
          refine ⟨P0, _, _, rfl, rfl, eP4, ?_, same_upd (sm3.trans s4) hP0 _, ?_, (pa3.same s4).lst eP4 _, some (.ref r), rs3 ++ [T2], ps3 ++ [(0 + (k : Int)) :: path], rfl, ?_, ?_, ?_, ?_⟩
          · rw [List.length_map, pa3'.length]
            exact lt_line (by omega)
          · rw [upd_ne (Ne.symm nP2)]
            exact s4 _ _ e3
          · rw [upd_same, List.map_append]
            rfl
          · refine ((pa3'.same s4).lst eP4 _).snoc ?_
            rw [upd_ne (ne_of e4 eP4 (fun z => nomatch z))]
            exact e4
          · rw [List.length_append, hl3]
            rfl
          · refine mem_snoc hx3' ?_
            rw [List.length_cons]
            omega
        refine ⟨_, rfl, T1, r, _, _, rfl, rfl, .inl (.inl eT), .inl (.inl (st _ _ er)), (fun z => nomatch z), ?_, fun hnil => ?_, fun hne p4 hp4 => ?_⟩
        · rw [List.length_map, List.length_singleton]
          exact le_line (by omega)
        · have hpe : path = [] := by
            cases path with
            | nil => rfl
            | cons x l => exact nomatch hnil
          exact fin T1 _ st (by rw [eT, hpe]; rfl)
        · exact fin p4 _ (st.trans (same_new hp4 _)) upd_same
      · rintro σ H3 ⟨sm3, e3, pa3, y3', rs3, ps3, rfl, eP3, pa3', hl3, hx3'⟩
        rw [List.length_map, l2] at hl3
        refine ⟨sm3, _, _, rs3, ps3, rfl, eP3, pa3', ?_, hx3'⟩
        rw [hl3, hsum, hlen2, hl2]
    · rintro σ H1 ⟨sm, y2, y3, rs, ps, rfl, eP, pa, hlen2, hx⟩
      refine ⟨_, rfl, q P0 ps H1 sm hP0 ⟨rs, eP, pa⟩ ?_ hx⟩
      rw [hlen2, List.take_of_length_le (by omega)]
theorem paths_all {f : Addr} {fd : FuncData} (F : Fun K "_law_paths" "_law_paths" sPaths f fd) (bG : Binds K fd ["tree"] []) (mG : mg "_law_paths" = some (.ref f)) (ml : mg "len" = none) (mr : mg "range" = none) :
    ∀ c, FnOk P w K mg base CX0 c f fd ["tree"] (spPaths c)
  | 0 => neverOk fun vs H Q E h => by
    obtain ⟨v, n, t, _, _, _, h2, _⟩ := h
    omega
  | c + 1 => ok_paths F (paths_all F bG mG ml mr c) bG mG ml mr
end
end K21
set_option Elab.async false
set_option linter.all false
set_option maxRecDepth 100000
namespace K03
open K21
/-! ### the embedding that goes to the left: blocks of paths, one for each child -/
theorem Emb.wide {h : Tr → Tr → Prop} {b : Tr} {bs ss : List Tr} (e : Emb h bs ss) : Emb h (b :: bs) ss := by
  cases ss with
  | nil => exact True.intro
  | cons s ss => exact .inl e
theorem Emb.less {h : Tr → Tr → Prop} {s : Tr} {ss : List Tr} : ∀ {bs : List Tr}, Emb h bs (s :: ss) → Emb h bs ss
  | [], e => e.elim
  | b :: bs, e => by
    rcases e with e | ⟨e, _⟩
    · exact Emb.wide (Emb.less e)
    · exact Emb.wide e
theorem Emb.drop {h : Tr → Tr → Prop} {bs ys : List Tr} : ∀ {xs : List Tr}, Emb h bs (xs ++ ys) → Emb h bs ys
  | [], e => e
  | _ :: xs, e => Emb.drop (xs := xs) (Emb.less e)
/-- fewer children are held, too -/
theorem emb_take {h : Tr → Tr → Prop} {bs ss : List Tr} (k : Nat) (e : Emb h bs ss.reverse) : Emb h bs (ss.take k).reverse := by
  have q : ss.reverse = (ss.drop k).reverse ++ (ss.take k).reverse := by
    rw [← List.reverse_append, List.take_append_drop]
  rw [q] at e
  exact Emb.drop e
theorem emb_mono {h : Tr → Tr → Prop} {bs ss : List Tr} {j : Nat} (e : Emb h (bs.take j).reverse ss) : ∀ {k : Nat}, j ≤ k → Emb h (bs.take k).reverse ss
  | 0, hk => by
    have : j = 0 := Nat.le_zero.mp hk
    rw [this] at e
    exact e
  | k + 1, hk => by
    by_cases c : j ≤ k
    · have ih := emb_mono e c
      by_cases q : k < bs.length
      · have t : bs.take (k + 1) = bs.take k ++ [bs[k]] := by rw [List.take_add_one, List.getElem?_eq_getElem q]; rfl
        rw [t, List.reverse_append]
        exact Emb.wide ih
      · have t : bs.take (k + 1) = bs.take k := by rw [List.take_of_length_le (by omega), List.take_of_length_le (by omega)]
        rw [t]
        exact ih
    · have : j = k + 1 := by omega
      rw [this] at e
      exact e
/-- no place in the first k for the next child -/
theorem emb_not {h : Tr → Tr → Prop} {bs ss : List Tr} {s : Tr} : ∀ {k : Nat}, (∀ j b, j < k → bs[j]? = some b → ¬ (Emb h (bs.take j).reverse ss.reverse ∧ h b s)) → ¬ Emb h (bs.take k).reverse (ss ++ [s]).reverse
  | 0, _ => by rw [List.take_zero]; exact emb_no ss s
  | k + 1, hn => by
    have ih := emb_not (k := k) (ss := ss) (s := s) (h := h) (bs := bs) fun j b hj => hn j b (by omega)
    by_cases q : k < bs.length
    · have t : bs.take (k + 1) = bs.take k ++ [bs[k]] := by rw [List.take_add_one, List.getElem?_eq_getElem q]; rfl
      rw [t]
      intro e
      rcases (emb_end (bs.take k) ss bs[k] s).mp e with e | e
      · exact ih e
      · exact hn k bs[k] (by omega) (List.getElem?_eq_getElem q) e
    · have t : bs.take (k + 1) = bs.take k := by rw [List.take_of_length_le (by omega), List.take_of_length_le (by omega)]
      rw [t]
      exact ih
abbrev Blk := Nat × List (List Int)
/-- where the next child may go at the earliest -/
def loOf (bl : List Blk) : Nat := match bl.getLast? with
  | none => 0
  | some x => x.1 + 1
theorem loOf_nil : loOf [] = 0 := rfl
theorem loOf_snoc (bl : List Blk) (g : Nat) (p : List (List Int)) : loOf (bl ++ [(g, p)]) = g + 1 := by
  unfold loOf
  rw [List.getLast?_append]
  rfl
/-- one block for each child, each child as far to the left as it can go behind the one before it -/
inductive Bl (R : Tr → Tr → List (List Int) → Prop) (h : Tr → Tr → Prop) (bs : List Tr) : List Tr → List Blk → Prop
  | nil : Bl R h bs [] []
  | snoc {ss : List Tr} {s b : Tr} {bl : List Blk} {g : Nat} {p : List (List Int)} : Bl R h bs ss bl → loOf bl ≤ g → bs[g]? = some b → (∀ j c, loOf bl ≤ j → j < g → bs[j]? = some c → ¬ h c s) → R b s p → Bl R h bs (ss ++ [s]) (bl ++ [(g, p)])
def flat (bl : List Blk) : List (List Int) := bl.flatMap fun x => x.2.map fun y => (x.1 : Int) :: y
theorem flat_snoc (bl : List Blk) (g : Nat) (p : List (List Int)) : flat (bl ++ [(g, p)]) = flat bl ++ p.map fun y => (g : Int) :: y := by
  unfold flat
  rw [List.flatMap_append, List.flatMap_cons, List.flatMap_nil, List.append_nil]
/-- the least embedding, as paths from the node on -/
def Img : Nat → Tr → Tr → List (List Int) → Prop
  | 0, _, _, L => L = [[]]
  | d + 1, b, s, L => (s.kids = [] ∧ L = [[]]) ∨ (s.kids ≠ [] ∧ ∃ bl, Bl (Img d) (Ho d) b.kids s.kids bl ∧ L = flat bl)
theorem Bl.emb {R : Tr → Tr → List (List Int) → Prop} {h : Tr → Tr → Prop} {bs : List Tr} (hR : ∀ b s p, R b s p → h b s) {ss : List Tr} {bl : List Blk} (B : Bl R h bs ss bl) :
    (∀ j, j < loOf bl → ¬ Emb h (bs.take j).reverse ss.reverse) ∧ Emb h (bs.take (loOf bl)).reverse ss.reverse ∧ loOf bl ≤ bs.length := by
  induction B with
  | nil => exact ⟨fun j hj => absurd hj (by rw [loOf_nil]; exact Nat.not_lt_zero j), Emb.nil _ _, Nat.zero_le _⟩
  | snoc B hg hb hn hr ih =>
    obtain ⟨i1, i2, i3⟩ := ih
    rename_i ss s b bl g p
    have gl : g < bs.length := (List.getElem?_eq_some_iff.mp hb).1
    rw [loOf_snoc]
    refine ⟨fun j hj => emb_not fun k c hk hc => ?_, ?_, gl⟩
    · rintro ⟨e, hh⟩
      by_cases q : k < loOf bl
      · exact i1 k q e
      · exact hn k c (by omega) (by omega) hc hh
    · have t : bs.take (g + 1) = bs.take g ++ [b] := by rw [List.take_add_one, hb]; rfl
      rw [t]
      exact (emb_end _ _ _ _).mpr (.inr ⟨emb_mono i2 hg, hR _ _ _ hr⟩)
theorem Img.ho : ∀ (d : Nat) (b s : Tr) (L : List (List Int)), Img d b s L → Ho d b s
  | 0, _, _, _, _ => True.intro
  | d + 1, b, s, L, h => by
    rcases h with ⟨hk, _⟩ | ⟨_, bl, B, _⟩
    · show Emb _ _ _
      rw [hk]
      exact Emb.nil _ _
    · have e := (B.emb (Img.ho d)).2.1
      have := emb_mono e (B.emb (Img.ho d)).2.2
      rw [List.take_length] at this
      exact this
/-- a child without a place: the whole is not held -/
theorem not_held {R : Tr → Tr → List (List Int) → Prop} {h : Tr → Tr → Prop} {bs ss : List Tr} {s : Tr} {bl : List Blk} {i : Nat} (hR : ∀ b s p, R b s p → h b s) (B : Bl R h bs (ss.take i) bl) (hs : ss[i]? = some s) (hn : ∀ j c, loOf bl ≤ j → bs[j]? = some c → ¬ h c s) :
    ¬ Emb h bs.reverse ss.reverse := by
  intro e
  have e1 := emb_take (i + 1) e
  have t : ss.take (i + 1) = ss.take i ++ [s] := by rw [List.take_add_one, hs]; rfl
  rw [t, ← List.take_length (l := bs)] at e1
  refine emb_not (fun j c hj hc => ?_) e1
  rintro ⟨e2, hh⟩
  by_cases q : j < loOf bl
  · exact (B.emb hR).1 j q e2
  · exact hn j c (by omega) hc hh
theorem Bl.len {R : Tr → Tr → List (List Int) → Prop} {h : Tr → Tr → Prop} {bs : List Tr} {ss : List Tr} {bl : List Blk} (B : Bl R h bs ss bl) (f : Tr → Nat) (hf : ∀ b s p, s ∈ ss → R b s p → p.length = f s) : (flat bl).length = (ss.map f).sum := by
  induction B with
  | nil => rfl
  | snoc B hg hb hn hr ih =>
    rename_i ss s b bl g p
    rw [flat_snoc, List.length_append, ih fun b s p hs => hf b s p (List.mem_append_left _ hs), List.length_map, hf _ _ _ (List.mem_append_right _ (List.mem_cons_self ..)) hr, List.map_append, List.sum_append]
    simp
theorem Img.len : ∀ (d : Nat) (b s : Tr) (L : List (List Int)), Hb d s → Img d b s L → L.length = lv d s
  | 0, _, _, L, _, h => by
    have e : L = [[]] := h
    rw [e]
    rfl
  | d + 1, b, s, L, hb, h => by
    unfold lv
    rcases h with ⟨hk, rfl⟩ | ⟨hk, bl, B, rfl⟩
    · rw [if_pos hk]; rfl
    · rw [if_neg hk]
      exact B.len (lv d) fun b s p hs hr => Img.len d b s p (hb s hs) hr
theorem Bl.count {R : Tr → Tr → List (List Int) → Prop} {h : Tr → Tr → Prop} {bs : List Tr} {ss : List Tr} {bl : List Blk} (B : Bl R h bs ss bl) : bl.length = ss.length := by
  induction B with
  | nil => rfl
  | snoc B hg hb hn hr ih => rw [List.length_append, List.length_append, ih]; rfl
end K03
set_option Elab.async false
set_option linter.all false
set_option maxRecDepth 100000
set_option maxHeartbeats 4000000
set_option pp.maxSteps 400
set_option pp.deepTerms false
namespace K03
open PySem PySem.Spec PyProof.Rows L2 K11 K21
/-! ### _images -/
theorem lt_big {n : Nat} (h : n ≤ 1000000) : n < sizeLine := Nat.lt_of_le_of_lt h (by decide)
theorem le_big {n : Nat} (h : n ≤ 1000000) : n ≤ sizeLine := Nat.le_of_lt (lt_big h)
theorem ho_eqS {d : Nat} {H : Hp} {v : V} {b s : Tr} (h : TS d H v s) : Ho d b s ↔ Emb (Ho (d - 1)) b.kids.reverse s.kids.reverse := by
  cases d with
  | zero =>
    have e : s.kids = [] := h.hb
    rw [e]
    exact ⟨fun _ => Emb.nil _ _, fun _ => True.intro⟩
  | succ d => exact Iff.rfl
theorem lv_kids {n : Nat} {t : Tr} (h : Hb n t) : t.kids.length ≤ lv n t ∧ ∀ c ∈ t.kids, lv (n - 1) c ≤ lv n t := by
  cases n with
  | zero =>
    have e : t.kids = [] := h
    rw [e]
    exact ⟨Nat.zero_le _, fun c hc => nomatch hc⟩
  | succ n =>
    by_cases e : t.kids = []
    · rw [e]
      exact ⟨Nat.zero_le _, fun c hc => nomatch hc⟩
    · have el : lv (n + 1) t = (t.kids.map (lv n)).sum := by unfold lv; rw [if_neg e]
      rw [el]
      generalize t.kids = l
      induction l with
      | nil => exact ⟨Nat.le_refl _, fun c hc => nomatch hc⟩
      | cons x l ih =>
        have hx := lv_pos n x
        rw [List.length_cons, List.map_cons, List.sum_cons]
        refine ⟨by omega, fun c hc => ?_⟩
        rcases List.mem_cons.mp hc with rfl | hc
        · exact Nat.le_add_right _ _
        · exact Nat.le_trans (ih.2 c hc) (Nat.le_add_left _ _)
theorem sqt_of {K : PySem.W.Frag} {H : Hp} {a : Addr} {vs : List V} (h : H a = some (.tup vs)) : SqT K H a vs := .inl (.inl h)
section
variable {P : Program} {w : World} {K : PySem.W.Frag} {mg : Str → Option Value} {base : Heap}
abbrev nImages : List Str := ["big", "small", "path", "found", "at", "child", "below"]
theorem scImages : FnScope nImages ["big", "small", "path"] (defScope sImages) := ⟨rfl, rfl, rfl, by decide +kernel, rfl, by decide +kernel, by decide +kernel⟩
theorem rIx_seq {K : PySem.W.Frag} {H : Hp} {a : Addr} {vs : List V} {i : Int} {x : V} {Q : V → Hp → Prop} (h : SeqAt H a vs) (e : atI vs i = some x) (q : Q x H) : rIx K (.ref a) (.int i) H Q := by
  rcases h with h | h
  · exact .inr (.inl ⟨a, vs, i, x, rfl, rfl, .inl (.inl h), e, q⟩)
  · exact .inl ⟨a, vs, i, x, rfl, rfl, SqL.of h, e, q⟩
theorem seq_len {K : PySem.W.Frag} {H : Hp} {a : Addr} {vs : List V} (h : SeqAt H a vs) : SqL K H a vs ∨ SqT K H a vs := by
  rcases h with h | h
  · exact .inr (.inl (.inl h))
  · exact .inl (SqL.of h)
def spImages (c : Nat) : Sp := fun vs H Q _ => ∃ (v u : V) (p : Addr) (n d : Nat) (b s : Tr) (x : List Int), vs = [v, u, .ref p] ∧ TS n H v b ∧ TS d H u s ∧ H p = some (.tup (x.map V.int)) ∧ lv n b ≤ 10000 ∧ lv d s ≤ 10000 ∧ d + 1 ≤ c ∧ x.length + d ≤ 50 ∧
  (¬ Ho d b s → ∀ H', Same H H' → Q .non H') ∧ ∀ L o H', Img d b s L → Same H H' → H o = none → PathsAt H' o (L.map fun y => x ++ y) → Q (.ref o) H'
theorem ok_images {c : Nat} {f : Addr} {fd : FuncData} (F : Fun K "_images" "_images" sImages f fd) (G : FnOk P w K mg base CX0 c f fd ["big", "small", "path"] (spImages c)) (bG : Binds K fd ["big", "small", "path"] []) (mG : mg "_images" = some (.ref f))
    (ml : mg "len" = none) : FnOk P w K mg base CX0 (c + 1) f fd ["big", "small", "path"] (spImages (c + 1)) := by
  refine F.ok scImages (fun vs H Q E h => ?_) (fun cdv A outer s H vs Q E hr h => ?_)
  · obtain ⟨v, u, p, n, d, b, t, x, rfl, _⟩ := h
    rfl
  obtain ⟨v, u, p, n, d, b, t, x, rfl, hB, hT, hp, hlb, hls, hc, hxd, q0, q1⟩ := h
  have nd := scImages.nd
  have kG := F.kp
  have hHb := hB.hb
  have hHs := hT.hb
  obtain ⟨l1, l2⟩ := lv_kids hHb
  obtain ⟨m1, m2⟩ := lv_kids hHs
  have hoE := ho_eqS (b := b) hT
  have hd0 : d = 0 → t.kids = [] := fun e => by subst e; exact hT.hb
  obtain ⟨aB, bs, rfl, eB, pB⟩ := hB.par
  obtain ⟨aS, ss, rfl, eS, pS⟩ := hT.par
  have nB : bs.length = b.kids.length := pB.length
  have nS : ss.length = t.kids.length := pS.length
  rcases eS with eS | eS
  · refine ⟨_, pss_cons (ps_if (pt_not (pt_truth (pv 1) (by intro _; rfl))) (pss_one (ps_ret (pe_lst (pa_cons (pv 2) pa_nil)))) pss_nil)
      (pss_cons (ps_set (i := 3) nd rfl (.inl rfl) (pe_lst pa_nil))
      (pss_cons (ps_set (i := 4) nd rfl (.inl rfl) pe_int)
      (pss_cons (ps_for PassesOwn.never rfl (pi_tup (pv 1)) (pg_name (i := 5) nd rfl (.inl rfl))
        (pss_cons (ps_set (i := 6) nd rfl (.inl rfl) pe_non)
        (C8.pss_cut (ps_while PassesOwn.never (pt_cmp (pc_isN (pv 6)))
          (pss_cons (ps_if (pt_cmpR op_eq (pv 4) (pe_callB call_len_seq (by rfl) ml PySem.boot_len (pa_cons (pv 0) pa_nil)) (nomark _)) (pss_one (ps_ret pe_non)) pss_nil)
          (pss_cons (ps_set (i := 6) nd rfl (.inl rfl) (pe_call G hr (by rfl) mG kG bG .nil pass0 (pa_cons (pe_ix ix_seq (pv 0) (pv 4) (fun _ _ => rfl)) (pa_cons (pv 5) (pa_cons (pe_op op_catA (pv 2) (pe_tup (pa_cons (pv 4) pa_nil))) pa_nil)))))
          (pss_one (ps_aug (i := 4) nd rfl (.inl rfl) pe_int ip_add)))))
        (pss_one (ps_expr (pe_bm PySem.F.plainAttrs_list PySem.F.slot_list_extend PySem.F.type_list_extend mt_extend (pv 3) (pa_cons (pv 6) pa_nil)))))))
      (pss_one (ps_ret (pv 3)))))), ?_⟩
    refine ⟨_, rfl, !ss.isEmpty, .inr (.inl ⟨ss, sqt_of eS, rfl⟩), ?_⟩
    by_cases hse : ss = []
    · subst hse
      have hk : t.kids = [] := List.length_eq_zero_iff.mp (by rw [← nS]; rfl)
      refine iteT ⟨_, rfl, one_le, fun o ho => ?_⟩
      have s1 := same_new ho (.lst [.ref p])
      refine q1 [[]] o _ ?_ s1 ho ⟨[p], upd_same, .cons ?_ .nil⟩
      · cases d with
        | zero => exact rfl
        | succ d => exact .inl ⟨hk, rfl⟩
      · show _ = some (HO.tup ((x ++ []).map V.int))
        rw [List.append_nil]
        exact s1 _ _ hp
    have hne : (!ss.isEmpty) = true := by
      cases ss with
      | nil => exact absurd rfl hse
      | cons _ _ => rfl
    rw [hne]
    have hk : t.kids ≠ [] := fun e => hse (List.length_eq_zero_iff.mp (by rw [nS, e]; rfl))
    obtain ⟨e, rfl⟩ : ∃ e, d = e + 1 := by
      cases d with
      | zero => exact absurd (hd0 rfl) hk
      | succ e => exact ⟨e, rfl⟩
    refine iteF ⟨Nat.zero_le _, fun P0 hP0 => ?_⟩
    have s0 := same_new hP0 (.lst [])
    have els : lv (e + 1) t = (t.kids.map (lv e)).sum := by unfold lv; rw [if_neg hk]
    refine ⟨_, rfl, aS, rfl, ⟨_, sqt_of (s0 _ _ eS)⟩, for_tup (xs := ss) (fun i σ H' => Same H H' ∧ ∃ (bl : List Blk) (y5 y6 : Option V), σ = [some (.ref aB), some (.ref aS), some (.ref p), some (.ref P0), some (.int (loOf bl : Nat)), y5, y6] ∧ Bl (Img e) (Ho e) b.kids (t.kids.take i) bl ∧ PathsAt H' P0 ((flat bl).map fun y => x ++ y)) ⟨s0, [], Option.none, Option.none, rfl, .nil, [], upd_same, .nil⟩ (fun i σ H' _ z => sqt_of (z.1 _ _ eS)) ?_ ?_⟩
    · rintro i y σ H1 hy ⟨sm, bl, y5, y6, rfl, hBl, hQ⟩
      obtain ⟨si, hsi, hTi⟩ := pr_get pS hy
      have hi : i < t.kids.length := (List.getElem?_eq_some_iff.mp hsi).1
      have hmem := List.mem_of_getElem? hsi
      have hlo := hBl.emb (Img.ho e)
      have hlen : (flat bl).length = ((t.kids.take i).map (lv e)).sum := hBl.len (lv e) fun b s p hs hr => Img.len e b s p (hHs s (List.mem_of_mem_take hs)) hr
      refine ⟨fun σ' H' => Same H H' ∧ ∃ (g : Nat) (c : Tr) (part : List (List Int)) (o : Addr), σ' = [some (.ref aB), some (.ref aS), some (.ref p), some (.ref P0), some (.int ((g + 1 : Nat) : Int)), some y, some (.ref o)] ∧ loOf bl ≤ g ∧ b.kids[g]? = some c ∧ (∀ j z, loOf bl ≤ j → j < g → b.kids[j]? = some z → ¬ Ho e z si) ∧ Img e c si part ∧
        PathsAt H' P0 ((flat bl).map fun y => x ++ y) ∧ PathsAt H' o (part.map fun y => (x ++ [(g : Int)]) ++ y) ∧ o ≠ P0, ?_, ?_⟩
      · refine while_by (fun σ' H' => Same H H' ∧ PathsAt H' P0 ((flat bl).map fun y => x ++ y) ∧ ((∃ a : Nat, σ' = [some (.ref aB), some (.ref aS), some (.ref p), some (.ref P0), some (.int (a : Int)), some y, some .non] ∧ loOf bl ≤ a ∧ a ≤ b.kids.length ∧ ∀ j z, loOf bl ≤ j → j < a → b.kids[j]? = some z → ¬ Ho e z si) ∨
          ∃ (g : Nat) (c : Tr) (part : List (List Int)) (o : Addr), σ' = [some (.ref aB), some (.ref aS), some (.ref p), some (.ref P0), some (.int ((g + 1 : Nat) : Int)), some y, some (.ref o)] ∧ loOf bl ≤ g ∧ b.kids[g]? = some c ∧ (∀ j z, loOf bl ≤ j → j < g → b.kids[j]? = some z → ¬ Ho e z si) ∧ Img e c si part ∧ PathsAt H' o (part.map fun y => (x ++ [(g : Int)]) ++ y) ∧ o ≠ P0))
          (fun σ' H' => match σ' with
            | [_, _, _, _, some (.int a), _, some .non] => b.kids.length + 1 - a.toNat
            | _ => 0)
          ⟨sm, hQ, .inl ⟨loOf bl, rfl, Nat.le_refl _, hlo.2.2, fun j z h1 h2 => absurd h1 (by omega)⟩⟩ ?_ ?_
        · rintro σ' H2 ⟨sm2, hQ2, ⟨a, rfl, ha1, ha2, hnn⟩ | ⟨g, c, part, o, rfl, hg1, hg2, hg3, hg4, hg5, hg6⟩⟩
          · refine ⟨_, rfl, _, rfl, iteT ?_⟩
            refine ⟨_, rfl, _, rfl, aB, _, rfl, seq_len (eB.same sm2), rfl, _, rfl, ite2 (fun z => ?_) (fun z => ?_)⟩
            · have z' : (a : Int) = (bs.length : Int) := V.int.inj (of_decide_eq_true z)
              refine q0 (fun ho => ?_) H2 sm2
              refine not_held (Img.ho e) hBl hsi (fun j z h1 h2 => ?_) ho
              exact hnn j z h1 (by have := (List.getElem?_eq_some_iff.mp h2).1; omega) h2
            · have z' : ¬ (a : Int) = (bs.length : Int) := fun y => z (decide_eq_true (congrArg V.int y))
              have hab : a < bs.length := by omega
              have ga : bs[a]? = some bs[a] := List.getElem?_eq_getElem hab
              obtain ⟨ba, hba, hTa⟩ := pr_get pB ga
              refine ⟨_, rfl, _, rfl, rIx_seq (eB.same sm2) (atI_nat ga) ?_⟩
              refine ⟨_, rfl, _, rfl, _, rfl, cat1 (sm2 _ _ hp) (by omega) fun r H3 s3 e3 => ?_⟩
              have hls2 := m2 si hmem
              refine ⟨bs[a], y, r, n - 1, e, ba, si, x ++ [(a : Int)], rfl, (hTa.same sm2).same s3, (hTi.same sm2).same s3, e3, Nat.le_trans (l2 ba (List.mem_of_getElem? hba)) hlb, Nat.le_trans hls2 hls, by omega, by rw [List.length_append, List.length_singleton]; omega, fun hno H4 s4 => ?_, fun L o H4 hL s4 ho hP4 => ?_⟩
              · refine ⟨_, rfl, _, _, rfl, rfl, ⟨sm2.trans (s3.trans s4), (hQ2.same s3).same s4, .inl ⟨a + 1, rfl, by omega, by omega, fun j z h1 h2 h3 => ?_⟩⟩, ?_⟩
                · by_cases hj : j < a
                  · exact hnn j z h1 hj h3
                  · have : j = a := by omega
                    subst this
                    rw [hba] at h3
                    cases h3
                    exact hno
                · show b.kids.length + 1 - ((a : Int) + 1).toNat < b.kids.length + 1 - ((a : Int)).toNat
                  omega
              · obtain ⟨rq, eq, _⟩ := id hQ2
                refine ⟨_, rfl, _, _, rfl, rfl, ⟨sm2.trans (s3.trans s4), (hQ2.same s3).same s4, .inr ⟨a, ba, L, o, rfl, ha1, hba, hnn, hL, hP4, Ne.symm (ne_of_none (s3 _ _ eq) ho)⟩⟩, ?_⟩
                show 0 < b.kids.length + 1 - ((a : Int)).toNat
                omega
          · refine ⟨_, rfl, _, rfl, iteF ?_⟩
            exact ⟨sm2, g, c, part, o, rfl, hg1, hg2, hg3, hg4, hQ2, hg5, hg6⟩
        · rintro σ' H' Q1 Q2 hQQ ⟨v0, e0, c0, e1, hq⟩
          exact ⟨v0, e0, c0, e1, hQQ _ _ hq⟩
      rintro σ' H2 ⟨sm2, g, c, part, o, rfl, hg1, hg2, hg3, hg4, ⟨r1, f1, w1⟩, ⟨r2, f2, w2⟩, hg6⟩
      have hpl : part.length = lv e si := Img.len e c si part (hHs si hmem) hg4
      have htot := sum_take_le (lv e) t.kids (i + 1)
      rw [tk1 hsi, List.map_append, List.sum_append] at htot
      have hsg : ([si].map (lv e)).sum = lv e si := by simp
      rw [hsg] at htot
      refine ⟨_, rfl, .inl ⟨rfl, _, SqL.of f1⟩, _, rfl, P0, o, _, _, rfl, rfl, f1, f2, ?_, same_upd sm2 hP0 _, bl ++ [(g, part)], some y, some (.ref o), ?_, ?_, r1 ++ r2, ?_, ?_⟩
      · rw [List.length_map, List.length_map, w1.length, w2.length, List.length_map, List.length_map, hlen, hpl]
        exact le_big (by omega)
      · rw [loOf_snoc]
      · rw [tk1 hsi]
        exact .snoc hBl hg1 hg2 hg3 hg4
      · rw [upd_same, List.map_append]
      · rw [flat_snoc, List.map_append, List.map_map]
        refine pr_app (w1.lst f1 _) ?_
        have ef : ((fun y => x ++ y) ∘ fun y => (g : Int) :: y) = fun y : List Int => (x ++ [(g : Int)]) ++ y := by
          funext y
          show x ++ ((g : Int) :: y) = _
          rw [List.append_assoc]
          rfl
        rw [ef]
        exact w2.lst f1 _
    · rintro σ H1 ⟨sm, bl, y5, y6, rfl, hBl, hQ⟩
      rw [nS, List.take_length] at hBl
      exact ⟨_, rfl, q1 (flat bl) P0 H1 (.inr ⟨hk, bl, hBl, rfl⟩) sm hP0 hQ⟩
  · refine ⟨_, pss_cons (ps_if (pt_not (pt_truth (pv 1) (by intro _; rfl))) (pss_one (ps_ret (pe_lst (pa_cons (pv 2) pa_nil)))) pss_nil)
      (pss_cons (ps_set (i := 3) nd rfl (.inl rfl) (pe_lst pa_nil))
      (pss_cons (ps_set (i := 4) nd rfl (.inl rfl) pe_int)
      (pss_cons (ps_for PassesOwn.never rfl (pi_list (pv 1)) (pg_name (i := 5) nd rfl (.inl rfl))
        (pss_cons (ps_set (i := 6) nd rfl (.inl rfl) pe_non)
        (C8.pss_cut (ps_while PassesOwn.never (pt_cmp (pc_isN (pv 6)))
          (pss_cons (ps_if (pt_cmpR op_eq (pv 4) (pe_callB call_len_seq (by rfl) ml PySem.boot_len (pa_cons (pv 0) pa_nil)) (nomark _)) (pss_one (ps_ret pe_non)) pss_nil)
          (pss_cons (ps_set (i := 6) nd rfl (.inl rfl) (pe_call G hr (by rfl) mG kG bG .nil pass0 (pa_cons (pe_ix ix_seq (pv 0) (pv 4) (fun _ _ => rfl)) (pa_cons (pv 5) (pa_cons (pe_op op_catA (pv 2) (pe_tup (pa_cons (pv 4) pa_nil))) pa_nil)))))
          (pss_one (ps_aug (i := 4) nd rfl (.inl rfl) pe_int ip_add)))))
        (pss_one (ps_expr (pe_bm PySem.F.plainAttrs_list PySem.F.slot_list_extend PySem.F.type_list_extend mt_extend (pv 3) (pa_cons (pv 6) pa_nil)))))))
      (pss_one (ps_ret (pv 3)))))), ?_⟩
    refine ⟨_, rfl, !ss.isEmpty, .inl ⟨ss, SqL.of eS, rfl⟩, ?_⟩
    by_cases hse : ss = []
    · subst hse
      have hk : t.kids = [] := List.length_eq_zero_iff.mp (by rw [← nS]; rfl)
      refine iteT ⟨_, rfl, one_le, fun o ho => ?_⟩
      have s1 := same_new ho (.lst [.ref p])
      refine q1 [[]] o _ ?_ s1 ho ⟨[p], upd_same, .cons ?_ .nil⟩
      · cases d with
        | zero => exact rfl
        | succ d => exact .inl ⟨hk, rfl⟩
      · show _ = some (HO.tup ((x ++ []).map V.int))
        rw [List.append_nil]
        exact s1 _ _ hp
    have hne : (!ss.isEmpty) = true := by
      cases ss with
      | nil => exact absurd rfl hse
      | cons _ _ => rfl
    rw [hne]
    have hk : t.kids ≠ [] := fun e => hse (List.length_eq_zero_iff.mp (by rw [nS, e]; rfl))
    obtain ⟨e, rfl⟩ : ∃ e, d = e + 1 := by
      cases d with
      | zero => exact absurd (hd0 rfl) hk
      | succ e => exact ⟨e, rfl⟩
    refine iteF ⟨Nat.zero_le _, fun P0 hP0 => ?_⟩
    have s0 := same_new hP0 (.lst [])
    have els : lv (e + 1) t = (t.kids.map (lv e)).sum := by unfold lv; rw [if_neg hk]
    refine ⟨_, rfl, aS, rfl, ⟨_, SqL.of (s0 _ _ eS)⟩, for_list (xs := ss) (fun i σ H' => Same H H' ∧ ∃ (bl : List Blk) (y5 y6 : Option V), σ = [some (.ref aB), some (.ref aS), some (.ref p), some (.ref P0), some (.int (loOf bl : Nat)), y5, y6] ∧ Bl (Img e) (Ho e) b.kids (t.kids.take i) bl ∧ PathsAt H' P0 ((flat bl).map fun y => x ++ y)) ⟨s0, [], Option.none, Option.none, rfl, .nil, [], upd_same, .nil⟩ (fun i σ H' _ z => SqL.of (z.1 _ _ eS)) ?_ ?_⟩
    · rintro i y σ H1 hy ⟨sm, bl, y5, y6, rfl, hBl, hQ⟩
      obtain ⟨si, hsi, hTi⟩ := pr_get pS hy
      have hi : i < t.kids.length := (List.getElem?_eq_some_iff.mp hsi).1
      have hmem := List.mem_of_getElem? hsi
      have hlo := hBl.emb (Img.ho e)
      have hlen : (flat bl).length = ((t.kids.take i).map (lv e)).sum := hBl.len (lv e) fun b s p hs hr => Img.len e b s p (hHs s (List.mem_of_mem_take hs)) hr
      refine ⟨fun σ' H' => Same H H' ∧ ∃ (g : Nat) (c : Tr) (part : List (List Int)) (o : Addr), σ' = [some (.ref aB), some (.ref aS), some (.ref p), some (.ref P0), some (.int ((g + 1 : Nat) : Int)), some y, some (.ref o)] ∧ loOf bl ≤ g ∧ b.kids[g]? = some c ∧ (∀ j z, loOf bl ≤ j → j < g → b.kids[j]? = some z → ¬ Ho e z si) ∧ Img e c si part ∧
        PathsAt H' P0 ((flat bl).map fun y => x ++ y) ∧ PathsAt H' o (part.map fun y => (x ++ [(g : Int)]) ++ y) ∧ o ≠ P0, ?_, ?_⟩
      · refine while_by (fun σ' H' => Same H H' ∧ PathsAt H' P0 ((flat bl).map fun y => x ++ y) ∧ ((∃ a : Nat, σ' = [some (.ref aB), some (.ref aS), some (.ref p), some (.ref P0), some (.int (a : Int)), some y, some .non] ∧ loOf bl ≤ a ∧ a ≤ b.kids.length ∧ ∀ j z, loOf bl ≤ j → j < a → b.kids[j]? = some z → ¬ Ho e z si) ∨
          ∃ (g : Nat) (c : Tr) (part : List (List Int)) (o : Addr), σ' = [some (.ref aB), some (.ref aS), some (.ref p), some (.ref P0), some (.int ((g + 1 : Nat) : Int)), some y, some (.ref o)] ∧ loOf bl ≤ g ∧ b.kids[g]? = some c ∧ (∀ j z, loOf bl ≤ j → j < g → b.kids[j]? = some z → ¬ Ho e z si) ∧ Img e c si part ∧ PathsAt H' o (part.map fun y => (x ++ [(g : Int)]) ++ y) ∧ o ≠ P0))
          (fun σ' H' => match σ' with
            | [_, _, _, _, some (.int a), _, some .non] => b.kids.length + 1 - a.toNat
            | _ => 0)
          ⟨sm, hQ, .inl ⟨loOf bl, rfl, Nat.le_refl _, hlo.2.2, fun j z h1 h2 => absurd h1 (by omega)⟩⟩ ?_ ?_
        · rintro σ' H2 ⟨sm2, hQ2, ⟨a, rfl, ha1, ha2, hnn⟩ | ⟨g, c, part, o, rfl, hg1, hg2, hg3, hg4, hg5, hg6⟩⟩
          · refine ⟨_, rfl, _, rfl, iteT ?_⟩
            refine ⟨_, rfl, _, rfl, aB, _, rfl, seq_len (eB.same sm2), rfl, _, rfl, ite2 (fun z => ?_) (fun z => ?_)⟩
            · have z' : (a : Int) = (bs.length : Int) := V.int.inj (of_decide_eq_true z)
              refine q0 (fun ho => ?_) H2 sm2
              refine not_held (Img.ho e) hBl hsi (fun j z h1 h2 => ?_) ho
              exact hnn j z h1 (by have := (List.getElem?_eq_some_iff.mp h2).1; omega) h2
            · have z' : ¬ (a : Int) = (bs.length : Int) := fun y => z (decide_eq_true (congrArg V.int y))
              have hab : a < bs.length := by omega
              have ga : bs[a]? = some bs[a] := List.getElem?_eq_getElem hab
              obtain ⟨ba, hba, hTa⟩ := pr_get pB ga
              refine ⟨_, rfl, _, rfl, rIx_seq (eB.same sm2) (atI_nat ga) ?_⟩
              refine ⟨_, rfl, _, rfl, _, rfl, cat1 (sm2 _ _ hp) (by omega) fun r H3 s3 e3 => ?_⟩
              have hls2 := m2 si hmem
              refine ⟨bs[a], y, r, n - 1, e, ba, si, x ++ [(a : Int)], rfl, (hTa.same sm2).same s3, (hTi.same sm2).same s3, e3, Nat.le_trans (l2 ba (List.mem_of_getElem? hba)) hlb, Nat.le_trans hls2 hls, by omega, by rw [List.length_append, List.length_singleton]; omega, fun hno H4 s4 => ?_, fun L o H4 hL s4 ho hP4 => ?_⟩
              · refine ⟨_, rfl, _, _, rfl, rfl, ⟨sm2.trans (s3.trans s4), (hQ2.same s3).same s4, .inl ⟨a + 1, rfl, by omega, by omega, fun j z h1 h2 h3 => ?_⟩⟩, ?_⟩
                · by_cases hj : j < a
                  · exact hnn j z h1 hj h3
                  · have : j = a := by omega
                    subst this
                    rw [hba] at h3
                    cases h3
                    exact hno
                · show b.kids.length + 1 - ((a : Int) + 1).toNat < b.kids.length + 1 - ((a : Int)).toNat
                  omega
              · obtain ⟨rq, eq, _⟩ := id hQ2
                refine ⟨_, rfl, _, _, rfl, rfl, ⟨sm2.trans (s3.trans s4), (hQ2.same s3).same s4, .inr ⟨a, ba, L, o, rfl, ha1, hba, hnn, hL, hP4, Ne.symm (ne_of_none (s3 _ _ eq) ho)⟩⟩, ?_⟩
                show 0 < b.kids.length + 1 - ((a : Int)).toNat
                omega
          · refine ⟨_, rfl, _, rfl, iteF ?_⟩
            exact ⟨sm2, g, c, part, o, rfl, hg1, hg2, hg3, hg4, hQ2, hg5, hg6⟩
        · rintro σ' H' Q1 Q2 hQQ ⟨v0, e0, c0, e1, hq⟩
          exact ⟨v0, e0, c0, e1, hQQ _ _ hq⟩
      rintro σ' H2 ⟨sm2, g, c, part, o, rfl, hg1, hg2, hg3, hg4, ⟨r1, f1, w1⟩, ⟨r2, f2, w2⟩, hg6⟩
      have hpl : part.length = lv e si := Img.len e c si part (hHs si hmem) hg4
      have htot := sum_take_le (lv e) t.kids (i + 1)
      rw [tk1 hsi, List.map_append, List.sum_append] at htot
      have hsg : ([si].map (lv e)).sum = lv e si := by simp
      rw [hsg] at htot
      refine ⟨_, rfl, .inl ⟨rfl, _, SqL.of f1⟩, _, rfl, P0, o, _, _, rfl, rfl, f1, f2, ?_, same_upd sm2 hP0 _, bl ++ [(g, part)], some y, some (.ref o), ?_, ?_, r1 ++ r2, ?_, ?_⟩
      · rw [List.length_map, List.length_map, w1.length, w2.length, List.length_map, List.length_map, hlen, hpl]
        exact le_big (by omega)
      · rw [loOf_snoc]
      · rw [tk1 hsi]
        exact .snoc hBl hg1 hg2 hg3 hg4
      · rw [upd_same, List.map_append]
      · rw [flat_snoc, List.map_append, List.map_map]
        refine pr_app (w1.lst f1 _) ?_
        have ef : ((fun y => x ++ y) ∘ fun y => (g : Int) :: y) = fun y : List Int => (x ++ [(g : Int)]) ++ y := by
          funext y
          show x ++ ((g : Int) :: y) = _
          rw [List.append_assoc]
          rfl
        rw [ef]
        exact w2.lst f1 _
    · rintro σ H1 ⟨sm, bl, y5, y6, rfl, hBl, hQ⟩
      rw [nS, List.take_length] at hBl
      exact ⟨_, rfl, q1 (flat bl) P0 H1 (.inr ⟨hk, bl, hBl, rfl⟩) sm hP0 hQ⟩
theorem images_all {f : Addr} {fd : FuncData} (F : Fun K "_images" "_images" sImages f fd) (bG : Binds K fd ["big", "small", "path"] []) (mG : mg "_images" = some (.ref f)) (ml : mg "len" = none) :
    ∀ c, FnOk P w K mg base CX0 c f fd ["big", "small", "path"] (spImages c)
  | 0 => neverOk fun vs H Q E h => by
    obtain ⟨v, u, p, n, d, b, t, x, _, _, _, _, _, _, h2, _⟩ := h
    omega
  | c + 1 => ok_images F (images_all F bG mG ml c) bG mG ml
end
end K03
set_option Elab.async false
set_option linter.all false
set_option maxRecDepth 100000
set_option maxHeartbeats 4000000
set_option pp.maxSteps 400
set_option pp.deepTerms false
namespace K03
open PySem PySem.Spec PyProof.Rows L2 K11 K21
/-! ### holds, embedding; _law_is, _law_is_numbers -/
theorem set_range {n k : Nat} {f g : Nat → V} {v : V} (hv : g k = v) (hne : ∀ j, j ≠ k → f j = g j) : ((List.range n).map f).set k v = (List.range n).map g := by
  refine List.ext_getElem? fun i => ?_
  rw [List.getElem?_set, List.length_map, List.length_range, List.getElem?_map, List.getElem?_map]
  by_cases h : k = i
  · subst h
    rw [if_pos rfl]
    by_cases q : k < n
    · rw [if_pos q, List.getElem?_range q]
      exact (congrArg some hv).symm
    · rw [if_neg q, List.getElem?_eq_none (by rw [List.length_range]; omega)]
      rfl
  · rw [if_neg h]
    by_cases q : i < n
    · rw [List.getElem?_range q]
      exact congrArg some (hne i fun z => h z.symm)
    · rw [List.getElem?_eq_none (by rw [List.length_range]; omega)]
      rfl
theorem at_range {n k : Nat} {f : Nat → V} (h : k < n) : atI ((List.range n).map f) (0 + (k : Int)) = some (f k) := by
  rw [Int.zero_add]
  exact atI_nat (by rw [List.getElem?_map, List.getElem?_range h]; rfl)
open Classical in
noncomputable def hoB (d : Nat) (b s : Tr) : Bool := decide (Ho d b s)
theorem hoB_t {d : Nat} {b s : Tr} (h : Ho d b s) : hoB d b s = true := by classical exact decide_eq_true h
theorem hoB_f {d : Nat} {b s : Tr} (h : ¬ Ho d b s) : hoB d b s = false := by classical exact decide_eq_false h
section
variable {P : Program} {w : World} {K : PySem.W.Frag} {mg : Str → Option Value} {base : Heap}
theorem scPHolds : FnScope ["big", "small"] ["big", "small"] (defScope sPHolds) := ⟨rfl, rfl, rfl, by decide +kernel, rfl, by decide +kernel, by decide +kernel⟩
theorem scPEmb : FnScope ["big", "small", "images"] ["big", "small"] (defScope sPEmb) := ⟨rfl, rfl, rfl, by decide +kernel, rfl, by decide +kernel, by decide +kernel⟩
theorem scIs : FnScope ["value", "due"] ["value", "due"] (defScope sIs) := ⟨rfl, rfl, rfl, by decide +kernel, rfl, by decide +kernel, by decide +kernel⟩
theorem scNumbers : FnScope ["value", "number"] ["value"] (defScope sNumbers) := ⟨rfl, rfl, rfl, by decide +kernel, rfl, by decide +kernel, by decide +kernel⟩
def spPHolds : Sp := fun vs H Q _ => ∃ (v u : V) (n d : Nat) (b s : Tr), vs = [v, u] ∧ TS n H v b ∧ TS d H u s ∧ lv n b ≤ 10000 ∧ lv d s ≤ 10000 ∧ d ≤ 20 ∧ ∀ H', Same H H' → Q (.bl (hoB d b s)) H'
theorem map_nil (L : List (List Int)) : (L.map fun y => ([] : List Int) ++ y) = L := by simp
/-- an embedding is there, or none -/
theorem img_ex : ∀ (d : Nat) (b s : Tr), Hb d s → Ho d b s → True := fun _ _ _ _ _ => True.intro
theorem ok_pholds {f g : Addr} {fd gd : FuncData} (F : Fun K "holds" "holds" sPHolds f fd) (G : FnOk P w K mg base CX0 22 g gd ["big", "small", "path"] (spImages 22)) (bG : Binds K gd ["big", "small", "path"] []) (kG : PySem.W.keepIn K (.ref g) = true) (mG : mg "_images" = some (.ref g)) :
    FnOk P w K mg base CX0 23 f fd ["big", "small"] spPHolds := by
  refine F.ok (k := 22) scPHolds (fun vs H Q E h => ?_) (fun cdv A outer s H vs Q E hr h => ?_)
  · obtain ⟨v, u, n, d, b, t, rfl, _⟩ := h
    rfl
  obtain ⟨v, u, n, d, b, t, rfl, hB, hT, hlb, hls, hd, q⟩ := h
  refine ⟨_, pss_one (ps_ret (pe_cmp (pc_notN (pe_call G hr (by rfl) mG kG bG .nil pass0 (pa_cons (pv 0) (pa_cons (pv 1) (pa_cons (pe_tup pa_nil) pa_nil))))))), ?_⟩
  refine ⟨_, rfl, _, rfl, Nat.zero_le _, fun p hp => ?_⟩
  have s1 := same_new hp (.tup [])
  refine ⟨v, u, p, n, d, b, t, [], rfl, hB.same s1, hT.same s1, upd_same, hlb, hls, by omega, by show 0 + d ≤ 50; omega, fun hno H' s2 => ?_, fun L o H' hL s2 _ _ => ?_⟩
  · have k := q H' (s1.trans s2)
    rw [hoB_f hno] at k
    exact k
  · have k := q H' (s1.trans s2)
    rw [hoB_t (Img.ho d b t L hL)] at k
    exact k
def spPEmb : Sp := fun vs H Q _ => ∃ (v u : V) (n d : Nat) (b s : Tr), vs = [v, u] ∧ TS n H v b ∧ TS d H u s ∧ lv n b ≤ 10000 ∧ lv d s ≤ 10000 ∧ d ≤ 20 ∧
  (¬ Ho d b s → ∀ H', Same H H' → Q .non H') ∧ ∀ L o (rs : List Addr) H', Img d b s L → Same H H' → H' o = some (.tup (rs.map V.ref)) → PA H' rs L → Q (.ref o) H'
theorem ok_pemb {f g : Addr} {fd gd : FuncData} (F : Fun K "embedding" "embedding" sPEmb f fd) (G : FnOk P w K mg base CX0 22 g gd ["big", "small", "path"] (spImages 22)) (bG : Binds K gd ["big", "small", "path"] []) (kG : PySem.W.keepIn K (.ref g) = true) (mG : mg "_images" = some (.ref g)) (mt : mg "tuple" = none) :
    FnOk P w K mg base CX0 23 f fd ["big", "small"] spPEmb := by
  refine F.ok (k := 22) scPEmb (fun vs H Q E h => ?_) (fun cdv A outer s H vs Q E hr h => ?_)
  · obtain ⟨v, u, n, d, b, t, rfl, _⟩ := h
    rfl
  obtain ⟨v, u, n, d, b, t, rfl, hB, hT, hlb, hls, hd, q0, q1⟩ := h
  have nd := scPEmb.nd
  refine ⟨_, pss_cons (ps_set (i := 2) nd rfl (.inl rfl) (pe_call G hr (by rfl) mG kG bG .nil pass0 (pa_cons (pv 0) (pa_cons (pv 1) (pa_cons (pe_tup pa_nil) pa_nil)))))
    (pss_cons (ps_if (pt_cmp (pc_isN (pv 2))) (pss_one (ps_ret pe_non)) pss_nil)
    (pss_one (ps_ret (pe_tupleOf (by rfl) mt (pv 2))))), ?_⟩
  refine ⟨_, rfl, _, rfl, Nat.zero_le _, fun p hp => ?_⟩
  have s1 := same_new hp (.tup [])
  refine ⟨v, u, p, n, d, b, t, [], rfl, hB.same s1, hT.same s1, upd_same, hlb, hls, by omega, by show 0 + d ≤ 50; omega, fun hno H' s2 => ?_, fun L o H' hL s2 ho hP => ?_⟩
  · exact ⟨_, rfl, _, rfl, iteT (q0 hno H' (s1.trans s2))⟩
  · rw [map_nil] at hP
    obtain ⟨rs, e1, pa⟩ := hP
    refine ⟨_, rfl, _, rfl, iteF ⟨_, rfl, .inl ⟨o, _, rfl, SqL.of e1, fun z hz => ?_⟩⟩⟩
    have s3 := same_new hz (.tup (rs.map V.ref))
    exact q1 L z rs _ hL (s1.trans (s2.trans s3)) upd_same (pa.same s3)
def spIs : Sp := fun vs H Q _ => ∃ a : Bool, vs = [.bl a, .bl a] ∧ Q (.bl true) H
theorem ok_is {f : Addr} {fd : FuncData} (F : Fun K "_law_is" "_law_is" sIs f fd) : FnOk P w K mg base CX0 1 f fd ["value", "due"] spIs := by
  refine F.ok scIs (fun vs H Q E h => ?_) (fun cdv A outer s H vs Q E hr h => ?_)
  · obtain ⟨a, rfl, _⟩ := h
    rfl
  obtain ⟨a, rfl, q⟩ := h
  refine ⟨_, pss_cons (ps_if (pt_truth (pv 1) (by intro _; rfl)) (pss_one (ps_ret (pe_cmpR op_isBl (pv 0) pe_bl (nomark _)))) pss_nil)
    (pss_one (ps_ret (pe_cmpR op_isBl (pv 0) pe_bl (nomark _)))), ?_⟩
  refine ⟨_, rfl, a, rfl, ?_⟩
  cases a with
  | true => exact iteT ⟨_, rfl, _, _, rfl, rfl, q⟩
  | false => exact iteF ⟨_, rfl, _, _, rfl, rfl, q⟩
end
end K03
set_option Elab.async false
set_option linter.all false
set_option maxRecDepth 100000
set_option maxHeartbeats 4000000
set_option pp.maxSteps 400
set_option pp.deepTerms false
namespace K03
open PySem PySem.Spec PyProof.Rows L2 K11 K21
/-! ### _law_is_numbers, _law_holds -/
theorem _root_.K21.TA.par : ∀ {n : Nat} {H : Hp} {v : V} {t : Tr}, TA n H v t → ∃ a vs, v = .ref a ∧ H a = some (.tup vs) ∧ Paired (TA (n - 1) H) vs t.kids
  | 0, _, _, t, h => by
    obtain ⟨a, e1, e2, e3⟩ := h
    exact ⟨a, [], e1, e2, by rw [e3]; exact .nil⟩
  | n + 1, _, _, _, h => h
theorem ho_eq {d : Nat} {H : Hp} {v : V} {b s : Tr} (h : TA d H v s) : Ho d b s ↔ Emb (Ho (d - 1)) b.kids.reverse s.kids.reverse := by
  cases d with
  | zero =>
    have e : s.kids = [] := h.hb
    rw [e]
    exact ⟨fun _ => Emb.nil _ _, fun _ => True.intro⟩
  | succ d => exact Iff.rfl
open Classical in
noncomputable def emB (d : Nat) (bs ss : List Tr) : Bool := decide (Emb (Ho d) bs.reverse ss.reverse)
theorem emB_nil {d : Nat} {bs : List Tr} : emB d bs [] = true := by classical exact decide_eq_true (Emb.nil _ _)
theorem emB_no {d : Nat} {ss : List Tr} {s : Tr} : emB d [] (ss ++ [s]) = false := by classical exact decide_eq_false (emb_no ss s)
theorem emB_end {d : Nat} {bs ss : List Tr} {b s : Tr} : emB d (bs ++ [b]) (ss ++ [s]) = (emB d bs (ss ++ [s]) || (emB d bs ss && hoB d b s)) := by
  unfold emB hoB
  rw [Bool.eq_iff_iff, Bool.or_eq_true, Bool.and_eq_true]
  simp only [decide_eq_true_eq]
  exact emb_end bs ss b s
theorem hoB_em {d : Nat} {H : Hp} {v : V} {b s : Tr} (h : TA d H v s) : hoB d b s = emB (d - 1) b.kids s.kids := by
  unfold emB hoB
  rw [Bool.eq_iff_iff]
  simp only [decide_eq_true_eq]
  exact ho_eq h
theorem idx_mem {xs : List V} {d : Int} (h0 : 0 ≤ d) (h1 : d < (xs.length : Int)) : ∃ v, atI xs d = some v ∧ v ∈ xs := by
  obtain ⟨j, rfl⟩ := Int.eq_ofNat_of_zero_le h0
  have hj : j < xs.length := Int.ofNat_lt.mp h1
  exact ⟨xs[j], atI_nat (List.getElem?_eq_getElem hj), List.getElem_mem hj⟩
theorem idx_int {ns : List Int} {d : Int} (h0 : 0 ≤ d) (h1 : d < (ns.length : Int)) : ∃ i, atI (ns.map V.int) d = some (.int i) ∧ i ∈ ns := by
  obtain ⟨v, e, m⟩ := idx_mem (xs := ns.map V.int) h0 (by rw [List.length_map]; exact h1)
  obtain ⟨i, hi, rfl⟩ := List.mem_map.mp m
  exact ⟨i, e, hi⟩
theorem ixN_nat {n : Nat} {d : Int} (h0 : 0 ≤ d) (h1 : d < (n : Int)) : ixN n d = some d.toNat := by
  unfold ixN
  rw [if_pos h0, if_pos h1]
theorem seqIx_nat {n : Nat} {d : Int} (h0 : 0 ≤ d) (h1 : d < (n : Int)) : seqIndex? d n = some d.toNat := (ixN_seq (ixN_nat h0 h1)).1
section
variable {P : Program} {w : World} {K : PySem.W.Frag} {mg : Str → Option Value} {base : Heap}
abbrev nHolds : List Str := ["big", "small", "j", "reach", "i", "fresh"]
theorem scHolds : FnScope nHolds ["big", "small"] (defScope sHolds) := ⟨rfl, rfl, rfl, by decide +kernel, rfl, by decide +kernel, by decide +kernel⟩
def spNumbers : Sp := fun vs H Q _ => ∃ (a : Addr) (x : List Int), vs = [.ref a] ∧ H a = some (.tup (x.map V.int)) ∧ Q (.bl true) H
theorem ok_numbers {f g : Addr} {fd gd : FuncData} (F : Fun K "_law_is_numbers" "_law_is_numbers" sNumbers f fd) (G : FnOk P w K mg base CX0 1 g gd ["value"] spWhole) (bG : Binds K gd ["value"] []) (kG : PySem.W.keepIn K (.ref g) = true) (mG : mg "_law_whole" = some (.ref g)) (mI : mg "isinstance" = none) (mt : mg "tuple" = none) :
    FnOk P w K mg base CX0 2 f fd ["value"] spNumbers := by
  refine F.ok scNumbers (fun vs H Q E h => ?_) (fun cdv A outer s H vs Q E hr h => ?_)
  · obtain ⟨a, x, rfl, _⟩ := h
    rfl
  obtain ⟨a, x, rfl, ha, q⟩ := h
  have nd := scNumbers.nd
  refine ⟨_, pss_cons (ps_if (pt_not (pt_val (pe_callB call_isi (by rfl) mI boot_isinstance (pa_cons (pv 0) (pa_cons (pe_bltn (v := .ty "tuple") (by rfl) mt PyProof.Rows.boot_tuple rfl) pa_nil))))) (pss_one (ps_ret pe_bl)) pss_nil)
    (pss_cons (ps_for PassesOwn.never rfl (pi_tup (pv 0)) (pg_name (i := 1) nd rfl (.inl rfl))
      (pss_one (ps_if (pt_not (pt_val (pe_call G hr (by rfl) mG kG bG .nil pass0 (pa_cons (pv 1) pa_nil)))) (pss_one (ps_ret pe_bl)) pss_nil)))
    (pss_one (ps_ret pe_bl))), ?_⟩
  refine ⟨_, rfl, _, _, _, _, true, rfl, .ty "tuple", .base (.tup ha), kit_ty (by decide +kernel), true, rfl, iteF ?_⟩
  refine ⟨_, rfl, a, rfl, ⟨_, sqt_of ha⟩, for_tup (xs := x.map V.int) (fun i σ H' => H' = H ∧ ∃ y : Option V, σ = [some (.ref a), y]) ⟨rfl, Option.none, rfl⟩ (fun i σ H' _ z => by rw [z.1]; exact sqt_of ha) ?_ ?_⟩
  · rintro i y σ H1 hy ⟨rfl, z, rfl⟩
    obtain ⟨v, hv, rfl⟩ := map_atV hy
    exact ⟨_, rfl, v, rfl, true, rfl, iteF ⟨rfl, _, rfl⟩⟩
  · rintro σ H1 ⟨rfl, z, rfl⟩
    exact q
def spHolds (c : Nat) : Sp := fun vs H Q _ => ∃ (v u : V) (n d : Nat) (b s : Tr), vs = [v, u] ∧ TA n H v b ∧ TA d H u s ∧ lv n b ≤ 10000 ∧ lv d s ≤ 10000 ∧ d + 1 ≤ c ∧ ∀ H', Same H H' → Q (.bl (hoB d b s)) H'
theorem ok_holds {c : Nat} {f : Addr} {fd : FuncData} (F : Fun K "_law_holds" "_law_holds" sHolds f fd) (G : FnOk P w K mg base CX0 c f fd ["big", "small"] (spHolds c)) (bG : Binds K fd ["big", "small"] []) (mG : mg "_law_holds" = some (.ref f))
    (ml : mg "len" = none) (mr : mg "range" = none) : FnOk P w K mg base CX0 (c + 1) f fd ["big", "small"] (spHolds (c + 1)) := by
  classical
  refine F.ok scHolds (fun vs H Q E h => ?_) (fun cdv A outer s H vs Q E hr h => ?_)
  · obtain ⟨v, u, n, d, b, t, rfl, _⟩ := h
    rfl
  obtain ⟨v, u, n, d, b, t, rfl, hB, hT, hl, hl2, hc, q⟩ := h
  have nd := scHolds.nd
  have kG := F.kp
  refine ⟨_, pss_cons (ps_setLc (i := 3) (own := [("j", 2)]) (g := gName 2) (tt := tYes) rfl nd rfl rfl (sw_true rfl rfl rfl (by decide +kernel)) (pi_range1 rfl mr (pa_cons (pe_op op_add (pe_callB call_len_seq (by rfl) ml PySem.boot_len (pa_cons (pv 0) pa_nil)) pe_int) pa_nil)) (blkOk_by (N := nHolds) (sc := defScope sHolds) (by decide +kernel))
      (fun _ _ _ _ _ => pg_name (i := 2) nd rfl (Or.inl rfl)) (fun _ _ _ _ _ => pts_nil) (fun _ _ _ _ _ => pe_bl))
    (pss_cons (ps_for PassesOwn.never rfl (pi_range1 rfl mr (pa_cons (pe_callB call_len_seq (by rfl) ml PySem.boot_len (pa_cons (pv 1) pa_nil)) pa_nil)) (pg_name (i := 4) nd rfl (.inl rfl))
      (pss_cons (ps_setLc (i := 5) (own := [("j", 2)]) (g := gName 2) (tt := tYes) rfl nd rfl rfl (sw_true rfl rfl rfl (by decide +kernel)) (pi_range1 rfl mr (pa_cons (pe_op op_add (pe_callB call_len_seq (by rfl) ml PySem.boot_len (pa_cons (pv 0) pa_nil)) pe_int) pa_nil)) (blkOk_by (N := nHolds) (sc := defScope sHolds) (by decide +kernel))
        (fun _ _ _ _ _ => pg_name (i := 2) nd rfl (Or.inl rfl)) (fun _ _ _ _ _ => pts_nil) (fun _ _ _ _ _ => pe_bl))
      (pss_cons (ps_for PassesOwn.never rfl (pi_range1 rfl mr (pa_cons (pe_callB call_len_seq (by rfl) ml PySem.boot_len (pa_cons (pv 0) pa_nil)) pa_nil)) (pg_name (i := 2) nd rfl (.inl rfl))
        (pss_one (ps_asg (pe_or (pe_ix ix_list (pv 5) (pv 2) (fun _ _ => rfl)) (pe_one (pe_and (pe_ix ix_list (pv 3) (pv 2) (fun _ _ => rfl)) (pe_one (pe_call G hr (by rfl) mG kG bG .nil pass0 (pa_cons (pe_ix ix_tup (pv 0) (pv 2) (fun _ _ => rfl)) (pa_cons (pe_ix ix_tup (pv 1) (pv 4) (fun _ _ => rfl)) pa_nil)))))))
          (pg_sub (pv 5) (pe_op op_add (pv 2) pe_int) set_list))))
      (pss_one (ps_set (i := 3) nd rfl (.inl rfl) (pv 5))))))
    (pss_one (ps_ret (pe_ix ix_list (pv 3) (pe_callB call_len_seq (by rfl) ml PySem.boot_len (pa_cons (pv 0) pa_nil)) (fun _ _ => rfl))))), ?_⟩
  have hHb := hB.hb
  have hHs := hT.hb
  obtain ⟨l1, l2⟩ := lv_kids hHb
  obtain ⟨l3, l4⟩ := lv_kids hHs
  have hoE := hoB_em (b := b) hT
  have hd0 : d = 0 → t.kids = [] := fun e => by subst e; exact hT.hb
  obtain ⟨aB, bs, rfl, eB, pB⟩ := hB.par
  obtain ⟨aS, ss, rfl, eS, pS⟩ := hT.par
  have nB : bs.length = b.kids.length := pB.length
  have nS : ss.length = t.kids.length := pS.length
  rw [hoE] at q
  clear hoE hB hT hHb hHs
  generalize b.kids = bk at *
  generalize t.kids = sk at *
  have hm : bs.length ≤ 10000 := by omega
  have em : ((bs.length : Int) + 1).toNat = bs.length + 1 := by omega
  refine ⟨_, rfl, aB, _, rfl, .inr (.inl (.inl eB)), _, _, rfl, rfl, _, rfl, by omega, by omega, fun R hR => ?_⟩
  rw [em]
  refine lc_range (n := bs.length + 1) (fun i H' => Same H H' ∧ H' R = some (.lst ((List.range i).map fun _ => V.bl true))) ⟨same_new hR _, upd_same⟩ ?_ ?_
  · rintro i H1 hi ⟨sm, eR⟩
    refine ⟨rfl, ?_⟩
    show ∃ acc, H1 R = some (.lst acc) ∧ acc.length < sizeLine ∧ _
    refine ⟨_, eR, ?_, same_upd sm hR _, ?_⟩
    · rw [List.length_map, List.length_range]; exact lt_big (by omega)
    · rw [upd_same, List.range_succ, List.map_append]; rfl
  rintro H1 ⟨sm1, eR1⟩
  refine ⟨_, rfl, aS, _, rfl, .inr (.inl (.inl (sm1 _ _ eS))), _, rfl, by omega, by omega, ?_⟩
  have e0 : ((ss.length : Nat) : Int).toNat = ss.length := rfl
  rw [e0]
  refine for_range (n := ss.length) (fun i σ H' => Same H H' ∧ ∃ (R : Addr) (y2 y4 y5 : Option V), σ = [some (.ref aB), some (.ref aS), y2, some (.ref R), y4, y5] ∧ H' R = some (.lst ((List.range (bs.length + 1)).map fun j => V.bl (emB (d - 1) (bk.take j) (sk.take i)))))
    ⟨sm1, R, _, _, _, rfl, ?_⟩ ?_ ?_
  · rw [eR1]
    refine congrArg (fun l => some (HO.lst l)) (List.map_congr_left fun j _ => ?_)
    rw [List.take_zero, emB_nil]
  · rintro i σ H2 hi ⟨sm2, R2, y2, y4, y5, rfl, eR2⟩
    have gi : ss[i]? = some ss[i] := List.getElem?_eq_getElem hi
    obtain ⟨si, hsi, hTi⟩ := pr_get pS gi
    have hd1 : 1 ≤ d := by
      rcases Nat.eq_zero_or_pos d with e | e
      · rw [hd0 e] at nS
        exact absurd hi (by rw [nS]; exact Nat.not_lt_zero _)
      · exact e
    refine ⟨_, rfl, aB, _, rfl, .inr (.inl (.inl (sm2 _ _ eB))), _, _, rfl, rfl, _, rfl, by omega, by omega, fun D hD => ?_⟩
    rw [em]
    have hDn : H D = none := sm2.free hD
    have nRD : R2 ≠ D := ne_of_none eR2 hD
    refine lc_range (n := bs.length + 1) (fun i H' => Same H2 H' ∧ H' D = some (.lst ((List.range i).map fun _ => V.bl false))) ⟨same_new hD _, upd_same⟩ ?_ ?_
    · rintro k H3 hk ⟨sm, eD⟩
      refine ⟨rfl, ?_⟩
      show ∃ acc, H3 D = some (.lst acc) ∧ acc.length < sizeLine ∧ _
      refine ⟨_, eD, ?_, same_upd sm hD _, ?_⟩
      · rw [List.length_map, List.length_range]; exact lt_big (by omega)
      · rw [upd_same, List.range_succ, List.map_append]; rfl
    rintro H3 ⟨sm3, eD3⟩
    refine ⟨_, rfl, aB, _, rfl, .inr (.inl (.inl (sm3 _ _ (sm2 _ _ eB)))), _, rfl, by omega, by omega, ?_⟩
    have e1 : ((bs.length : Nat) : Int).toNat = bs.length := rfl
    rw [e1]
    refine for_range (n := bs.length) (fun j σ H' => Same H H' ∧ ∃ (y2 : Option V), σ = [some (.ref aB), some (.ref aS), y2, some (.ref R2), some (.int (0 + (i : Int))), some (.ref D)] ∧ H' R2 = some (.lst ((List.range (bs.length + 1)).map fun j => V.bl (emB (d - 1) (bk.take j) (sk.take i)))) ∧
      H' D = some (.lst ((List.range (bs.length + 1)).map fun j' => V.bl (decide (j' ≤ j) && emB (d - 1) (bk.take j') (sk.take (i + 1))))))
      ⟨sm2.trans sm3, _, rfl, sm3 _ _ eR2, ?_⟩ ?_ ?_
    · rw [eD3]
      refine congrArg (fun l => some (HO.lst l)) (List.map_congr_left fun j _ => ?_)
      cases j with
      | zero => rw [List.take_zero, tk1 hsi, emB_no, Bool.and_false]
      | succ j => rw [decide_eq_false (by omega), Bool.false_and]
    · rintro j σ H4 hj ⟨sm4, y2', rfl, eR4, eD4⟩
      have gj : bs[j]? = some bs[j] := List.getElem?_eq_getElem hj
      obtain ⟨bj, hbj, hTj⟩ := pr_get pB gj
      have step : emB (d - 1) (bk.take (j + 1)) (sk.take (i + 1)) = (emB (d - 1) (bk.take j) (sk.take (i + 1)) || (emB (d - 1) (bk.take j) (sk.take i) && hoB (d - 1) bj si)) := by
        rw [tk1 hbj, tk1 hsi]
        exact emB_end
      have val : ∀ Q' : V → Hp → Prop, (∀ H5, Same H4 H5 → Q' (.bl (emB (d - 1) (bk.take (j + 1)) (sk.take (i + 1)))) H5) →
          tOrV (tOp (rIxL K) (tVar 5) (tVar 2)) (tAndV (tOp (rIxL K) (tVar 3) (tVar 2)) (tCall (spHolds c) [] E0 (tCons (tOp (rIxT K) (tVar 0) (tVar 2)) (tCons (tOp (rIxT K) (tVar 1) (tVar 4)) tNil))))
            [some (.ref aB), some (.ref aS), some (.int (0 + (j : Int))), some (.ref R2), some (.int (0 + (i : Int))), some (.ref D)] H4 Q' := by
        intro Q' k
        rw [step] at k
        refine ⟨_, rfl, _, rfl, D, _, _, _, rfl, rfl, SqL.of eD4, at_range (by omega), _, rfl, ?_⟩
        rw [decide_eq_true (Nat.le_refl j), Bool.true_and]
        cases hE1 : emB (d - 1) (bk.take j) (sk.take (i + 1)) with
        | true =>
          rw [hE1] at k
          exact iteT (k H4 (.refl _))
        | false =>
          rw [hE1, Bool.false_or] at k
          refine iteF ⟨_, rfl, _, rfl, R2, _, _, _, rfl, rfl, SqL.of eR4, at_range (by omega), _, rfl, ?_⟩
          cases hE2 : emB (d - 1) (bk.take j) (sk.take i) with
          | false =>
            rw [hE2] at k
            exact iteF (k H4 (.refl _))
          | true =>
            rw [hE2, Bool.true_and] at k
            refine iteT ⟨_, rfl, _, rfl, aB, _, _, _, rfl, rfl, .inl (.inl (sm4 _ _ eB)), (by rw [Int.zero_add]; exact atI_nat gj), _, rfl, _, rfl, aS, _, _, _, rfl, rfl, .inl (.inl (sm4 _ _ eS)), (by rw [Int.zero_add]; exact atI_nat gi), ?_⟩
            exact ⟨_, _, n - 1, d - 1, bj, si, rfl, hTj.same sm4, hTi.same sm4, Nat.le_trans (l2 bj (List.mem_of_getElem? hbj)) hl, Nat.le_trans (l4 si (List.mem_of_getElem? hsi)) hl2, by omega, k⟩
      refine val _ fun H5 s5 => ?_
      have ix : ixN ((List.range (bs.length + 1)).map fun j' => V.bl (decide (j' ≤ j) && emB (d - 1) (bk.take j') (sk.take (i + 1)))).length (0 + (j : Int) + 1) = some (j + 1) := by
        have e : ((0 : Int) + (j : Int) + 1).toNat = j + 1 := by omega
        rw [ixN_nat (by omega) (by rw [List.length_map, List.length_range]; omega), e]
      refine ⟨_, rfl, _, rfl, _, _, rfl, rfl, D, _, _, j + 1, rfl, rfl, s5 _ _ eD4, ix, same_upd (sm4.trans s5) hDn _, _, rfl, ?_, ?_⟩
      · rw [upd_ne nRD]
        exact s5 _ _ eR4
      · rw [upd_same]
        refine congrArg (fun l => some (HO.lst l)) (set_range ?_ fun j' hj' => ?_)
        · rw [decide_eq_true (Nat.le_refl _), Bool.true_and]
        · have e : decide (j' ≤ j) = decide (j' ≤ j + 1) := by
            by_cases y : j' ≤ j
            · rw [decide_eq_true y, decide_eq_true (by omega)]
            · rw [decide_eq_false y, decide_eq_false (by omega)]
          rw [e]
    · rintro σ H4 ⟨sm4, y2', rfl, eR4, eD4⟩
      refine ⟨_, rfl, sm4, D, _, _, _, rfl, ?_⟩
      rw [eD4]
      refine congrArg (fun l => some (HO.lst l)) (List.map_congr_left fun j hj => ?_)
      rw [decide_eq_true (by have := List.mem_range.mp hj; omega), Bool.true_and]
  · rintro σ H2 ⟨sm2, R2, y2, y4, y5, rfl, eR2⟩
    have k := q H2 sm2
    refine ⟨_, rfl, _, rfl, aB, _, rfl, .inr (.inl (.inl (sm2 _ _ eB))), R2, _, _, _, rfl, rfl, SqL.of eR2, (by have := at_range (n := bs.length + 1) (k := bs.length) (f := fun j => V.bl (emB (d - 1) (bk.take j) (sk.take ss.length))) (by omega); rw [Int.zero_add] at this; exact this), ?_⟩
    rw [nB, nS, List.take_length, List.take_length]
    exact k
theorem holds_all {f : Addr} {fd : FuncData} (F : Fun K "_law_holds" "_law_holds" sHolds f fd) (bG : Binds K fd ["big", "small"] []) (mG : mg "_law_holds" = some (.ref f)) (ml : mg "len" = none) (mr : mg "range" = none) :
    ∀ c, FnOk P w K mg base CX0 c f fd ["big", "small"] (spHolds c)
  | 0 => neverOk fun vs H Q E h => by
    obtain ⟨v, u, n, d, b, t, _, _, _, _, _, h2, _⟩ := h
    omega
  | c + 1 => ok_holds F (holds_all F bG mG ml mr c) bG mG ml mr
end
end K03
set_option Elab.async false
set_option linter.all false
set_option maxRecDepth 100000
set_option maxHeartbeats 4000000
set_option pp.maxSteps 400
set_option pp.deepTerms false
namespace K03
open PySem PySem.Spec PyProof.Rows L2 K11 K21
/-! ### _law_shaped -/
/-- at a the items, as a list where the mode is odd, else as a tuple -/
def At (m : Int) (H : Hp) (a : Addr) (vs : List V) : Prop := H a = some (if m % 2 = 1 then .lst vs else .tup vs)
/-- the tree t, shaped as the mode says; all its nodes are addresses of F -/
def TM (F : Addr → Prop) : Nat → Int → Hp → V → Tr → Prop
  | 0, m, H, v, t => ∃ a, v = .ref a ∧ F a ∧ At m H a [] ∧ t.kids = []
  | n + 1, m, H, v, t => ∃ a vs, v = .ref a ∧ F a ∧ At m H a vs ∧ Paired (TM F n (m / 2) H) vs t.kids
theorem TM.step {F F' : Addr → Prop} {H H' : Hp} (k : ∀ a o, F a → H a = some o → F' a ∧ H' a = some o) : ∀ {n : Nat} {m : Int} {v : V} {t : Tr}, TM F n m H v t → TM F' n m H' v t
  | 0, _, _, _, h => by
    obtain ⟨a, e1, e2, e3, e4⟩ := h
    obtain ⟨k1, k2⟩ := k a _ e2 e3
    exact ⟨a, e1, k1, k2, e4⟩
  | n + 1, _, _, _, h => by
    obtain ⟨a, vs, e1, e2, e3, e4⟩ := h
    obtain ⟨k1, k2⟩ := k a _ e2 e3
    exact ⟨a, vs, e1, k1, k2, L2.Paired.mapP e4 fun _ _ x => TM.step k x⟩
theorem At.seq {m : Int} {H : Hp} {a : Addr} {vs : List V} (h : At m H a vs) : SeqAt H a vs := by
  unfold At at h
  by_cases c : m % 2 = 1
  · rw [if_pos c] at h; exact .inr h
  · rw [if_neg c] at h; exact .inl h
theorem TM.ts {F : Addr → Prop} {H : Hp} : ∀ {n : Nat} {m : Int} {v : V} {t : Tr}, TM F n m H v t → TS n H v t
  | 0, _, _, t, h => by
    obtain ⟨a, e1, _, e3, e4⟩ := h
    refine ⟨a, e1, e3.seq, ?_⟩
    cases t with
    | node cs =>
      have e : cs = [] := e4
      rw [e]
  | n + 1, _, _, _, h => by
    obtain ⟨a, vs, e1, _, e3, e4⟩ := h
    exact ⟨a, vs, e1, e3.seq, L2.Paired.mapP e4 fun _ _ x => TM.ts x⟩
/-- what the shaped tree is, compared -/
def SD : Nat → Int → Tr → PyData
  | 0, m, _ => if m % 2 = 1 then .list [] else .tuple []
  | n + 1, m, t => if m % 2 = 1 then .list (t.kids.map (SD n (m / 2))) else .tuple (t.kids.map (SD n (m / 2)))
theorem dpAll_of {K : PySem.W.Frag} {H : Hp} {f : Tr → PyData} : ∀ {vs : List V} {ts : List Tr}, Paired (fun v t => Dp K H v (f t)) vs ts → DpAll K H vs (ts.map f)
  | _, _, .nil => .nil
  | _, _, .cons h k => .cons h (dpAll_of k)
theorem At.dp {K : PySem.W.Frag} {m : Int} {H : Hp} {a : Addr} {vs : List V} {ds : List PyData} (h : At m H a vs) (k : DpAll K H vs ds) : Dp K H (.ref a) (if m % 2 = 1 then .list ds else .tuple ds) := by
  unfold At at h
  by_cases c : m % 2 = 1
  · rw [if_pos c] at h ⊢; exact .lst (SqL.of h) k
  · rw [if_neg c] at h ⊢; exact .tup (sqt_of h) k
theorem TM.dp {K : PySem.W.Frag} {F : Addr → Prop} {H : Hp} : ∀ {n : Nat} {m : Int} {v : V} {t : Tr}, TM F n m H v t → Dp K H v (SD n m t)
  | 0, _, _, _, h => by
    obtain ⟨a, rfl, _, e3, _⟩ := h
    exact e3.dp .nil
  | n + 1, _, _, _, h => by
    obtain ⟨a, vs, rfl, _, e3, e4⟩ := h
    exact e3.dp (dpAll_of (L2.Paired.mapP e4 fun _ _ x => TM.dp x))
section
variable {P : Program} {w : World} {K : PySem.W.Frag} {mg : Str → Option Value} {base : Heap}
abbrev nShaped : List Str := ["tree", "mode", "parts", "child"]
theorem scShaped : FnScope nShaped ["tree", "mode"] (defScope sShaped) := ⟨rfl, rfl, rfl, by decide +kernel, rfl, by decide +kernel, by decide +kernel⟩
def spShaped (c : Nat) : Sp := fun vs H Q _ => ∃ (v : V) (n : Nat) (m : Int) (t : Tr), vs = [v, .int m] ∧ TA n H v t ∧ 0 ≤ m ∧ lv n t ≤ 10000 ∧ n + 1 ≤ c ∧ ∀ u H', Same H H' → TM (fun a => H a = none) n m H' u t → Q u H'
theorem ok_shaped {c : Nat} {f : Addr} {fd : FuncData} (F : Fun K "_law_shaped" "_law_shaped" sShaped f fd) (G : FnOk P w K mg base CX0 c f fd ["tree", "mode"] (spShaped c)) (bG : Binds K fd ["tree", "mode"] []) (mG : mg "_law_shaped" = some (.ref f))
    (mt : mg "tuple" = none) (mi : mg "int" = none) : FnOk P w K mg base CX0 (c + 1) f fd ["tree", "mode"] (spShaped (c + 1)) := by
  refine F.ok scShaped (fun vs H Q E h => ?_) (fun cdv A outer s H vs Q E hr h => ?_)
  · obtain ⟨v, n, m, t, rfl, _⟩ := h
    rfl
  obtain ⟨v, n, m, t, rfl, hT, hm, hl, hc, q⟩ := h
  have nd := scShaped.nd
  have kG := F.kp
  refine ⟨_, pss_cons (ps_setLc (i := 2) (own := [("child", 3)]) (g := gName 3) (tt := tYes) rfl nd rfl rfl (sw_true rfl rfl rfl (by decide +kernel)) (pi_tup (pv 0)) (blkOk_by (N := nShaped) (sc := defScope sShaped) (by decide +kernel))
      (fun _ _ _ _ _ => pg_name (i := 3) nd rfl (Or.inl rfl)) (fun _ _ _ _ _ => pts_nil)
      (fun _ _ _ _ _ => pe_call G hr (by rfl) mG kG bG .nil pass0 (pa_cons (pv 3) (pa_cons (pe_op op_fdiv (pv 1) pe_int) pa_nil))))
    (pss_cons (ps_if (pt_cmpR op_eq (pe_op op_mod (pe_callTy call_int1 (by rfl) mi PyProof.Rows.boot_int (pa_cons (pv 1) pa_nil)) pe_int) pe_int (nomark _)) (pss_one (ps_ret (pv 2))) pss_nil)
    (pss_one (ps_ret (pe_tupleOf (by rfl) mt (pv 2))))), ?_⟩
  have hHb := hT.hb
  obtain ⟨l1, l2⟩ := lv_kids hHb
  have hn0 : n = 0 → t.kids = [] := fun e => by subst e; exact hHb
  obtain ⟨a, vs, rfl, ea, pk⟩ := hT.par
  have lk : vs.length = t.kids.length := pk.length
  refine ⟨_, rfl, a, rfl, ⟨_, sqt_of ea⟩, fun D hD => ?_⟩
  refine lc_tup (xs := vs) (fun i H' => Same H H' ∧ ∃ ws : List V, H' D = some (.lst ws) ∧ Paired (TM (fun a => H a = none ∧ a ≠ D) (n - 1) (m / 2) H') ws (t.kids.take i)) ⟨same_new hD _, [], upd_same, .nil⟩ (fun i H' _ z => sqt_of (z.1 _ _ ea)) ?_ ?_
  · rintro i x H1 hx ⟨sm, ws, eD, pw⟩
    obtain ⟨tk, htk, hTk⟩ := pr_get pk hx
    have hi : i < t.kids.length := (List.getElem?_eq_some_iff.mp htk).1
    have hmem := List.mem_of_getElem? htk
    have hn1 : 1 ≤ n := by
      rcases Nat.eq_zero_or_pos n with e | e
      · rw [hn0 e] at hi; exact absurd hi (Nat.not_lt_zero _)
      · exact e
    have lw : ws.length = i := by rw [pw.length, List.length_take, Nat.min_eq_left (Nat.le_of_lt hi)]
    refine ⟨rfl, ?_⟩
    show tCall (spShaped c) [] E0 (tCons (tVar 3) (tCons (tOp (rI CDiv fun i j => .int (i / j)) (tVar 1) (tC (.int 2))) tNil)) [some (.ref a), some (.int m), Option.none, some x] H1 _
    refine ⟨_, rfl, _, rfl, _, _, rfl, rfl, (by show (0 : Int) < 2 ∧ (2 : Int) < 1073741824; decide), x, n - 1, m / 2, tk, rfl, hTk.same sm, by omega, Nat.le_trans (l2 tk hmem) hl, by omega, fun u H2 s2 hu => ?_⟩
    have eD2 := s2 _ _ eD
    refine ⟨ws, eD2, ?_, same_upd (sm.trans s2) hD _, ws ++ [u], upd_same, ?_⟩
    · rw [lw]; exact lt_big (by omega)
    · rw [tk1 htk]
      refine (L2.Paired.mapP pw fun _ _ x => x.step fun b o hb e => ⟨hb, by rw [upd_ne hb.2]; exact s2 _ _ e⟩).snoc (hu.step fun b o hb e => ?_)
      have hbD : b ≠ D := fun z => by rw [z, eD] at hb; cases hb
      refine ⟨⟨?_, hbD⟩, by rw [upd_ne hbD]; exact e⟩
      cases hh : H b with
      | none => rfl
      | some o2 => rw [sm _ _ hh] at hb; cases hb
  · rintro H1 ⟨sm, ws, eD, pw⟩
    rw [lk, List.take_length] at pw
    refine ⟨_, rfl, .inl ⟨_, rfl, _, _, rfl, rfl, (by show (0 : Int) < 2; decide), rfl, _, rfl, ite2 (fun z => ?_) (fun z => ?_)⟩⟩
    · have z' : m % 2 = 1 := V.int.inj (of_decide_eq_true z)
      refine ⟨_, rfl, q _ H1 sm ?_⟩
      have hat : At m H1 D ws := by unfold At; rw [if_pos z']; exact eD
      have pw2 : Paired (TM (fun a => H a = none) (n - 1) (m / 2) H1) ws t.kids := L2.Paired.mapP pw fun _ _ x => x.step fun b o hb e => ⟨hb.1, e⟩
      cases n with
      | zero =>
        have hk := hn0 rfl
        rw [hk] at pw2
        cases pw2
        exact ⟨D, rfl, hD, hat, hk⟩
      | succ n => exact ⟨D, ws, rfl, hD, hat, pw2⟩
    · have z' : ¬ m % 2 = 1 := fun y => z (decide_eq_true (congrArg V.int y))
      refine ⟨_, rfl, .inl ⟨D, _, rfl, SqL.of eD, fun u hu => ?_⟩⟩
      have su := same_new hu (.tup ws)
      refine q _ _ (sm.trans su) ?_
      have hat : At m (upd H1 u (.tup ws)) u ws := by unfold At; rw [if_neg z']; exact upd_same
      have pw2 : Paired (TM (fun a => H a = none) (n - 1) (m / 2) (upd H1 u (.tup ws))) ws t.kids := L2.Paired.mapP pw fun _ _ x => x.step fun b o hb e => ⟨hb.1, su _ _ e⟩
      cases n with
      | zero =>
        have hk := hn0 rfl
        rw [hk] at pw2
        cases pw2
        exact ⟨u, rfl, sm.free hu, hat, hk⟩
      | succ n => exact ⟨u, ws, rfl, sm.free hu, hat, pw2⟩
theorem shaped_all {f : Addr} {fd : FuncData} (F : Fun K "_law_shaped" "_law_shaped" sShaped f fd) (bG : Binds K fd ["tree", "mode"] []) (mG : mg "_law_shaped" = some (.ref f)) (mt : mg "tuple" = none) (mi : mg "int" = none) :
    ∀ c, FnOk P w K mg base CX0 c f fd ["tree", "mode"] (spShaped c)
  | 0 => neverOk fun vs H Q E h => by
    obtain ⟨v, n, m, t, _, _, _, _, h2, _⟩ := h
    omega
  | c + 1 => ok_shaped F (shaped_all F bG mG mt mi c) bG mG mt mi
end
end K03
set_option Elab.async false
set_option linter.all false
set_option maxRecDepth 100000
set_option maxHeartbeats 4000000
set_option pp.maxSteps 400
set_option pp.deepTerms false
namespace K03
open PySem PySem.Spec PyProof.Rows L2 K11 K21
/-! ### piles of open nodes -/
theorem TA.up {H : Hp} : ∀ {n m : Nat} {v : V} {t : Tr}, n ≤ m → TA n H v t → TA m H v t
  | 0, 0, _, _, _, h => h
  | 0, m + 1, _, _, _, h => by
    obtain ⟨a, e1, e2, e3⟩ := h
    exact ⟨a, [], e1, e2, by rw [e3]; exact .nil⟩
  | n + 1, 0, _, _, hm, _ => absurd hm (by omega)
  | n + 1, m + 1, _, _, hm, h => by
    obtain ⟨a, vs, e1, e2, e3⟩ := h
    exact ⟨a, vs, e1, e2, L2.Paired.mapP e3 fun _ _ x => TA.up (by omega) x⟩
theorem lv_up : ∀ {n m : Nat} {t : Tr}, n ≤ m → Hb n t → lv m t = lv n t
  | 0, 0, _, _, _ => rfl
  | 0, m + 1, t, _, h => by
    have e : t.kids = [] := h
    unfold lv
    rw [if_pos e]
  | n + 1, 0, _, hm, _ => absurd hm (by omega)
  | n + 1, m + 1, t, hm, h => by
    unfold lv
    by_cases e : t.kids = []
    · rw [if_pos e, if_pos e]
    · rw [if_neg e, if_neg e]
      refine congrArg List.sum (List.map_congr_left fun c hc => ?_)
      exact lv_up (by omega) (h c hc)
/-- a tree of an open node: the value, the tree, a bound of its height -/
abbrev En := V × Tr × Nat
def sumL (l : List En) : Nat := (l.map fun e => lv e.2.2 e.2.1).sum
structure Pile (H0 H : Hp) (P : Addr) (hi M : Nat) (qs : List Addr) (es : List (List En)) : Prop where
  sm : Same H0 H
  hP : H0 P = none
  at_ : H P = some (.lst (qs.map V.ref))
  ent : Paired (fun q l => H q = some (.lst (l.map Prod.fst)) ∧ q ≠ P ∧ H0 q = none) qs es
  nd : qs.Nodup
  tr : ∀ i l, es[i]? = some l → ∀ e ∈ l, e.2.2 + i + 1 ≤ hi ∧ TA e.2.2 H e.1 e.2.1
  cnt : (es.map sumL).sum + es.length ≤ M
  len : qs.length ≤ hi + 1
theorem Pile.keep {H0 H H' : Hp} {P : Addr} {hi M : Nat} {qs : List Addr} {es : List (List En)} (p : Pile H0 H P hi M qs es) (s : Same H H') : Pile H0 H' P hi M qs es :=
  ⟨p.sm.trans s, p.hP, s _ _ p.at_, L2.Paired.mapP p.ent fun _ _ e => ⟨s _ _ e.1, e.2⟩, p.nd, fun i l hl e he => ⟨(p.tr i l hl e he).1, (p.tr i l hl e he).2.same s⟩, p.cnt, p.len⟩
theorem mem_pr {α β : Type} {F : α → β → Prop} {as : List α} {bs : List β} (h : Paired F as bs) : ∀ a ∈ as, ∃ b, b ∈ bs ∧ F a b := by
  induction h with
  | nil => exact fun a ha => nomatch ha
  | cons r _ ih =>
    intro a ha
    rcases List.mem_cons.mp ha with rfl | ha
    · exact ⟨_, List.mem_cons_self .., r⟩
    · obtain ⟨b, h1, h2⟩ := ih a ha
      exact ⟨b, List.mem_cons_of_mem _ h1, h2⟩
theorem get_app {α : Type} {l : List α} {a x : α} {i : Nat} (h : (l ++ [a])[i]? = some x) : l[i]? = some x ∨ (i = l.length ∧ x = a) := by
  by_cases c : i < l.length
  · rw [List.getElem?_append_left c] at h
    exact .inl h
  · have hi : i < (l ++ [a]).length := (List.getElem?_eq_some_iff.mp h).1
    rw [List.length_append, List.length_singleton] at hi
    have e : i = l.length := by omega
    subst e
    rw [List.getElem?_append_right (Nat.le_refl _), Nat.sub_self] at h
    exact .inr ⟨rfl, (Option.some.inj h).symm⟩
/-- a node is opened -/
theorem Pile.push {H0 H : Hp} {P q : Addr} {hi M : Nat} {qs : List Addr} {es : List (List En)} (p : Pile H0 H P hi M qs es) (hq : H q = none) (hh : qs.length ≤ hi) : Pile H0 (upd (upd H q (.lst [])) P (.lst (qs.map V.ref ++ [.ref q]))) P hi (M + 1) (qs ++ [q]) (es ++ [[]]) := by
  have s1 := same_new hq (.lst [])
  have nqP : q ≠ P := Ne.symm (ne_of_none p.at_ hq)
  have old : ∀ b o, H b = some o → b ≠ P → upd (upd H q (.lst [])) P (.lst (qs.map V.ref ++ [.ref q])) b = some o := fun b o h n => by rw [upd_ne n]; exact s1 _ _ h
  refine ⟨same_upd (p.sm.trans s1) p.hP _, p.hP, by rw [upd_same, List.map_append]; rfl, ?_, ?_, ?_, ?_, by rw [List.length_append, List.length_singleton]; omega⟩
  · refine (L2.Paired.mapP p.ent fun b l e => ⟨old b _ e.1 e.2.1, e.2⟩).snoc ⟨?_, nqP, p.sm.free hq⟩
    rw [upd_ne nqP, upd_same]
    rfl
  · rw [List.nodup_append]
    refine ⟨p.nd, by simp, fun b hb c hc => ?_⟩
    have e : c = q := by simpa using hc
    obtain ⟨l, _, f1, _⟩ := mem_pr p.ent b hb
    rw [e]
    exact ne_of_none f1 hq
  · intro i l hl e he
    rcases get_app hl with h | ⟨_, rfl⟩
    · obtain ⟨a1, a2⟩ := p.tr i l h e he
      exact ⟨a1, ((a2.same s1).lst (s1 _ _ p.at_) _)⟩
    · exact nomatch he
  · have c := p.cnt
    rw [List.map_append, List.sum_append, List.length_append]
    show (es.map sumL).sum + (0 + 0) + (es.length + 1) ≤ M + 1
    omega
theorem pr_snoc_inv {α β : Type} {F : α → β → Prop} : ∀ {as : List α} {a : α} {bs : List β}, Paired F (as ++ [a]) bs → ∃ bs' b, bs = bs' ++ [b] ∧ Paired F as bs' ∧ F a b
  | [], a, _, .cons r .nil => ⟨[], _, rfl, .nil, r⟩
  | x :: as, a, _, .cons r t => by
    obtain ⟨bs', b, e, h1, h2⟩ := pr_snoc_inv (as := as) t
    exact ⟨_ :: bs', b, by rw [e]; rfl, .cons r h1, h2⟩
theorem kids_of {H : Hp} {N : Nat} : ∀ {l : List En}, (∀ e ∈ l, e.2.2 ≤ N ∧ TA e.2.2 H e.1 e.2.1) → Paired (TA N H) (l.map Prod.fst) (l.map fun e => e.2.1)
  | [], _ => .nil
  | e :: l, h => .cons (TA.up (h e (List.mem_cons_self ..)).1 (h e (List.mem_cons_self ..)).2) (kids_of fun x hx => h x (List.mem_cons_of_mem _ hx))
theorem sum_kids {H : Hp} {N : Nat} : ∀ {l : List En}, (∀ e ∈ l, e.2.2 ≤ N ∧ TA e.2.2 H e.1 e.2.1) → ((l.map fun e => e.2.1).map (lv N)).sum = sumL l
  | [], _ => rfl
  | e :: l, h => by
    show lv N e.2.1 + ((l.map fun e => e.2.1).map (lv N)).sum = lv e.2.2 e.2.1 + sumL l
    rw [sum_kids fun x hx => h x (List.mem_cons_of_mem _ hx), lv_up (h e (List.mem_cons_self ..)).1 (h e (List.mem_cons_self ..)).2.hb]
/-- the node of a list of trees -/
theorem node_of {H : Hp} {u : Addr} {hi i : Nat} {l : List En} (hl : ∀ e ∈ l, e.2.2 + (i + 1) + 1 ≤ hi ∧ TA e.2.2 H e.1 e.2.1) (hi1 : i + 1 ≤ hi) (hu : H u = some (.tup (l.map Prod.fst))) : ∃ e : En, e.1 = .ref u ∧ e.2.2 + i + 1 ≤ hi ∧ TA e.2.2 H e.1 e.2.1 ∧ lv e.2.2 e.2.1 ≤ 1 + sumL l ∧ lv e.2.2 e.2.1 ≤ max 1 (sumL l) := by
  cases l with
  | nil => exact ⟨(.ref u, .node [], 0), rfl, by show 0 + i + 1 ≤ hi; omega, ⟨u, rfl, hu, rfl⟩, Nat.le_add_right _ _, Nat.le_max_left _ _⟩
  | cons x l =>
    have hx := hl x (List.mem_cons_self ..)
    have hall : ∀ e ∈ x :: l, e.2.2 ≤ hi - (i + 2) ∧ TA e.2.2 H e.1 e.2.1 := fun e he => ⟨by have := (hl e he).1; omega, (hl e he).2⟩
    have hlv : lv (hi - (i + 2) + 1) (.node ((x :: l).map fun e => e.2.1)) = sumL (x :: l) := by
      rw [← sum_kids hall]
      have hne : (Tr.node ((x :: l).map fun e => e.2.1)).kids ≠ [] := fun z => nomatch (show x.2.1 :: l.map (fun e => e.2.1) = [] from z)
      unfold lv
      rw [if_neg hne]
      rfl
    refine ⟨(.ref u, .node ((x :: l).map fun e => e.2.1), hi - (i + 2) + 1), rfl, ?_, ⟨u, _, rfl, hu, kids_of hall⟩, ?_, ?_⟩
    · show hi - (i + 2) + 1 + i + 1 ≤ hi
      have := hx.1
      omega
    · show lv (hi - (i + 2) + 1) _ ≤ _
      rw [hlv]; omega
    · show lv (hi - (i + 2) + 1) _ ≤ _
      rw [hlv]; exact Nat.le_max_right _ _
theorem mapP_mem {α β : Type} {F G : α → β → Prop} : ∀ {as : List α} {bs : List β}, Paired F as bs → (∀ a b, a ∈ as → F a b → G a b) → Paired G as bs
  | _, _, .nil, _ => .nil
  | _, _, .cons r t, k => .cons (k _ _ (List.mem_cons_self ..) r) (mapP_mem t fun a b ha => k a b (List.mem_cons_of_mem _ ha))
/-- the last open node is closed -/
theorem Pile.close {H0 H : Hp} {P p1 p2 : Addr} {hi M : Nat} {qs : List Addr} {es : List (List En)} (p : Pile H0 H P hi M (qs ++ [p1] ++ [p2]) es) :
    ∃ (es' : List (List En)) (l1 l2 : List En), H p1 = some (.lst (l1.map Prod.fst)) ∧ H p2 = some (.lst (l2.map Prod.fst)) ∧ p1 ≠ P ∧ p2 ≠ P ∧ l1.length ≤ M ∧ l2.length ≤ M ∧
      ∀ u, upd H P (.lst ((qs ++ [p1]).map V.ref)) u = none → ∃ es'', Pile H0 (upd (upd (upd H P (.lst ((qs ++ [p1]).map V.ref))) u (.tup (l2.map Prod.fst))) p1 (.lst (l1.map Prod.fst ++ [.ref u]))) P hi M (qs ++ [p1]) es'' := by
  obtain ⟨e1, l2, rfl, w1, f2⟩ := pr_snoc_inv p.ent
  obtain ⟨es', l1, rfl, w0, f1⟩ := pr_snoc_inv w1
  have kq : es'.length = qs.length := w0.length.symm
  have hlen := p.len
  rw [List.length_append, List.length_append, List.length_singleton, List.length_singleton] at hlen
  have cnt := p.cnt
  rw [List.map_append, List.sum_append, List.map_append, List.sum_append, List.length_append, List.length_append, List.length_singleton, List.length_singleton] at cnt
  have c1 : ([l1].map sumL).sum = sumL l1 := by simp
  have c2 : ([l2].map sumL).sum = sumL l2 := by simp
  rw [c1, c2] at cnt
  have le_sum : ∀ l : List En, l.length ≤ sumL l := by
    intro l
    induction l with
    | nil => exact Nat.le_refl _
    | cons x l ih =>
      have := lv_pos x.2.2 x.2.1
      show l.length + 1 ≤ lv x.2.2 x.2.1 + sumL l
      omega
  refine ⟨es', l1, l2, f1.1, f2.1, f1.2.1, f2.2.1, Nat.le_trans (le_sum l1) (by omega), Nat.le_trans (le_sum l2) (by omega), fun u hu => ?_⟩
  generalize hH1 : upd H P (.lst ((qs ++ [p1]).map V.ref)) = H1 at hu
  have g1 : H1 p1 = some (.lst (l1.map Prod.fst)) := by rw [← hH1, upd_ne f1.2.1]; exact f1.1
  have gP : H1 P = some (.lst ((qs ++ [p1]).map V.ref)) := by rw [← hH1]; exact upd_same
  have s2 := same_new hu (.tup (l2.map Prod.fst))
  have g1' := s2 _ _ g1
  have tr1 : ∀ {n : Nat} {v : V} {t : Tr}, TA n H v t → TA n (upd H1 u (.tup (l2.map Prod.fst))) v t := fun h => by
    have := h.lst p.at_ (.lst ((qs ++ [p1]).map V.ref))
    rw [hH1] at this
    exact this.same s2
  have tr2 : ∀ {n : Nat} {v : V} {t : Tr}, TA n (upd H1 u (.tup (l2.map Prod.fst))) v t → TA n (upd (upd H1 u (.tup (l2.map Prod.fst))) p1 (.lst (l1.map Prod.fst ++ [.ref u]))) v t := fun h => h.lst g1' _
  have ndp := p.nd
  rw [List.nodup_append] at ndp
  have nd2 := ndp.1
  rw [List.nodup_append] at nd2
  have i2 : (es' ++ [l1] ++ [l2])[qs.length + 1]? = some l2 := by
    rw [List.getElem?_append_right (by rw [List.length_append, List.length_singleton, kq]; exact Nat.le_refl _), List.length_append, List.length_singleton, kq, Nat.sub_self]
    rfl
  have i1 : (es' ++ [l1] ++ [l2])[qs.length]? = some l1 := by
    rw [List.getElem?_append_left (by rw [List.length_append, List.length_singleton, kq]; omega), List.getElem?_append_right (by rw [kq]; exact Nat.le_refl _), kq, Nat.sub_self]
    rfl
  obtain ⟨e, ee, eh, eT, _, ec⟩ := node_of (H := upd H1 u (.tup (l2.map Prod.fst))) (u := u) (hi := hi) (i := qs.length) (l := l2) (fun e he => ⟨(p.tr _ _ i2 e he).1, tr1 (p.tr _ _ i2 e he).2⟩) (by omega) upd_same
  have smH : Same H0 H1 := by rw [← hH1]; exact same_upd p.sm p.hP _
  refine ⟨es' ++ [l1 ++ [e]], same_upd (smH.trans s2) f1.2.2 _, p.hP, ?_, ?_, ndp.1, ?_, ?_, by rw [List.length_append, List.length_singleton]; omega⟩
  · rw [upd_ne (Ne.symm f1.2.1)]
    exact s2 _ _ gP
  · refine (mapP_mem w0 fun q l hq f => ⟨?_, f.2⟩).snoc ⟨?_, f1.2⟩
    · rw [upd_same, List.map_append]
      show _ = some (HO.lst (l1.map Prod.fst ++ [e.1]))
      rw [ee]
    · have nq : q ≠ p1 := nd2.2.2 q hq p1 (List.mem_cons_self ..)
      rw [upd_ne nq]
      refine s2 _ _ ?_
      rw [← hH1, upd_ne f.2.1]
      exact f.1
  · intro i l hl x hx
    rcases get_app hl with h | ⟨hi', rfl⟩
    · have hi2 : (es' ++ [l1] ++ [l2])[i]? = some l := by
        have := (List.getElem?_eq_some_iff.mp h).1
        rw [List.getElem?_append_left (by rw [List.length_append, List.length_singleton]; omega), List.getElem?_append_left this]
        exact h
      exact ⟨(p.tr i l hi2 x hx).1, tr2 (tr1 (p.tr i l hi2 x hx).2)⟩
    · rw [hi', kq]
      rcases List.mem_append.mp hx with hx | hx
      · exact ⟨(p.tr _ _ i1 x hx).1, tr2 (tr1 (p.tr _ _ i1 x hx).2)⟩
      · have e9 : x = e := by simpa using hx
        rw [e9]
        exact ⟨eh, tr2 eT⟩
  · rw [List.map_append, List.sum_append, List.length_append]
    have c3 : ([l1 ++ [e]].map sumL).sum = sumL l1 + lv e.2.2 e.2.1 := by simp [sumL]
    rw [c3, List.length_singleton]
    have : max 1 (sumL l2) ≤ 1 + sumL l2 := by omega
    omega
/-- the tree of the first open node -/
theorem Pile.done {H0 H : Hp} {P : Addr} {hi M : Nat} {q : Addr} {qs : List Addr} {es : List (List En)} (p : Pile H0 H P hi M (q :: qs) es) (h1 : 1 ≤ hi) : ∃ l : List En, H q = some (.lst (l.map Prod.fst)) ∧ l.length ≤ M ∧
    ∀ u, H u = none → ∃ t, TA hi (upd H u (.tup (l.map Prod.fst))) (.ref u) t ∧ lv hi t ≤ M := by
  obtain ⟨l, es', rfl, f, w⟩ : ∃ l es', es = l :: es' ∧ (H q = some (.lst (l.map Prod.fst)) ∧ q ≠ P ∧ H0 q = none) ∧ True := by
    cases p.ent with
    | cons r t => exact ⟨_, _, rfl, r, True.intro⟩
  have cnt := p.cnt
  rw [List.map_cons, List.sum_cons, List.length_cons] at cnt
  have le_sum : ∀ l : List En, l.length ≤ sumL l := by
    intro l
    induction l with
    | nil => exact Nat.le_refl _
    | cons x l ih =>
      have := lv_pos x.2.2 x.2.1
      show l.length + 1 ≤ lv x.2.2 x.2.1 + sumL l
      omega
  refine ⟨l, f.1, Nat.le_trans (le_sum l) (by omega), fun u hu => ?_⟩
  have su := same_new hu (.tup (l.map Prod.fst))
  obtain ⟨k, rfl⟩ : ∃ k, hi = k + 1 := ⟨hi - 1, by omega⟩
  have hall : ∀ e ∈ l, e.2.2 ≤ k ∧ TA e.2.2 (upd H u (.tup (l.map Prod.fst))) e.1 e.2.1 := fun e he => ⟨by have := (p.tr 0 l rfl e he).1; omega, (p.tr 0 l rfl e he).2.same su⟩
  refine ⟨.node (l.map fun (e : En) => e.2.1), ⟨u, _, rfl, upd_same, kids_of hall⟩, ?_⟩
  unfold lv
  by_cases e : (Tr.node (l.map fun (e : En) => e.2.1)).kids = []
  · rw [if_pos e]; omega
  · rw [if_neg e]
    show ((l.map fun (e : En) => e.2.1).map (lv k)).sum ≤ M
    rw [sum_kids hall]
    omega
end K03
set_option Elab.async false
set_option linter.all false
set_option maxRecDepth 100000
set_option maxHeartbeats 4000000
set_option pp.maxSteps 400
set_option pp.deepTerms false
namespace K03
open PySem PySem.Spec PyProof.Rows L2 K11 K21
/-! ### _law_loose -/
section
variable {P : Program} {w : World} {K : PySem.W.Frag} {mg : Str → Option Value} {base : Heap}
abbrev nLoose : List Str := ["digits", "highest", "pile", "digit", "done", "k"]
theorem scLoose : FnScope nLoose ["digits", "highest"] (defScope sLoose) := ⟨rfl, rfl, rfl, by decide +kernel, rfl, by decide +kernel, by decide +kernel⟩
def spLoose (K : PySem.W.Frag) : Sp := fun vs H Q _ => ∃ (a : Addr) (ds : List Int) (hi : Nat), vs = [.ref a, .int (hi : Int)] ∧ SqL K H a (ds.map V.int) ∧ ds.length ≤ 1000 ∧ hi ≤ 12 ∧
  ∀ u t H', Same H H' → TA hi H' (.ref u) t → lv hi t ≤ ds.length + 1 → Q (.ref u) H'
/-- what a turn leaves: the pile, whatever stands in the loop's names -/
theorem snoc2 {α : Type} {l : List α} (h : 2 ≤ l.length) : ∃ l' a b, l = l' ++ [a] ++ [b] := by
  have h1 : l ≠ [] := fun e => by rw [e] at h; exact absurd h (Nat.not_succ_le_zero 1)
  have e1 := List.dropLast_concat_getLast h1
  have h2 : l.dropLast ≠ [] := fun e => by
    have := congrArg List.length e
    rw [List.length_dropLast] at this
    simp at this
    omega
  have e2 := List.dropLast_concat_getLast h2
  exact ⟨l.dropLast.dropLast, l.dropLast.getLast h2, l.getLast h1, by rw [e2, e1]⟩
theorem closing {K : PySem.W.Frag} {H0 H1 : Hp} {P0 : Addr} {hi M i4 i2 : Nat} {qs : List Addr} {es : List (List En)} {σ : L2.St} {D : Ends} (p : Pile H0 H1 P0 hi M qs es) (hM : M ≤ 100000) (h2 : 2 ≤ qs.length) (hσ : σ[i2]? = some (some (.ref P0))) (h4 : i4 < σ.length) (h24 : i4 ≠ i2)
    (k : ∀ H2 qs' es' y, qs' ≠ [] → Pile H0 H2 P0 hi M qs' es' → D.nx (σ.set i4 y) H2) :
    tSeq (tAsg (tBM0 K "list" rPop (tVar i2)) (gName i4)) (tDrop (tBM K "list" rAppend (tOp (rIxL K) (tVar i2) (tUn (rU fun i => .int (-i)) (tC (.int 1)))) (tCons (tThen (tVar i4) (kTup K)) tNil))) D σ H1 := by
  obtain ⟨qs', p1, p2, rfl⟩ := snoc2 h2
  obtain ⟨es', l1, l2, f1, f2, n1, n2, b1, b2, cl⟩ := p.close
  have ed : ((qs' ++ [p1] ++ [p2]).map V.ref).dropLast = (qs' ++ [p1]).map V.ref := by
    rw [List.map_append]
    exact List.dropLast_concat
  refine ⟨_, hσ, .inl ⟨rfl, _, SqL.of p.at_⟩, P0, _, .ref p2, rfl, rfl, p.at_, by simp, ?_⟩
  rw [ed]
  have gP : upd H1 P0 (.lst ((qs' ++ [p1]).map V.ref)) P0 = some (.lst ((qs' ++ [p1]).map V.ref)) := upd_same
  have g1 : upd H1 P0 (.lst ((qs' ++ [p1]).map V.ref)) p1 = some (.lst (l1.map Prod.fst)) := by rw [upd_ne n1]; exact f1
  have g2 : upd H1 P0 (.lst ((qs' ++ [p1]).map V.ref)) p2 = some (.lst (l2.map Prod.fst)) := by rw [upd_ne n2]; exact f2
  have s2 : (σ.set i4 (some (.ref p2)))[i2]? = some (some (.ref P0)) := by rw [List.getElem?_set_ne h24]; exact hσ
  have s4 : (σ.set i4 (some (.ref p2)))[i4]? = some (some (.ref p2)) := by rw [List.getElem?_set_self h4]
  refine ⟨_, s2, 1, rfl, P0, _, -1, .ref p1, rfl, rfl, SqL.of gP, (by rw [List.map_append]; exact atI_last _ _), .inl ⟨rfl, _, SqL.of g1⟩, _, s4, .inl ⟨p2, _, rfl, SqL.of g2, fun u hu => ?_⟩⟩
  have su := same_new hu (.tup (l2.map Prod.fst))
  obtain ⟨es'', pl⟩ := cl u hu
  refine ⟨p1, _, _, rfl, rfl, su _ _ g1, ?_, k _ _ es'' _ (by simp) pl⟩
  rw [List.length_map]
  exact lt_big (by omega)
def rLen (K : PySem.W.Frag) : List V → Hp → VK → Prop := fun xs H Q => ∃ p ys, xs = [.ref p] ∧ (SqL K H p ys ∨ SqT K H p ys) ∧ Q (.int ys.length) H
theorem Pile.more {H0 H : Hp} {P : Addr} {hi M M' : Nat} {qs : List Addr} {es : List (List En)} (p : Pile H0 H P hi M qs es) (h : M ≤ M') : Pile H0 H P hi M' qs es := ⟨p.sm, p.hP, p.at_, p.ent, p.nd, p.tr, Nat.le_trans p.cnt h, p.len⟩
theorem closeIf {K : PySem.W.Frag} {H0 H1 : Hp} {P0 : Addr} {hi M i4 i2 : Nat} {qs : List Addr} {es : List (List En)} {σ : L2.St} {D : Ends} (p : Pile H0 H1 P0 hi M qs es) (hM : M ≤ 100000) (_ : qs ≠ []) (hσ : σ[i2]? = some (some (.ref P0))) (h4 : i4 < σ.length) (h24 : i4 ≠ i2)
    (k : ∀ H2 qs' es' y, qs' ≠ [] → Pile H0 H2 P0 hi M qs' es' → D.nx (σ.set i4 y) H2) (k0 : D.nx σ H1) :
    tIfS (tTest (tOp (rI0 fun i j => .bl (decide (j < i))) (tCB (rLen K) (tCons (tVar i2) tNil)) (tC (.int 1)))) (tSeq (tAsg (tBM0 K "list" rPop (tVar i2)) (gName i4)) (tDrop (tBM K "list" rAppend (tOp (rIxL K) (tVar i2) (tUn (rU fun i => .int (-i)) (tC (.int 1)))) (tCons (tThen (tVar i4) (kTup K)) tNil)))) tNext D σ H1 := by
  refine ⟨_, hσ, P0, _, rfl, .inl (SqL.of p.at_), _, _, rfl, rfl, _, rfl, ite2 (fun z => ?_) (fun _ => k0)⟩
  have z' : (1 : Int) < ((qs.map V.ref).length : Int) := of_decide_eq_true z
  rw [List.length_map] at z'
  exact closing p hM (by omega) hσ h4 h24 k
theorem Pile.done0 {H0 H : Hp} {P : Addr} {hi M : Nat} {q : Addr} {qs : List Addr} {es : List (List En)} (p : Pile H0 H P hi M (q :: qs) es) : ∃ l : List En, H q = some (.lst (l.map Prod.fst)) ∧ l.length ≤ M ∧
    ∀ u, H u = none → ∃ t, TA hi (upd H u (.tup (l.map Prod.fst))) (.ref u) t ∧ lv hi t ≤ M := by
  by_cases h1 : 1 ≤ hi
  · exact p.done h1
  obtain rfl : hi = 0 := by omega
  obtain ⟨l, es', rfl, f⟩ : ∃ l es', es = l :: es' ∧ (H q = some (.lst (l.map Prod.fst)) ∧ q ≠ P ∧ H0 q = none) := by
    cases p.ent with
    | cons r t => exact ⟨_, _, rfl, r⟩
  have hl : l = [] := by
    cases l with
    | nil => rfl
    | cons x l =>
      have := (p.tr 0 _ rfl x (List.mem_cons_self ..)).1
      omega
  subst hl
  have c := p.cnt
  rw [List.length_cons] at c
  exact ⟨[], f.1, Nat.zero_le _, fun u hu => ⟨.node [], ⟨u, rfl, upd_same, rfl⟩, by show 1 ≤ M; omega⟩⟩
theorem ok_loose {f : Addr} {fd : FuncData} (F : Fun K "_law_loose" "_law_loose" sLoose f fd) (ml : mg "len" = none) (mr : mg "range" = none) (mt : mg "tuple" = none) : FnOk P w K mg base CX0 1 f fd ["digits", "highest"] (spLoose K) := by
  refine F.ok scLoose (fun vs H Q E h => ?_) (fun cdv A outer s H vs Q E hr h => ?_)
  · obtain ⟨a, ds, hi, rfl, _⟩ := h
    rfl
  obtain ⟨a, ds, hi, rfl, hS, hl, h12, q⟩ := h
  have nd := scLoose.nd
  refine ⟨_, pss_cons (ps_set (i := 2) nd rfl (.inl rfl) (pe_lst (pa_cons (pe_lst pa_nil) pa_nil)))
    (pss_cons (ps_for PassesOwn.never rfl (pi_list (pv 0)) (pg_name (i := 3) nd rfl (.inl rfl))
      (pss_one (ps_if (PW.pt (pw_and (pt_cmpR op_eq (pv 3) pe_int (nomark _)) (pw_and1 (pt_cmpR op_le (pe_callB call_len_seq (by rfl) ml PySem.boot_len (pa_cons (pv 2) pa_nil)) (pv 1) (nomark _)))))
        (pss_one (ps_expr (pe_bm PySem.F.plainAttrs_list PySem.F.slot_list_append PySem.F.type_list_append mt_append (pv 2) (pa_cons (pe_lst pa_nil) pa_nil))))
        (pss_one (ps_if (pt_cmpR op_gt (pe_callB call_len_seq (by rfl) ml PySem.boot_len (pa_cons (pv 2) pa_nil)) pe_int (nomark _))
          (pss_cons (ps_set (i := 4) nd rfl (.inl rfl) (pe_bm0 PySem.F.plainAttrs_list PySem.F.slot_list_pop PySem.F.type_list_pop mt_pop (pv 2)))
          (pss_one (ps_expr (pe_bm PySem.F.plainAttrs_list PySem.F.slot_list_append PySem.F.type_list_append mt_append (pe_ix ix_list (pv 2) (pe_un un_neg pe_int) (fun _ _ => rfl)) (pa_cons (pe_tupleOf (by rfl) mt (pv 4)) pa_nil)))))
          pss_nil)))))
    (pss_cons (ps_for PassesOwn.never rfl (pi_range1 rfl mr (pa_cons (pe_callB call_len_seq (by rfl) ml PySem.boot_len (pa_cons (pv 0) pa_nil)) pa_nil)) (pg_name (i := 5) nd rfl (.inl rfl))
      (pss_one (ps_if (pt_cmpR op_gt (pe_callB call_len_seq (by rfl) ml PySem.boot_len (pa_cons (pv 2) pa_nil)) pe_int (nomark _))
          (pss_cons (ps_set (i := 4) nd rfl (.inl rfl) (pe_bm0 PySem.F.plainAttrs_list PySem.F.slot_list_pop PySem.F.type_list_pop mt_pop (pv 2)))
          (pss_one (ps_expr (pe_bm PySem.F.plainAttrs_list PySem.F.slot_list_append PySem.F.type_list_append mt_append (pe_ix ix_list (pv 2) (pe_un un_neg pe_int) (fun _ _ => rfl)) (pa_cons (pe_tupleOf (by rfl) mt (pv 4)) pa_nil)))))
          pss_nil)))
    (pss_one (ps_ret (pe_tupleOf (by rfl) mt (pe_ix ix_list (pv 2) pe_int (fun _ _ => rfl))))))), ?_⟩
  refine ⟨Nat.zero_le _, fun c0 hc0 => ⟨one_le, fun P0 hP0 => ?_⟩⟩
  have s1 : Same H (upd H c0 (.lst [])) := same_new hc0 _
  have hPn : H P0 = none := s1.free hP0
  have ncP : c0 ≠ P0 := fun z => by rw [← z, upd_same] at hP0; cases hP0
  have pile0 : Pile H (upd (upd H c0 (.lst [])) P0 (.lst [.ref c0])) P0 hi 1 [c0] [[]] := by
    refine ⟨same_upd s1 hPn _, hPn, upd_same, .cons ⟨?_, ncP, hc0⟩ .nil, by simp, ?_, ?_, by show 1 ≤ hi + 1; omega⟩
    · rw [upd_ne ncP, upd_same]; rfl
    · intro i l hl e he
      have e1 : l = [] := by
        cases i with
        | zero => simpa using hl.symm
        | succ i => simp at hl
      rw [e1] at he
      exact nomatch he
    · show 0 + 0 + 1 ≤ 1
      omega
  refine ⟨_, rfl, a, rfl, ⟨_, (same_upd s1 hPn _).seq hS⟩, for_list (xs := ds.map V.int) (fun i σ H' => ∃ (qs : List Addr) (es : List (List En)) (y3 y4 : Option V), σ = [some (.ref a), some (.int (hi : Int)), some (.ref P0), y3, y4, Option.none] ∧ qs ≠ [] ∧ Pile H H' P0 hi (i + 1) qs es) ⟨[c0], [[]], Option.none, Option.none, rfl, by simp, pile0⟩ ?_ ?_ ?_⟩
  · rintro i σ H' _ ⟨qs, es, y3, y4, _, _, p⟩
    exact p.sm.seq hS
  · rintro i x σ H1 hx ⟨qs, es, y3, y4, rfl, hne, p⟩
    obtain ⟨v, hv, rfl⟩ := map_at hx
    have hi' : i < ds.length := (List.getElem?_eq_some_iff.mp hv).1
    have hlq : (qs.map V.ref).length = qs.length := List.length_map _
    have p' : Pile H H1 P0 hi (i + 1 + 1) qs es := p.more (Nat.le_succ _)
    have other := fun (D : Ends) (k : ∀ H2 qs' es' y, qs' ≠ [] → Pile H H2 P0 hi (i + 1 + 1) qs' es' → D.nx [some (.ref a), some (.int (hi : Int)), some (.ref P0), some (.int v), y, Option.none] H2) =>
      closeIf (K := K) (i2 := 2) (i4 := 4) (σ := [some (.ref a), some (.int (hi : Int)), some (.ref P0), some (.int v), y4, Option.none]) (D := D) p' (by omega) hne rfl (show 4 < 6 by decide) (by decide) (fun H2 qs' es' y h1 h2 => k H2 qs' es' y h1 h2) (k H1 qs es y4 hne p')
    refine ⟨_, rfl, rfl, _, rfl, ite2 (fun z => ?_) (fun z => ?_)⟩
    · refine ⟨_, rfl, P0, _, rfl, .inl (SqL.of p.at_), _, rfl, _, _, rfl, rfl, _, rfl, ite2 (fun z2 => ?_) (fun z2 => ?_)⟩
      · have z3 : ((qs.map V.ref).length : Int) ≤ (hi : Int) := of_decide_eq_true z2
        refine ⟨_, rfl, .inl ⟨rfl, _, SqL.of p.at_⟩, Nat.zero_le _, fun q hq => ⟨P0, _, _, rfl, rfl, (same_new hq _) _ _ p.at_, ?_, qs ++ [q], es ++ [[]], _, _, rfl, by simp, p.push hq (by omega)⟩⟩
        rw [hlq]
        have := p.len
        exact lt_big (by omega)
      · exact other _ fun H2 qs' es' y h1 h2 => ⟨qs', es', _, _, rfl, h1, h2⟩
    · exact iteF (other _ fun H2 qs' es' y h1 h2 => ⟨qs', es', _, _, rfl, h1, h2⟩)
  · rintro σ H1 ⟨qs, es, y3, y4, rfl, hne, p⟩
    rw [List.length_map] at p
    refine ⟨_, rfl, a, _, rfl, .inl (p.sm.seq hS), _, rfl, by rw [List.length_map]; omega, by rw [List.length_map]; omega, ?_⟩
    have e0 : ((((ds.map V.int).length : Nat) : Int)).toNat = ds.length := by rw [List.length_map]; rfl
    rw [e0]
    refine for_range (n := ds.length) (fun i σ H' => ∃ (qs : List Addr) (es : List (List En)) (y3 y4 y5 : Option V), σ = [some (.ref a), some (.int (hi : Int)), some (.ref P0), y3, y4, y5] ∧ qs ≠ [] ∧ Pile H H' P0 hi (ds.length + 1) qs es) ⟨qs, es, _, _, _, rfl, hne, p⟩ ?_ ?_
    · rintro i σ H2 hi2 ⟨qs2, es2, y3, y4, y5, rfl, hne2, p2⟩
      exact closeIf (K := K) (i2 := 2) (i4 := 4) (σ := [some (.ref a), some (.int (hi : Int)), some (.ref P0), y3, y4, some (.int (0 + (i : Int)))]) p2 (by omega) hne2 rfl (show 4 < 6 by decide) (by decide) (fun H3 qs' es' y h1 h2 => ⟨qs', es', _, _, _, rfl, h1, h2⟩) ⟨qs2, es2, _, _, _, rfl, hne2, p2⟩
    · rintro σ H2 ⟨qs2, es2, y3, y4, y5, rfl, hne2, p2⟩
      obtain ⟨q0, qr, rfl⟩ : ∃ q0 qr, qs2 = q0 :: qr := by
        cases qs2 with
        | nil => exact absurd rfl hne2
        | cons a l => exact ⟨a, l, rfl⟩
      obtain ⟨l, f1, _, dn⟩ := p2.done0
      refine ⟨_, rfl, P0, _, 0, .ref q0, rfl, rfl, SqL.of p2.at_, atI_nat (j := 0) rfl, .inl ⟨q0, _, rfl, SqL.of f1, fun u hu => ?_⟩⟩
      obtain ⟨t, t1, t2⟩ := dn u hu
      exact q u t _ (p2.sm.trans (same_new hu _)) t1 t2
end
end K03
set_option Elab.async false
set_option linter.all false
set_option maxRecDepth 100000
set_option maxHeartbeats 4000000
set_option pp.maxSteps 400
set_option pp.deepTerms false
namespace K03
open PySem PySem.Spec PyProof.Rows L2 K11 K21
/-! ### _law_large -/
theorem Pile.start {H0 H : Hp} {c0 P0 : Addr} {hi : Nat} (s : Same H0 H) (hc : H c0 = none) (hP : upd H c0 (.lst []) P0 = none) : Pile H0 (upd (upd H c0 (.lst [])) P0 (.lst [.ref c0])) P0 hi 1 [c0] [[]] := by
  have s1 : Same H (upd H c0 (.lst [])) := same_new hc _
  have hPn : H P0 = none := s1.free hP
  have ncP : c0 ≠ P0 := fun z => by rw [← z, upd_same] at hP; cases hP
  refine ⟨same_upd (s.trans s1) (s.free hPn) _, s.free hPn, upd_same, .cons ⟨?_, ncP, s.free hc⟩ .nil, by simp, ?_, ?_, by show 1 ≤ hi + 1; omega⟩
  · rw [upd_ne ncP, upd_same]; rfl
  · intro i l hl e he
    have e1 : l = [] := by
      cases i with
      | zero => simpa using hl.symm
      | succ i => simp at hl
    rw [e1] at he
    exact nomatch he
  · show 0 + 0 + 1 ≤ 1
    omega
section
variable {P : Program} {w : World} {K : PySem.W.Frag} {mg : Str → Option Value} {base : Heap}
abbrev nLarge : List Str := ["script", "at", "head", "most", "highest", "bits", "k", "pile", "many", "turn", "digit", "done", "j"]
theorem scLarge : FnScope nLarge ["script", "at"] (defScope sLarge) := ⟨rfl, rfl, rfl, by decide +kernel, rfl, by decide +kernel, by decide +kernel⟩
def spLarge (K : PySem.W.Frag) : Sp := fun vs H Q _ => ∃ (a : Addr) (ns : List Int) (at' : Nat), vs = [.ref a, .int (at' : Int)] ∧ SqL K H a (ns.map V.int) ∧ ns.length ≤ 63 ∧ at' ≤ 500 ∧
  ∀ u t H', Same H H' → TA 12 H' (.ref u) t → lv 12 t ≤ 4000 → Q (.ref u) H'
theorem ok_large {f fC fD : Addr} {fd dC dD : FuncData} (F : Fun K "_law_large" "_law_large" sLarge f fd)
    (GC : FnOk P w K mg base CX0 1 fC dC ["script", "k"] (K21.spCell K)) (bC : Binds K dC ["script", "k"] []) (kC : PySem.W.keepIn K (.ref fC) = true) (mC : mg "_law_cell" = some (.ref fC))
    (GD : FnOk P w K mg base CX0 1 fD dD ["cell", "sizes"] (spDigits K)) (bD : Binds K dD ["cell", "sizes"] []) (kD : PySem.W.keepIn K (.ref fD) = true) (mD : mg "_law_digits" = some (.ref fD))
    (ml : mg "len" = none) (mr : mg "range" = none) (mt : mg "tuple" = none) (mM : mg "min" = none) : FnOk P w K mg base CX0 2 f fd ["script", "at"] (spLarge K) := by
  refine F.ok scLarge (fun vs H Q E h => ?_) (fun cdv A outer s H vs Q E hr h => ?_)
  · obtain ⟨a, ns, at', rfl, _⟩ := h
    rfl
  obtain ⟨a, ns, at', rfl, hS, hl, hat, q⟩ := h
  have nd := scLarge.nd
  refine ⟨_, pss_cons (ps_set (i := 2) nd rfl (.inl rfl) (pe_call GD hr (by rfl) mD kD bD .nil pass0 (pa_cons (pe_call GC hr (by rfl) mC kC bC .nil pass0 (pa_cons (pv 0) (pa_cons (pv 1) pa_nil)))
      (pa_cons (pe_lst (pa_cons pe_int (pa_cons pe_int (pa_cons pe_int pa_nil)))) pa_nil))))
    (pss_cons (ps_set (i := 3) nd rfl (.inl rfl) (pe_ix ix_list (pe_lst (pa_cons pe_int (pa_cons pe_int (pa_cons (pe_op op_add pe_int (pe_ix ix_list (pv 2) pe_int (fun _ _ => rfl))) pa_nil)))) (pe_ix ix_list (pv 2) pe_int (fun _ _ => rfl)) (fun _ _ => rfl)))
    (C8.pss_cut (ps_set (i := 4) nd rfl (.inl rfl) (pe_callB (call_min2 rfl) (by rfl) mM boot_min (pa_cons pe_int (pa_cons (pe_op op_add pe_int (pe_ix ix_list (pv 2) pe_int (fun _ _ => rfl))) pa_nil))))
    (pss_cons (ps_set (i := 5) nd rfl (.inl rfl) (pe_lst pa_nil))
    (pss_cons (ps_for PassesOwn.never rfl (pi_range1 rfl mr (pa_cons pe_int pa_nil)) (pg_name (i := 6) nd rfl (.inl rfl))
      (pss_one (ps_set (i := 5) nd rfl (.inl rfl) (pe_op op_cat (pv 5) (pe_call GD hr (by rfl) mD kD bD .nil pass0 (pa_cons (pe_call GC hr (by rfl) mC kC bC .nil pass0 (pa_cons (pv 0) (pa_cons (pe_op op_add (pe_op op_add (pv 1) pe_int) (pv 6)) pa_nil)))
        (pa_cons (pe_lc (own := [("j", 12)]) (g := gName 12) (tt := tYes) rfl nd (pi_range1 rfl mr (pa_cons pe_int pa_nil)) (blkOk_by (N := nLarge) (sc := defScope sLarge) (by decide +kernel)) (fun _ _ _ _ _ => pg_name (i := 12) nd rfl (Or.inl rfl)) (fun _ _ _ _ _ => pts_nil) (fun _ _ _ _ _ => pe_int)) pa_nil)))))))
    (pss_cons (ps_set (i := 7) nd rfl (.inl rfl) (pe_lst (pa_cons (pe_lst pa_nil) pa_nil)))
    (pss_cons (ps_set (i := 8) nd rfl (.inl rfl) pe_int)
    (pss_cons (ps_for PassesOwn.never rfl (pi_range1 rfl mr (pa_cons pe_int pa_nil)) (pg_name (i := 9) nd rfl (.inl rfl))
      (pss_one (ps_for PassesOwn.never rfl (pi_list (pv 5)) (pg_name (i := 10) nd rfl (.inl rfl))
        (pss_one (ps_if (PW.pt (pw_and (pt_cmpR op_eq (pv 10) pe_int (nomark _)) (pw_and (pt_cmpR op_le (pe_callB call_len_seq (by rfl) ml PySem.boot_len (pa_cons (pv 7) pa_nil)) (pv 4) (nomark _)) (pw_and1 (pt_cmpR op_lt (pv 8) (pv 3) (nomark _))))))
          (pss_cons (ps_expr (pe_bm PySem.F.plainAttrs_list PySem.F.slot_list_append PySem.F.type_list_append mt_append (pv 7) (pa_cons (pe_lst pa_nil) pa_nil)))
            (pss_one (ps_set (i := 8) nd rfl (.inl rfl) (pe_op op_add (pv 8) pe_int))))
          (pss_one (ps_if (pt_cmpR op_gt (pe_callB call_len_seq (by rfl) ml PySem.boot_len (pa_cons (pv 7) pa_nil)) pe_int (nomark _))
            (pss_cons (ps_set (i := 11) nd rfl (.inl rfl) (pe_bm0 PySem.F.plainAttrs_list PySem.F.slot_list_pop PySem.F.type_list_pop mt_pop (pv 7)))
            (pss_one (ps_expr (pe_bm PySem.F.plainAttrs_list PySem.F.slot_list_append PySem.F.type_list_append mt_append (pe_ix ix_list (pv 7) (pe_un un_neg pe_int) (fun _ _ => rfl)) (pa_cons (pe_tupleOf (by rfl) mt (pv 11)) pa_nil)))))
            pss_nil)))))))
    (pss_cons (ps_for PassesOwn.never rfl (pi_range1 rfl mr (pa_cons pe_int pa_nil)) (pg_name (i := 6) nd rfl (.inl rfl))
      (pss_one (ps_if (pt_cmpR op_gt (pe_callB call_len_seq (by rfl) ml PySem.boot_len (pa_cons (pv 7) pa_nil)) pe_int (nomark _))
          (pss_cons (ps_set (i := 11) nd rfl (.inl rfl) (pe_bm0 PySem.F.plainAttrs_list PySem.F.slot_list_pop PySem.F.type_list_pop mt_pop (pv 7)))
          (pss_one (ps_expr (pe_bm PySem.F.plainAttrs_list PySem.F.slot_list_append PySem.F.type_list_append mt_append (pe_ix ix_list (pv 7) (pe_un un_neg pe_int) (fun _ _ => rfl)) (pa_cons (pe_tupleOf (by rfl) mt (pv 11)) pa_nil)))))
          pss_nil)))
    (pss_one (ps_ret (pe_tupleOf (by rfl) mt (pe_ix ix_list (pv 7) pe_int (fun _ _ => rfl))))))))))))), ?_⟩
  refine ⟨_, rfl, _, rfl, a, ns, at', rfl, hS, hl, by omega, fun z => ⟨three_le, fun l hl' => ?_⟩⟩
  have s1 : Same H (upd H l (.lst (([3, 600, 18] : List Int).map V.int))) := same_new hl' _
  refine ⟨z, l, [3, 600, 18], rfl, SqL.of upd_same, by decide, by decide, fun p ds H1 s2 ep hd => ?_⟩
  obtain ⟨d0, r0, rfl, b0, hd⟩ := hd.cons
  obtain ⟨d1, r1, rfl, b1, hd⟩ := hd.cons
  obtain ⟨d2, r2, rfl, b2, hd⟩ := hd.cons
  cases hd.nil
  have sA := s1.trans s2
  have gp : SqL K H1 p (([d0, d1, d2] : List Int).map V.int) := SqL.of ep
  refine ⟨_, rfl, p, _, 1, .int d1, rfl, rfl, gp, atI_nat (j := 1) rfl, _, _, rfl, rfl, three_le, fun l3 hl3 => ?_⟩
  have s3 := same_new hl3 (.lst [V.int 600, V.int 599, V.int (1 + d1)])
  obtain ⟨mo, hmo, _⟩ := idx_int (ns := [600, 599, 1 + d1]) (d := d0) b0.1 b0.2
  refine ⟨_, rfl, p, _, 0, .int d0, rfl, rfl, s3.seq gp, atI_nat (j := 0) rfl, l3, _, d0, .int mo, rfl, rfl, SqL.of upd_same, hmo, ?_⟩
  have sB := sA.trans s3
  generalize hH2 : upd H1 l3 (.lst [V.int 600, V.int 599, V.int (1 + d1)]) = H2 at s3 sB
  have gp2 := s3.seq gp
  refine ⟨fun σ' H' => H' = H2 ∧ ∃ hi : Nat, 1 ≤ hi ∧ hi ≤ 12 ∧ σ' = [some (.ref a), some (.int (at' : Int)), some (.ref p), some (.int mo), some (.int (hi : Int)), Option.none, Option.none, Option.none, Option.none, Option.none, Option.none, Option.none, Option.none], ?_, ?_⟩
  · refine ⟨_, rfl, p, _, 2, .int d2, rfl, rfl, gp2, atI_nat (j := 2) rfl, _, _, rfl, rfl, _, _, rfl, rfl, ?_⟩
    by_cases c : 1 + d2 < 12
    · refine ⟨(1 + d2).toNat, by omega, by omega, ?_⟩
      have e : ((1 + d2).toNat : Int) = (if (1 + d2) < 12 then 1 + d2 else 12) := by rw [if_pos c]; omega
      rw [e]
      rfl
    · refine ⟨12, by omega, by omega, ?_⟩
      have e : ((12 : Nat) : Int) = (if (1 + d2) < 12 then 1 + d2 else 12) := by rw [if_neg c]; rfl
      rw [e]
      rfl
  rintro σ' H2' ⟨rfl, hi, h1, h12, rfl⟩
  clear hH2
  refine ⟨Nat.zero_le _, fun B0 hB0 => ?_⟩
  have sC := sB.trans (same_new hB0 (.lst []))
  refine ⟨20, rfl, by omega, by omega, ?_⟩
  refine for_range (n := 20) (fun i σ H' => Same H H' ∧ ∃ (B : Addr) (ns : List Int) (y6 : Option V), σ = [some (.ref a), some (.int (at' : Int)), some (.ref p), some (.int mo), some (.int (hi : Int)), some (.ref B), y6, Option.none, Option.none, Option.none, Option.none, Option.none, Option.none] ∧ H' B = some (.lst (ns.map V.int)) ∧ ns.length = 60 * i) ⟨sC, B0, [], _, rfl, upd_same, rfl⟩ ?_ ?_
  · rintro i σ H3 hi3 ⟨sm, B, bs, y6, rfl, eB, lB⟩
    have eat : (at' : Int) + 1 + (0 + (i : Int)) = ((at' + 1 + i : Nat) : Int) := by omega
    refine ⟨_, rfl, _, rfl, _, rfl, _, _, rfl, rfl, _, rfl, _, _, rfl, rfl, a, ns, at' + 1 + i, congrArg (fun z => [V.ref a, V.int z]) eat, sm.seq hS, hl, by omega, fun z2 => ⟨60, rfl, by omega, by omega, fun D hD => ?_⟩⟩
    refine lc_range (n := 60) (fun k H' => Same H3 H' ∧ H' D = some (.lst ((List.replicate k (2 : Int)).map V.int))) ⟨same_new hD _, upd_same⟩ ?_ ?_
    · rintro k H4 hk ⟨s4, eD⟩
      refine ⟨rfl, ?_⟩
      show ∃ acc, H4 D = some (.lst acc) ∧ acc.length < sizeLine ∧ _
      refine ⟨_, eD, ?_, same_upd s4 hD _, ?_⟩
      · rw [List.length_map, List.length_replicate]; exact lt_big (by omega)
      · rw [upd_same, List.replicate_succ', List.map_append]; rfl
    · rintro H4 ⟨s4, eD⟩
      refine ⟨z2, D, List.replicate 60 2, rfl, SqL.of eD, by rw [List.length_replicate]; omega, fun x hx => ?_, fun p5 ds5 H5 s5 e5 hd5 => ?_⟩
      · have e : x = 2 := List.eq_of_mem_replicate hx
        rw [e]; decide
      · have l5 := hd5.len
        rw [List.length_replicate] at l5
        have sm5 := s4.trans s5
        refine ⟨B, p5, _, _, rfl, rfl, sm5 _ _ eB, e5, ?_, fun p6 hp6 => ?_⟩
        · rw [List.length_map, List.length_map]; exact le_big (by omega)
        · have s6 := same_new hp6 (.lst (bs.map V.int ++ ds5.map V.int))
          exact ⟨sm.trans (sm5.trans s6), p6, bs ++ ds5, _, rfl, by rw [upd_same, List.map_append], by rw [List.length_append]; omega⟩
  rintro σ H3 ⟨sm3, B, bits, y6, rfl, eB, lB⟩
  have gB := SqL.of (K := K) eB
  have lb : bits.length = 1200 := by omega
  refine ⟨Nat.zero_le _, fun c0 hc0 => ⟨one_le, fun P0 hP0 => ?_⟩⟩
  have pile0 := Pile.start (hi := hi) (.refl H3) hc0 hP0
  refine ⟨3, rfl, by omega, by omega, ?_⟩
  refine for_range (n := 3) (fun t σ H' => ∃ (qs : List Addr) (es : List (List En)) (mn : Int) (y6 y9 y10 y11 : Option V), σ = [some (.ref a), some (.int (at' : Int)), some (.ref p), some (.int mo), some (.int (hi : Int)), some (.ref B), y6, some (.ref P0), some (.int mn), y9, y10, y11, Option.none] ∧ qs ≠ [] ∧ Pile H3 H' P0 hi (1 + 1200 * t) qs es) ⟨[c0], [[]], 1, _, _, _, _, rfl, by simp, pile0⟩ ?_ ?_
  · rintro t σ H4 ht ⟨qs, es, mn, y6, y9, y10, y11, rfl, hne, pl⟩
    refine ⟨_, rfl, B, rfl, ⟨_, pl.sm.seq gB⟩, for_list (xs := bits.map V.int) (fun i σ H' => ∃ (qs : List Addr) (es : List (List En)) (mn : Int) (y10 y11 : Option V), σ = [some (.ref a), some (.int (at' : Int)), some (.ref p), some (.int mo), some (.int (hi : Int)), some (.ref B), y6, some (.ref P0), some (.int mn), some (.int (0 + (t : Int))), y10, y11, Option.none] ∧ qs ≠ [] ∧ Pile H3 H' P0 hi (1 + 1200 * t + i) qs es) ⟨qs, es, mn, _, _, rfl, hne, pl⟩ ?_ ?_ ?_⟩
    · rintro i σ H' _ ⟨qs, es, mn, y10, y11, _, _, p⟩
      exact p.sm.seq gB
    · rintro i x σ H5 hx ⟨qs, es, mn, y10, y11, rfl, hne, pl⟩
      obtain ⟨v, hv, rfl⟩ := map_at hx
      have hi' : i < bits.length := (List.getElem?_eq_some_iff.mp hv).1
      have hlq : (qs.map V.ref).length = qs.length := List.length_map _
      have p' : Pile H3 H5 P0 hi (1 + 1200 * t + (i + 1)) qs es := pl.more (by omega)
      have other := fun (D : Ends) (k : ∀ H2 qs' es' y, qs' ≠ [] → Pile H3 H2 P0 hi (1 + 1200 * t + (i + 1)) qs' es' → D.nx [some (.ref a), some (.int (at' : Int)), some (.ref p), some (.int mo), some (.int (hi : Int)), some (.ref B), y6, some (.ref P0), some (.int mn), some (.int (0 + (t : Int))), some (.int v), y, Option.none] H2) =>
        closeIf (K := K) (i2 := 7) (i4 := 11) (σ := [some (.ref a), some (.int (at' : Int)), some (.ref p), some (.int mo), some (.int (hi : Int)), some (.ref B), y6, some (.ref P0), some (.int mn), some (.int (0 + (t : Int))), some (.int v), y11, Option.none]) (D := D) p' (by omega) hne rfl (show 11 < 13 by decide) (by decide) (fun H2 qs' es' y h1 h2 => k H2 qs' es' y h1 h2) (k H5 qs es y11 hne p')
      refine ⟨_, rfl, rfl, _, rfl, ite2 (fun z => ?_) (fun z => ?_)⟩
      · refine ⟨_, rfl, P0, _, rfl, .inl (SqL.of pl.at_), _, rfl, _, _, rfl, rfl, _, rfl, ite2 (fun z2 => ?_) (fun z2 => ?_)⟩
        · have z3 : ((qs.map V.ref).length : Int) ≤ (hi : Int) := of_decide_eq_true z2
          refine ⟨_, rfl, _, rfl, _, _, rfl, rfl, _, rfl, ite2 (fun z4 => ?_) (fun z4 => ?_)⟩
          · refine ⟨_, rfl, .inl ⟨rfl, _, SqL.of pl.at_⟩, Nat.zero_le _, fun q hq => ⟨P0, _, _, rfl, rfl, (same_new hq _) _ _ pl.at_, ?_, _, rfl, _, _, rfl, rfl, qs ++ [q], es ++ [[]], mn + 1, _, _, rfl, by simp, pl.push hq (by omega)⟩⟩
            rw [hlq]
            have := pl.len
            exact lt_big (by omega)
          · exact other _ fun H2 qs' es' y h1 h2 => ⟨qs', es', mn, _, _, rfl, h1, h2⟩
        · exact iteF (other _ fun H2 qs' es' y h1 h2 => ⟨qs', es', mn, _, _, rfl, h1, h2⟩)
      · exact iteF (other _ fun H2 qs' es' y h1 h2 => ⟨qs', es', mn, _, _, rfl, h1, h2⟩)
    · rintro σ H5 ⟨qs, es, mn, y10, y11, rfl, hne, pl⟩
      rw [List.length_map] at pl
      exact ⟨qs, es, mn, _, _, _, _, rfl, hne, pl.more (by omega)⟩
  · rintro σ H4 ⟨qs, es, mn, y6, y9, y10, y11, rfl, hne, pl⟩
    refine ⟨12, rfl, by omega, by omega, ?_⟩
    refine for_range (n := 12) (fun i σ H' => ∃ (qs : List Addr) (es : List (List En)) (y6 y11 : Option V), σ = [some (.ref a), some (.int (at' : Int)), some (.ref p), some (.int mo), some (.int (hi : Int)), some (.ref B), y6, some (.ref P0), some (.int mn), y9, y10, y11, Option.none] ∧ qs ≠ [] ∧ Pile H3 H' P0 hi 3601 qs es) ⟨qs, es, _, _, rfl, hne, pl⟩ ?_ ?_
    · rintro i σ H5 hi2 ⟨qs2, es2, y6, y11, rfl, hne2, p2⟩
      exact closeIf (K := K) (i2 := 7) (i4 := 11) (σ := [some (.ref a), some (.int (at' : Int)), some (.ref p), some (.int mo), some (.int (hi : Int)), some (.ref B), some (.int (0 + (i : Int))), some (.ref P0), some (.int mn), y9, y10, y11, Option.none]) p2 (by omega) hne2 rfl (show 11 < 13 by decide) (by decide) (fun H3 qs' es' y h1 h2 => ⟨qs', es', _, _, rfl, h1, h2⟩) ⟨qs2, es2, _, _, rfl, hne2, p2⟩
    · rintro σ H5 ⟨qs2, es2, y6, y11, rfl, hne2, p2⟩
      obtain ⟨q0, qr, rfl⟩ : ∃ q0 qr, qs2 = q0 :: qr := by
        cases qs2 with
        | nil => exact absurd rfl hne2
        | cons a l => exact ⟨a, l, rfl⟩
      obtain ⟨l, f1, _, dn⟩ := p2.done h1
      refine ⟨_, rfl, P0, _, 0, .ref q0, rfl, rfl, SqL.of p2.at_, atI_nat (j := 0) rfl, .inl ⟨q0, _, rfl, SqL.of f1, fun u hu => ?_⟩⟩
      obtain ⟨t, t1, t2⟩ := dn u hu
      exact q u t _ (sm3.trans (p2.sm.trans (same_new hu _))) (TA.up h12 t1) (by rw [lv_up h12 t1.hb]; omega)
end
end K03
set_option Elab.async false
set_option linter.all false
set_option maxRecDepth 100000
set_option maxHeartbeats 4000000
set_option pp.maxSteps 400
set_option pp.deepTerms false
namespace K03
open PySem PySem.Spec PyProof.Rows L2 K11 K21
/-! ### _law_extra, _law_widened -/
theorem _root_.K21.TA.but {H H' : Hp} {a : Addr} {xs : List V} (b : But a H H') (ea : H a = some (.lst xs)) : ∀ {n : Nat} {v : V} {t : Tr}, TA n H v t → TA n H' v t
  | 0, _, _, h => by
    obtain ⟨p, e1, e2, e3⟩ := h
    exact ⟨p, e1, b p _ (ne_of e2 ea (fun z => nomatch z)) e2, e3⟩
  | n + 1, _, _, h => by
    obtain ⟨p, vs, e1, e2, e3⟩ := h
    exact ⟨p, vs, e1, b p _ (ne_of e2 ea (fun z => nomatch z)) e2, L2.Paired.mapP e3 fun _ _ x => K21.TA.but b ea x⟩
section
variable {P : Program} {w : World} {K : PySem.W.Frag} {mg : Str → Option Value} {base : Heap}
theorem scExtra : FnScope ["pool", "digit"] ["pool"] (defScope sExtra) := ⟨rfl, rfl, rfl, by decide +kernel, rfl, by decide +kernel, by decide +kernel⟩
theorem scWidened : FnScope ["tree", "pool", "parts", "child"] ["tree", "pool"] (defScope sWidened) := ⟨rfl, rfl, rfl, by decide +kernel, rfl, by decide +kernel, by decide +kernel⟩
def spExtra : Sp := fun vs H Q _ => ∃ (a : Addr) (ds : List Int), vs = [.ref a] ∧ H a = some (.lst (ds.map V.int)) ∧ (∀ d ∈ ds, 0 ≤ d) ∧
  ∀ e (ws : List V) (ts : List Tr) (ds' : List Int) H', But a H H' → H' a = some (.lst (ds'.map V.int)) → (∀ d ∈ ds', d ∈ ds) → ds'.length ≤ ds.length → H e = none → H' e = some (.lst ws) → Paired (TA 2 H') ws ts → (ts.map (lv 2)).sum + 2 * ds'.length ≤ 2 * ds.length → ws.length ≤ 1 → Q (.ref e) H'
theorem ok_extra {f : Addr} {fd : FuncData} (F : Fun K "_law_extra" "_law_extra" sExtra f fd) (ml : mg "len" = none) : FnOk P w K mg base CX0 1 f fd ["pool"] spExtra := by
  refine F.ok scExtra (fun vs H Q E h => ?_) (fun cdv A outer s H vs Q E hr h => ?_)
  · obtain ⟨a, ds, rfl, _⟩ := h
    rfl
  obtain ⟨a, ds, rfl, ha, h0, q⟩ := h
  have nd := scExtra.nd
  refine ⟨_, pss_cons (ps_if (pt_cmpR op_eq (pe_callB call_len_seq (by rfl) ml PySem.boot_len (pa_cons (pv 0) pa_nil)) pe_int (nomark _)) (pss_one (ps_ret (pe_lst pa_nil))) pss_nil)
    (pss_cons (ps_set (i := 1) nd rfl (.inl rfl) (pe_bm0 PySem.F.plainAttrs_list PySem.F.slot_list_pop PySem.F.type_list_pop mt_pop (pv 0)))
    (pss_cons (ps_if (pt_cmpR op_gt (pv 1) pe_int (nomark _)) (pss_one (ps_ret (pe_lst pa_nil))) pss_nil)
    (pss_one (ps_ret (pe_lst (pa_cons (pe_ix ix_list (pe_lst (pa_cons (pe_tup pa_nil) (pa_cons (pe_tup (pa_cons (pe_tup pa_nil) pa_nil)) (pa_cons (pe_tup (pa_cons (pe_tup pa_nil) (pa_cons (pe_tup pa_nil) pa_nil))) (pa_cons (pe_tup (pa_cons (pe_tup (pa_cons (pe_tup pa_nil) pa_nil)) (pa_cons (pe_tup pa_nil) pa_nil))) pa_nil))))) (pv 1) (fun _ _ => rfl)) pa_nil)))))), ?_⟩
  refine ⟨_, rfl, a, _, rfl, .inl (SqL.of ha), rfl, _, rfl, ite2 (fun z => ?_) (fun z => ?_)⟩
  · refine ⟨Nat.zero_le _, fun e he => ?_⟩
    have s1 := same_new he (.lst [])
    exact q e [] [] ds _ (But.same s1) (s1 _ _ ha) (fun d hd => hd) (Nat.le_refl _) he upd_same .nil (by show 0 + 2 * ds.length ≤ _; omega) (by simp)
  have z' : ¬ ((ds.map V.int).length : Int) = 0 := fun y => z (decide_eq_true (congrArg V.int y))
  rw [List.length_map] at z'
  have hne : ds ≠ [] := fun e => by rw [e] at z'; exact z' rfl
  have hl : (ds.map V.int)[(ds.map V.int).length - 1]? = some (.int (ds.getLast hne)) := by
    rw [List.getElem?_map, List.length_map, ← List.getLast?_eq_getElem?, List.getLast?_eq_some_getLast hne]
    rfl
  have hd0 := h0 _ (List.getLast_mem hne)
  generalize ds.getLast hne = dg at hl hd0
  refine ⟨_, rfl, .inl ⟨rfl, _, SqL.of ha⟩, a, _, .int dg, rfl, rfl, ha, hl, ?_⟩
  have ed : (ds.map V.int).dropLast = ds.dropLast.map V.int := (List.map_dropLast ..).symm
  rw [ed]
  have b1 : But a H (upd H a (.lst (ds.dropLast.map V.int))) := fun b o nb eb => by rw [upd_ne nb]; exact eb
  have ea : upd H a (.lst (ds.dropLast.map V.int)) a = some (.lst (ds.dropLast.map V.int)) := upd_same
  have fr : ∀ b, upd H a (.lst (ds.dropLast.map V.int)) b = none → H b = none := fun b hb => by
    by_cases e : b = a
    · rw [e, upd_same] at hb; cases hb
    · rw [upd_ne e] at hb; exact hb
  generalize upd H a (.lst (ds.dropLast.map V.int)) = H1 at b1 ea fr
  have lD : ds.dropLast.length + 1 = ds.length := by
    rw [List.length_dropLast]
    have := List.length_pos_iff.mpr hne
    omega
  refine ⟨_, rfl, _, _, rfl, rfl, _, rfl, ite2 (fun y => ?_) (fun y => ?_)⟩
  · refine ⟨Nat.zero_le _, fun e he => ?_⟩
    have s1 := same_new he (.lst [])
    exact q e [] [] ds.dropLast _ (b1.trans (But.same s1)) (s1 _ _ ea) (fun d hd => List.dropLast_subset ds hd) (by omega) (fr e he) upd_same .nil (by show 0 + 2 * ds.dropLast.length ≤ _; omega) (by simp)
  have y' : ¬ (3 : Int) < dg := fun x => y (decide_eq_true x)
  refine ⟨Nat.zero_le _, fun x0 n0 => ⟨Nat.zero_le _, fun x1 n1 => ⟨one_le, fun x2 n2 => ⟨Nat.zero_le _, fun x3 n3 => ⟨Nat.zero_le _, fun x4 n4 => ⟨two_le, fun x5 n5 => ⟨Nat.zero_le _, fun x6 n6 => ⟨one_le, fun x7 n7 => ⟨Nat.zero_le _, fun x8 n8 => ⟨two_le, fun x9 n9 => ⟨four_le, fun L nL => ?_⟩⟩⟩⟩⟩⟩⟩⟩⟩⟩⟩
  have s0 := same_new n0 (.tup [])
  have s1 := same_new n1 (.tup [])
  have s2 := same_new n2 (.tup [V.ref x1])
  have s3 := same_new n3 (.tup [])
  have s4 := same_new n4 (.tup [])
  have s5 := same_new n5 (.tup [V.ref x3, V.ref x4])
  have s6 := same_new n6 (.tup [])
  have s7 := same_new n7 (.tup [V.ref x6])
  have s8 := same_new n8 (.tup [])
  have s9 := same_new n9 (.tup [V.ref x7, V.ref x8])
  have sL := same_new nL (.lst [V.ref x0, V.ref x2, V.ref x5, V.ref x9])
  have leaf : ∀ {H : Hp} {x : Addr}, TA 0 (upd H x (.tup [])) (.ref x) (.node []) := ⟨_, rfl, upd_same, rfl⟩
  have t9L := s9.trans sL
  have t8 := s8.trans t9L
  have t7 := s7.trans t8
  have t6 := s6.trans t7
  have t5 := s5.trans t6
  have t4 := s4.trans t5
  have t3 := s3.trans t4
  have t2 := s2.trans t3
  have t1 := s1.trans t2
  have T0 := TA.up (Nat.zero_le 2) ((leaf (x := x0)).same t1)
  have T2 : TA 1 _ (.ref x2) (.node [.node []]) := ⟨x2, [V.ref x1], rfl, t3 _ _ upd_same, .cons ((leaf (x := x1)).same t2) .nil⟩
  have T5 : TA 1 _ (.ref x5) (.node [.node [], .node []]) := ⟨x5, [V.ref x3, V.ref x4], rfl, t6 _ _ upd_same, .cons ((leaf (x := x3)).same t4) (.cons ((leaf (x := x4)).same t5) .nil)⟩
  have T7 : TA 1 _ (.ref x7) (.node [.node []]) := ⟨x7, [V.ref x6], rfl, t8 _ _ upd_same, .cons ((leaf (x := x6)).same t7) .nil⟩
  have T9 : TA 2 _ (.ref x9) (.node [.node [.node []], .node []]) := ⟨x9, [V.ref x7, V.ref x8], rfl, sL _ _ upd_same, .cons T7 (.cons (TA.up (Nat.zero_le 1) ((leaf (x := x8)).same t9L)) .nil)⟩
  have sm : Same H1 _ := s0.trans t1
  obtain ⟨v, hv, mv⟩ := idx_mem (xs := [V.ref x0, V.ref x2, V.ref x5, V.ref x9]) hd0 (by show dg < 4; omega)
  have eL : upd (upd (upd (upd (upd (upd (upd (upd (upd (upd (upd H1 x0 (.tup [])) x1 (.tup [])) x2 (.tup [V.ref x1])) x3 (.tup [])) x4 (.tup [])) x5 (.tup [V.ref x3, V.ref x4])) x6 (.tup [])) x7 (.tup [V.ref x6])) x8 (.tup [])) x9 (.tup [V.ref x7, V.ref x8])) L (.lst [V.ref x0, V.ref x2, V.ref x5, V.ref x9]) L = some (.lst [V.ref x0, V.ref x2, V.ref x5, V.ref x9]) := upd_same
  have key : ∀ HL : Hp, TA 2 HL (.ref x0) (.node []) → TA 1 HL (.ref x2) (.node [.node []]) → TA 1 HL (.ref x5) (.node [.node [], .node []]) → TA 2 HL (.ref x9) (.node [.node [.node []], .node []]) → ∃ t, TA 2 HL v t ∧ lv 2 t ≤ 2 := by
    intro HL A B C D
    simp only [List.mem_cons, List.not_mem_nil, or_false] at mv
    rcases mv with rfl | rfl | rfl | rfl
    · exact ⟨.node [], A, by decide⟩
    · exact ⟨.node [.node []], TA.up (by decide) B, by decide⟩
    · exact ⟨.node [.node [], .node []], TA.up (by decide) C, by decide⟩
    · exact ⟨.node [.node [.node []], .node []], D, by decide⟩
  obtain ⟨t, ht, lt⟩ := key _ T0 T2 T5 T9
  refine ⟨_, rfl, L, _, dg, v, rfl, rfl, SqL.of upd_same, hv, one_le, fun e he => ?_⟩
  have se := same_new he (.lst [v])
  have sf := sm.trans se
  refine q e [v] [t] ds.dropLast _ (b1.trans (But.same sf)) (sf _ _ ea) (fun d hd => List.dropLast_subset ds hd) (by omega) (fr e (sm.free he)) upd_same (.cons (ht.same se) .nil) ?_ (by simp)
  show lv 2 t + 0 + 2 * ds.dropLast.length ≤ _
  omega
def spWidened (c : Nat) : Sp := fun vs H Q _ => ∃ (v : V) (a : Addr) (ds : List Int) (n : Nat) (t : Tr), vs = [v, .ref a] ∧ TA n H v t ∧ H a = some (.lst (ds.map V.int)) ∧ (∀ d ∈ ds, 0 ≤ d) ∧ lv n t + 2 * ds.length ≤ 10000 ∧ n + 1 ≤ c ∧
  ∀ u t' (ds' : List Int) H', But a H H' → H' a = some (.lst (ds'.map V.int)) → (∀ d ∈ ds', d ∈ ds) → ds'.length ≤ ds.length → TA (n + 3) H' (.ref u) t' → lv (n + 3) t' + 2 * ds'.length ≤ lv n t + 2 * ds.length → Q (.ref u) H'
theorem pr_len_sum {H : Hp} {n : Nat} : ∀ {ws : List V} {ts : List Tr}, Paired (TA n H) ws ts → ws.length ≤ (ts.map (lv n)).sum
  | _, _, .nil => Nat.le_refl _
  | _ :: ws, t :: ts, .cons _ k => by
    have := lv_pos n t
    have ih := pr_len_sum k
    rw [List.length_cons, List.map_cons, List.sum_cons]
    omega
theorem sum_up {H : Hp} {n m : Nat} (h : n ≤ m) : ∀ {ws : List V} {ts : List Tr}, Paired (TA n H) ws ts → (ts.map (lv m)).sum = (ts.map (lv n)).sum
  | _, _, .nil => rfl
  | _ :: ws, t :: ts, .cons r k => by
    rw [List.map_cons, List.map_cons, List.sum_cons, List.sum_cons, sum_up h k, lv_up h r.hb]
theorem ok_widened {c : Nat} {f g : Addr} {fd gd : FuncData} (F : Fun K "_law_widened" "_law_widened" sWidened f fd) (G : FnOk P w K mg base CX0 (c + 1) f fd ["tree", "pool"] (spWidened c)) (bG : Binds K fd ["tree", "pool"] []) (mG : mg "_law_widened" = some (.ref f))
    (GE : FnOk P w K mg base CX0 1 g gd ["pool"] spExtra) (bE : Binds K gd ["pool"] []) (kE : PySem.W.keepIn K (.ref g) = true) (mE : mg "_law_extra" = some (.ref g)) (mt : mg "tuple" = none) :
    FnOk P w K mg base CX0 (c + 2) f fd ["tree", "pool"] (spWidened (c + 1)) := by
  refine F.ok (k := c + 1) scWidened (fun vs H Q E h => ?_) (fun cdv A outer s H vs Q E hr h => ?_)
  · obtain ⟨v, a, ds, n, t, rfl, _⟩ := h
    rfl
  obtain ⟨v, a, ds, n, t, rfl, hT, ha, h0, hl, hc, q⟩ := h
  have nd := scWidened.nd
  have kG := F.kp
  refine ⟨_, pss_cons (ps_set (i := 2) nd rfl (.inl rfl) (pe_lst pa_nil))
    (pss_cons (ps_for PassesOwn.never rfl (pi_tup (pv 0)) (pg_name (i := 3) nd rfl (.inl rfl))
      (pss_cons (ps_set (i := 2) nd rfl (.inl rfl) (pe_op op_cat (pv 2) (pe_call GE (hr.mono (by omega)) (by rfl) mE kE bE .nil pass0 (pa_cons (pv 1) pa_nil))))
      (pss_one (ps_expr (pe_bm PySem.F.plainAttrs_list PySem.F.slot_list_append PySem.F.type_list_append mt_append (pv 2) (pa_cons (pe_call G hr (by rfl) mG kG bG .nil pass0 (pa_cons (pv 3) (pa_cons (pv 1) pa_nil))) pa_nil))))))
    (pss_one (ps_ret (pe_tupleOf (by rfl) mt (pe_op op_cat (pv 2) (pe_call GE (hr.mono (by omega)) (by rfl) mE kE bE .nil pass0 (pa_cons (pv 1) pa_nil))))))), ?_⟩
  have hHb := hT.hb
  obtain ⟨l1, l2⟩ := lv_kids hHb
  have hn0 : n = 0 → t.kids = [] := fun e => by subst e; exact hHb
  obtain ⟨p, vs, rfl, ep, pk⟩ := hT.par
  have lk : vs.length = t.kids.length := pk.length
  have npa : p ≠ a := ne_of ep ha (fun z => nomatch z)
  have hlv : t.kids ≠ [] → lv n t = (t.kids.map (lv (n - 1))).sum := fun hk => by
    cases n with
    | zero => exact absurd (hn0 rfl) hk
    | succ n => unfold lv; rw [if_neg hk]; rfl
  refine ⟨Nat.zero_le _, fun R0 hR0 => ?_⟩
  have s0 := same_new hR0 (.lst [])
  refine ⟨_, rfl, p, rfl, ⟨_, sqt_of (s0 _ _ ep)⟩, for_tup (xs := vs) (fun i σ H' => But a H H' ∧ ∃ (R : Addr) (ws : List V) (ts : List Tr) (ds' : List Int) (y3 : Option V), σ = [some (.ref p), some (.ref a), some (.ref R), y3] ∧ H R = none ∧ H' R = some (.lst ws) ∧ Paired (TA (n + 2) H') ws ts ∧ H' a = some (.lst (ds'.map V.int)) ∧ (∀ d ∈ ds', d ∈ ds) ∧ ds'.length ≤ ds.length ∧
    (ts.map (lv (n + 2))).sum + 2 * ds'.length ≤ ((t.kids.take i).map (lv (n - 1))).sum + 2 * ds.length) ⟨But.same s0, R0, [], [], ds, Option.none, rfl, hR0, upd_same, .nil, s0 _ _ ha, fun d hd => hd, Nat.le_refl _, Nat.le_refl _⟩ (fun i σ H' _ z => sqt_of (z.1 p _ npa ep)) ?_ ?_⟩
  · rintro i x σ H1 hx ⟨b1, R, ws, ts, ds1, y3, rfl, hR, eR, pw, ea, hsub, hdl, hcnt⟩
    obtain ⟨tk, htk, hTk⟩ := pr_get pk hx
    have hi : i < t.kids.length := (List.getElem?_eq_some_iff.mp htk).1
    have hmem := List.mem_of_getElem? htk
    have hk : t.kids ≠ [] := fun e => by rw [e] at hi; exact absurd hi (Nat.not_lt_zero _)
    have hn1 : 1 ≤ n := by
      rcases Nat.eq_zero_or_pos n with e | e
      · exact absurd (hn0 e) hk
      · exact e
    have htot := sum_take_le (lv (n - 1)) t.kids (i + 1)
    rw [tk1 htk, List.map_append, List.sum_append] at htot
    have hsg : ([tk].map (lv (n - 1))).sum = lv (n - 1) tk := by simp
    rw [hsg, ← hlv hk] at htot
    refine ⟨_, rfl, _, rfl, a, ds1, rfl, ea, fun d hd => h0 d (hsub d hd), fun e we te ds2 H2 b2 ea2 hs2 hl2 he ee pe cnt2 lwe => ?_⟩
    have nRa : R ≠ a := fun z => by rw [z, ha] at hR; cases hR
    have eR2 := b2 R _ nRa eR
    have lw := pr_len_sum pw
    refine ⟨R, e, ws, we, rfl, rfl, eR2, ee, le_big (by omega), fun R2 hR2 => ?_⟩
    have s3 := same_new hR2 (.lst (ws ++ we))
    have ea3 := s3 _ _ ea2
    have pw3 : Paired (TA (n + 2) (upd H2 R2 (.lst (ws ++ we)))) (ws ++ we) (ts ++ te) := pr_app (L2.Paired.mapP pw fun _ _ x => (x.but b2 ea).same s3) (L2.Paired.mapP pe fun _ _ x => (TA.up (by omega) x).same s3)
    have hR2H : H R2 = none := by
      cases hh : H R2 with
      | none => rfl
      | some o =>
        by_cases z : R2 = a
        · rw [z, ea2] at hR2; cases hR2
        · rw [b2 _ _ z (b1 _ _ z hh)] at hR2; cases hR2
    have b3 : But a H (upd H2 R2 (.lst (ws ++ we))) := (b1.trans b2).trans (But.same s3)
    refine ⟨_, rfl, .inl ⟨rfl, _, SqL.of upd_same⟩, _, rfl, _, rfl, x, a, ds2, n - 1, tk, rfl, ((hTk.but b1 ha).but b2 ea).same s3, ea3, fun d hd => h0 d (hsub d (hs2 d hd)), ?_, by omega, fun u t' ds4 H4 b4 ea4 hs4 hd4 hT4 cnt4 => ?_⟩
    · omega
    · have nR2a : R2 ≠ a := fun z => by rw [z, ha] at hR2H; cases hR2H
      have eR4 := b4 R2 _ nR2a upd_same
      have hup : lv (n + 2) t' = lv (n - 1 + 3) t' := by rw [show n - 1 + 3 = n + 2 by omega]
      have hT4' : TA (n + 2) H4 (.ref u) t' := by rw [show n - 1 + 3 = n + 2 by omega] at hT4; exact hT4
      have pw4 : Paired (TA (n + 2) H4) (ws ++ we) (ts ++ te) := L2.Paired.mapP pw3 fun _ _ x => x.but b4 ea3
      have e2u := sum_up (show 2 ≤ n + 2 by omega) pe
      have lw4 := pr_len_sum pw4
      rw [List.map_append, List.sum_append, e2u] at lw4
      refine ⟨R2, _, _, rfl, rfl, eR4, lt_big (by omega), ?_, R2, _, ts ++ te ++ [t'], ds4, _, rfl, hR2H, upd_same, ?_, ?_, fun d hd => hsub d (hs2 d (hs4 d hd)), by omega, ?_⟩
      · intro b o nb eb
        rw [upd_ne (ne_of_none eb hR2H)]
        exact (b3.trans b4) b o nb eb
      · exact (L2.Paired.mapP pw4 fun _ _ x => x.lst eR4 _).snoc (hT4'.lst eR4 _)
      · rw [upd_ne (Ne.symm nR2a)]
        exact ea4
      · rw [tk1 htk, List.map_append, List.sum_append, List.map_append, List.sum_append, List.map_append, List.sum_append, e2u, hsg]
        have hsg2 : ([t'].map (lv (n + 2))).sum = lv (n + 2) t' := by simp
        rw [hsg2, hup]
        omega
  · rintro σ H1 ⟨b1, R, ws, ts, ds1, y3, rfl, hR, eR, pw, ea, hsub, hdl, hcnt⟩
    rw [lk, List.take_length] at hcnt
    refine ⟨_, rfl, _, rfl, a, ds1, rfl, ea, fun d hd => h0 d (hsub d hd), fun e we te ds2 H2 b2 ea2 hs2 hl2 he ee pe cnt2 lwe => ?_⟩
    have nRa : R ≠ a := fun z => by rw [z, ha] at hR; cases hR
    have eR2 := b2 R _ nRa eR
    have lw := pr_len_sum pw
    have hkl : (t.kids.map (lv (n - 1))).sum ≤ lv n t := by
      by_cases hk : t.kids = []
      · rw [hk]; exact Nat.zero_le _
      · rw [← hlv hk]; exact Nat.le_refl _
    refine ⟨R, e, ws, we, rfl, rfl, eR2, ee, le_big (by omega), fun R2 hR2 => ?_⟩
    have s3 := same_new hR2 (.lst (ws ++ we))
    refine .inl ⟨R2, _, rfl, SqL.of upd_same, fun u hu => ?_⟩
    have s4 := same_new hu (.tup (ws ++ we))
    have s34 := s3.trans s4
    have pw3 : Paired (TA (n + 2) (upd (upd H2 R2 (.lst (ws ++ we))) u (.tup (ws ++ we)))) (ws ++ we) (ts ++ te) := pr_app (L2.Paired.mapP pw fun _ _ x => (x.but b2 ea).same s34) (L2.Paired.mapP pe fun _ _ x => (TA.up (by omega) x).same s34)
    refine q u (.node (ts ++ te)) ds2 _ ((b1.trans b2).trans (But.same s34)) (s34 _ _ ea2) (fun d hd => hsub d (hs2 d hd)) (by omega) ⟨u, _, rfl, upd_same, pw3⟩ ?_
    have e2u := sum_up (show 2 ≤ n + 2 by omega) pe
    have hnode : lv (n + 3) (Tr.node (ts ++ te)) = if (Tr.node (ts ++ te)).kids = [] then 1 else ((Tr.node (ts ++ te)).kids.map (lv (n + 2))).sum := rfl
    rw [hnode]
    by_cases hk2 : (Tr.node (ts ++ te)).kids = []
    · rw [if_pos hk2]
      have := lv_pos n t
      omega
    · rw [if_neg hk2]
      show ((ts ++ te).map (lv (n + 2))).sum + 2 * ds2.length ≤ _
      rw [List.map_append, List.sum_append, e2u]
      omega
theorem widened_all {f g : Addr} {fd gd : FuncData} (F : Fun K "_law_widened" "_law_widened" sWidened f fd) (bG : Binds K fd ["tree", "pool"] []) (mG : mg "_law_widened" = some (.ref f))
    (GE : FnOk P w K mg base CX0 1 g gd ["pool"] spExtra) (bE : Binds K gd ["pool"] []) (kE : PySem.W.keepIn K (.ref g) = true) (mE : mg "_law_extra" = some (.ref g)) (mt : mg "tuple" = none) :
    ∀ c, FnOk P w K mg base CX0 (c + 1) f fd ["tree", "pool"] (spWidened c)
  | 0 => (neverOk fun vs H Q E h => by
    obtain ⟨v, a, ds, n, t, _, _, _, _, _, h2, _⟩ := h
    omega).mono (Nat.zero_le _)
  | c + 1 => ok_widened F (widened_all F bG mG GE bE kE mE mt c) bG mG GE bE kE mE mt
end
end K03
set_option Elab.async false
set_option linter.all false
set_option maxRecDepth 100000
set_option maxHeartbeats 4000000
set_option pp.maxSteps 400
set_option pp.deepTerms false
namespace K03
open PySem PySem.Spec PyProof.Rows L2 K11 K21
/-! ### _law_paths, its paths; _law_without -/
/-- a way down the tree -/
def Pth : Tr → List Int → Prop
  | _, [] => True
  | t, k :: r => ∃ (j : Nat) (c : Tr), k = (j : Int) ∧ t.kids[j]? = some c ∧ Pth c r
theorem slA {K : PySem.W.Frag} {H : Hp} {a : Addr} {xs : List V} {lo hi : Option Int} {Q : V → Hp → Prop} (e : H a = some (.tup xs)) (k : ∀ r H', Same H H' → H' r = some (.tup (cutV xs lo hi)) → Q (.ref r) H') : rSlA K (.ref a) lo hi H Q := by
  refine ⟨a, xs, rfl, sqt_of e, fun h => k a H (.refl _) ?_, fun _ p hp => k p _ (same_new hp _) upd_same⟩
  rw [e]
  unfold cutV
  rw [h.1, h.2, List.drop_zero, Nat.sub_zero, List.take_length]
theorem catA2 {K : PySem.W.Frag} {H : Hp} {a b : Addr} {xs ys : List V} {Q : V → Hp → Prop} (ea : H a = some (.tup xs)) (eb : H b = some (.tup ys)) (hl : xs.length + ys.length ≤ sizeLine) (k : ∀ r H', Same H H' → H' r = some (.tup (xs ++ ys)) → Q (.ref r) H') : rCatA K (.ref a) (.ref b) H Q := by
  refine ⟨a, b, xs, ys, rfl, rfl, sqt_of ea, sqt_of eb, hl, fun h => k b H (.refl _) ?_, fun _ h => k a H (.refl _) ?_, fun _ _ p hp => k p _ (same_new hp _) upd_same⟩
  · rw [h]; exact eb
  · rw [h, List.append_nil]; exact ea
theorem cut_hi (xs : List V) (j : Nat) : cutV xs none (some (j : Int)) = xs.take j := by
  unfold cutV
  have e1 : HT.sIx xs.length xs.length (some (j : Int)) = min j xs.length := HT.sIx_nat xs.length xs.length j
  rw [e1, HT.sIx_none, List.drop_zero, Nat.sub_zero]
  by_cases h : j ≤ xs.length
  · rw [Nat.min_eq_left h]
  · rw [Nat.min_eq_right (by omega), List.take_length, List.take_of_length_le (by omega)]
theorem cut_lo (xs : List V) (j : Nat) : cutV xs (some (j : Int)) none = xs.drop j := by
  unfold cutV
  have e1 : HT.sIx xs.length 0 (some (j : Int)) = min j xs.length := HT.sIx_nat xs.length 0 j
  rw [e1, HT.sIx_none]
  by_cases h : j ≤ xs.length
  · rw [Nat.min_eq_left h, ← List.length_drop, List.take_length]
  · rw [Nat.min_eq_right (by omega), Nat.sub_self, List.take_zero, List.drop_of_length_le (by omega)]
theorem cut_one (xs : List V) : cutV xs (some 1) none = xs.drop 1 := by
  unfold cutV
  have e1 : HT.sIx xs.length 0 (some 1) = min 1 xs.length := HT.sIx_nat xs.length 0 1
  rw [e1, HT.sIx_none]
  cases xs with
  | nil => rfl
  | cons x r =>
    have e2 : min 1 (x :: r).length = 1 := by
      rw [List.length_cons]
      omega
    rw [e2]
    show List.take ((x :: r).length - 1) r = r
    rw [List.length_cons, Nat.add_sub_cancel]
    exact List.take_length
theorem pr_drop {α β : Type} {F : α → β → Prop} : ∀ {as : List α} {bs : List β} (n : Nat), Paired F as bs → Paired F (as.drop n) (bs.drop n)
  | _, _, 0, h => h
  | _, _, _ + 1, .nil => .nil
  | _, _, n + 1, .cons _ t => pr_drop n t
theorem split_at {l : List Tr} {j : Nat} {c : Tr} (h : l[j]? = some c) (f : Tr → Nat) : (l.map f).sum = ((l.take j).map f).sum + f c + ((l.drop (j + 1)).map f).sum := by
  have hj := (List.getElem?_eq_some_iff.mp h)
  obtain ⟨h1, h2⟩ := hj
  have e : l = l.take j ++ c :: l.drop (j + 1) := by
    rw [← h2, List.getElem_cons_drop, List.take_append_drop]
  conv => lhs; rw [e]
  rw [List.map_append, List.sum_append, List.map_cons, List.sum_cons]
  omega
theorem lv_node {n : Nat} (ts : List Tr) : lv (n + 1) (.node ts) = if ts = [] then 1 else (ts.map (lv n)).sum := rfl
section
variable {P : Program} {w : World} {K : PySem.W.Frag} {mg : Str → Option Value} {base : Heap}
theorem scPaths : FnScope ["tree", "paths", "k", "path"] ["tree"] (defScope sPaths) := ⟨rfl, rfl, rfl, by decide +kernel, rfl, by decide +kernel, by decide +kernel⟩
def spPaths (c : Nat) : Sp := fun vs H Q _ => ∃ (v : V) (n : Nat) (t : Tr), vs = [v] ∧ TA n H v t ∧ lv n t ≤ 10000 ∧ n + 1 ≤ c ∧ n ≤ 50 ∧
  ∀ p ps H', Same H H' → H p = none → PathsAt H' p ps → ps.length = lv n t → (∀ x ∈ ps, x.length ≤ n ∧ Pth t x) → Q (.ref p) H'
theorem ok_paths {c : Nat} {f : Addr} {fd : FuncData} (F : Fun K "_law_paths" "_law_paths" sPaths f fd) (G : FnOk P w K mg base CX0 c f fd ["tree"] (spPaths c)) (bG : Binds K fd ["tree"] []) (mG : mg "_law_paths" = some (.ref f))
    (ml : mg "len" = none) (mr : mg "range" = none) : FnOk P w K mg base CX0 (c + 1) f fd ["tree"] (spPaths (c + 1)) := by
  refine F.ok scPaths (fun vs H Q E h => ?_) (fun cdv A outer s H vs Q E hr h => ?_)
  · obtain ⟨v, n, t, rfl, _⟩ := h
    rfl
  obtain ⟨v, n, t, rfl, hT, hl, hc, hn, q⟩ := h
  have nd := scPaths.nd
  have kG := F.kp
  refine ⟨_, pss_cons (ps_if (pt_cmpR op_eq (pe_callB call_len_seq (by rfl) ml PySem.boot_len (pa_cons (pv 0) pa_nil)) pe_int (nomark _)) (pss_one (ps_ret (pe_lst (pa_cons (pe_tup pa_nil) pa_nil)))) pss_nil)
    (pss_cons (ps_set (i := 1) nd rfl (.inl rfl) (pe_lst pa_nil))
    (pss_cons (ps_for PassesOwn.never rfl (pi_range1 rfl mr (pa_cons (pe_callB call_len_seq (by rfl) ml PySem.boot_len (pa_cons (pv 0) pa_nil)) pa_nil)) (pg_name (i := 2) nd rfl (.inl rfl))
      (pss_one (ps_for PassesOwn.never rfl (pi_list (pe_call G hr (by rfl) mG kG bG .nil pass0 (pa_cons (pe_ix ix_tup (pv 0) (pv 2) (fun _ _ => rfl)) pa_nil))) (pg_name (i := 3) nd rfl (.inl rfl))
        (pss_one (ps_expr (pe_bm PySem.F.plainAttrs_list PySem.F.slot_list_append PySem.F.type_list_append mt_append (pv 1) (pa_cons (pe_op op_catT (pe_tup (pa_cons (pv 2) pa_nil)) (pv 3)) pa_nil)))))))
    (pss_one (ps_ret (pv 1))))), ?_⟩
  obtain ⟨a, vs, rfl, ea, hlen⟩ := hT.tup
  refine ⟨_, rfl, a, _, rfl, .inr (.inl (.inl ea)), rfl, _, rfl, ite2 (fun z => ?_) (fun z => ?_)⟩
  · have z' : (vs.length : Int) = 0 := V.int.inj (of_decide_eq_true z)
    refine ⟨Nat.zero_le _, fun u hu => ⟨one_le, fun p hp => ?_⟩⟩
    have s1 : Same H (upd H u (.tup [])) := same_new hu _
    have s2 := same_new hp (.lst [.ref u])
    have nu : u ≠ p := fun e => by rw [← e, upd_same] at hp; cases hp
    have hk : t.kids = [] := List.length_eq_zero_iff.mp (by omega)
    refine q p [[]] _ (s1.trans s2) (s1.free hp) ⟨[u], upd_same, .cons ?_ .nil⟩ ?_ ?_
    · rw [upd_ne nu, upd_same]
      rfl
    · cases n with
      | zero => rfl
      | succ n => unfold lv; rw [if_pos hk]; rfl
    · intro x hx
      have e : x = [] := by simpa using hx
      rw [e]
      exact ⟨Nat.zero_le _, True.intro⟩
  have z' : ¬ (vs.length : Int) = 0 := fun y => z (decide_eq_true (congrArg V.int y))
  cases n with
  | zero =>
    obtain ⟨a', e1, e2, e3⟩ := hT
    rw [e3] at hlen
    exact absurd (congrArg (fun k : Nat => (k : Int)) hlen) z'
  | succ n =>
    obtain ⟨a', vs', e1, e2, pk⟩ := hT
    cases e1
    rw [ea] at e2
    cases e2
    have hk : t.kids ≠ [] := fun e => z' (by rw [hlen, e]; rfl)
    have el : lv (n + 1) t = (t.kids.map (lv n)).sum := by unfold lv; rw [if_neg hk]
    rw [el] at hl q
    have hvs : vs.length ≤ 10000 := by
      have h1 : ∀ l : List Tr, l.length ≤ (l.map (lv n)).sum := by
        intro l
        induction l with
        | nil => exact Nat.le_refl _
        | cons x l ih =>
          rw [List.length_cons, List.map_cons, List.sum_cons]
          have := lv_pos n x
          omega
      have := h1 t.kids
      omega
    refine ⟨Nat.zero_le _, fun P0 hP0 => ?_⟩
    have s0 : Same H (upd H P0 (.lst [])) := same_new hP0 _
    refine ⟨_, rfl, a, _, rfl, .inr (.inl (.inl (s0 _ _ ea))), _, rfl, by omega, by omega, ?_⟩
    have e0 : ((vs.length : Nat) : Int).toNat = vs.length := rfl
    rw [e0]
    refine for_range (n := vs.length) (fun k σ H' => Same H H' ∧ ∃ (y2 y3 : Option V) (rs : List Addr) (ps : List (List Int)), σ = [some (.ref a), some (.ref P0), y2, y3] ∧ H' P0 = some (.lst (rs.map V.ref)) ∧ PA H' rs ps ∧
      ps.length = ((t.kids.take k).map (lv n)).sum ∧ ∀ x ∈ ps, x.length ≤ n + 1 ∧ Pth t x) ⟨s0, Option.none, Option.none, [], [], rfl, upd_same, .nil, rfl, fun x hx => nomatch hx⟩ ?_ ?_
    · rintro k σ H1 hk1 ⟨sm, y2, y3, rs, ps, rfl, eP, pa, hlen2, hx⟩
      have gv : vs[k]? = some vs[k] := List.getElem?_eq_getElem hk1
      obtain ⟨tk, htk, hTk⟩ := pr_get pk gv
      have hlk : lv n tk ≤ 10000 := by
        have h1 := sum_take_le (lv n) t.kids (k + 1)
        rw [tk1 htk, List.map_append, List.sum_append] at h1
        simp at h1
        omega
      have hsum : ((t.kids.take (k + 1)).map (lv n)).sum = ((t.kids.take k).map (lv n)).sum + lv n tk := by
        rw [tk1 htk, List.map_append, List.sum_append]
        simp
      have htot := sum_take_le (lv n) t.kids (k + 1)
      refine ⟨_, rfl, _, rfl, a, _, _, vs[k], rfl, rfl, .inl (.inl (sm _ _ ea)), ?_, vs[k], n, tk, rfl, hTk.same sm, hlk, by omega, by omega, fun p2 ps2 H2 s2 hp2 hP2 hl2 hx2 => ?_⟩
      · rw [Int.zero_add]; exact atI_nat gv
      obtain ⟨rs2, e2, pa2⟩ := hP2
      have nP2 : P0 ≠ p2 := ne_of_none eP hp2
      have l2 : rs2.length = ps2.length := pa2.length
      refine ⟨p2, rfl, ⟨_, SqL.of e2⟩, for_list (xs := rs2.map V.ref) (fun j σ H' => Same H H' ∧ H' p2 = some (.lst (rs2.map V.ref)) ∧ PA H' rs2 ps2 ∧ ∃ (y3 : Option V) (rs3 : List Addr) (ps3 : List (List Int)), σ = [some (.ref a), some (.ref P0), some (.int (0 + (k : Int))), y3] ∧ H' P0 = some (.lst (rs3.map V.ref)) ∧ PA H' rs3 ps3 ∧
        ps3.length = ps.length + j ∧ ∀ x ∈ ps3, x.length ≤ n + 1 ∧ Pth t x) ⟨sm.trans s2, e2, pa2, y3, rs, ps, rfl, s2 _ _ eP, pa.same s2, rfl, hx⟩ (fun j σ H' _ z => SqL.of z.2.1) ?_ ?_⟩
      · rintro j x σ H3 hx3 ⟨sm3, e3, pa3, y3', rs3, ps3, rfl, eP3, pa3', hl3, hx3'⟩
        obtain ⟨r, hr', rfl⟩ := map_atV hx3
        obtain ⟨path, hpath, er⟩ := pr_get pa3 hr'
        have hj : j < ps2.length := (List.getElem?_eq_some_iff.mp hpath).1
        have hlp := hx2 path (List.mem_of_getElem? hpath)
        refine ⟨_, rfl, .inl ⟨rfl, _, SqL.of eP3⟩, _, rfl, one_le, fun T1 hT1 => ?_⟩
        have st := same_new hT1 (.tup [.int (0 + (k : Int))])
        have eT : upd H3 T1 (.tup [.int (0 + (k : Int))]) T1 = some (.tup [.int (0 + (k : Int))]) := upd_same
        have fin : ∀ (T2 : Addr) (H4 : Hp), Same H3 H4 → H4 T2 = some (.tup (((0 + (k : Int)) :: path).map V.int)) →
            ∃ l xs y, V.ref P0 = .ref l ∧ [V.ref T2] = [y] ∧ H4 l = some (.lst xs) ∧ xs.length < sizeLine ∧
              (Same H (upd H4 l (.lst (xs ++ [y]))) ∧ upd H4 l (.lst (xs ++ [y])) p2 = some (.lst (rs2.map V.ref)) ∧ PA (upd H4 l (.lst (xs ++ [y]))) rs2 ps2 ∧ ∃ (y3 : Option V) (rs3 : List Addr) (ps3 : List (List Int)), [some (.ref a), some (.ref P0), some (.int (0 + (k : Int))), some (.ref r)] = [some (.ref a), some (.ref P0), some (.int (0 + (k : Int))), y3] ∧ upd H4 l (.lst (xs ++ [y])) P0 = some (.lst (rs3.map V.ref)) ∧ PA (upd H4 l (.lst (xs ++ [y]))) rs3 ps3 ∧
                ps3.length = ps.length + (j + 1) ∧ ∀ x ∈ ps3, x.length ≤ n + 1 ∧ Pth t x) := by
          intro T2 H4 s4 e4
          have eP4 := s4 _ _ eP3
          refine ⟨P0, _, _, rfl, rfl, eP4, ?_, same_upd (sm3.trans s4) hP0 _, ?_, (pa3.same s4).lst eP4 _, some (.ref r), rs3 ++ [T2], ps3 ++ [(0 + (k : Int)) :: path], rfl, ?_, ?_, ?_, ?_⟩
          · rw [List.length_map, pa3'.length]
            exact lt_big (by omega)
          · rw [upd_ne (Ne.symm nP2)]
            exact s4 _ _ e3
          · rw [upd_same, List.map_append]
            rfl
          · refine ((pa3'.same s4).lst eP4 _).snoc ?_
            rw [upd_ne (ne_of e4 eP4 (fun z => nomatch z))]
            exact e4
          · rw [List.length_append, hl3]
            rfl
          · refine mem_snoc hx3' ⟨?_, k, tk, Int.zero_add _, htk, hlp.2⟩
            rw [List.length_cons]
            have := hlp.1
            omega
        refine ⟨_, rfl, T1, r, _, _, rfl, rfl, .inl (.inl eT), .inl (.inl (st _ _ er)), (fun z => nomatch z), ?_, fun hnil => ?_, fun hne p4 hp4 => ?_⟩
        · rw [List.length_map, List.length_singleton]
          exact le_line (by omega)
        · have hpe : path = [] := by
            cases path with
            | nil => rfl
            | cons x l => exact nomatch hnil
          exact fin T1 _ st (by rw [eT, hpe]; rfl)
        · exact fin p4 _ (st.trans (same_new hp4 _)) upd_same
      · rintro σ H3 ⟨sm3, e3, pa3, y3', rs3, ps3, rfl, eP3, pa3', hl3, hx3'⟩
        rw [List.length_map, l2] at hl3
        refine ⟨sm3, _, _, rs3, ps3, rfl, eP3, pa3', ?_, hx3'⟩
        rw [hl3, hsum, hlen2, hl2]
    · rintro σ H1 ⟨sm, y2, y3, rs, ps, rfl, eP, pa, hlen2, hx⟩
      refine ⟨_, rfl, q P0 ps H1 sm hP0 ⟨rs, eP, pa⟩ ?_ hx⟩
      rw [hlen2, List.take_of_length_le (by omega)]
theorem paths_all {f : Addr} {fd : FuncData} (F : Fun K "_law_paths" "_law_paths" sPaths f fd) (bG : Binds K fd ["tree"] []) (mG : mg "_law_paths" = some (.ref f)) (ml : mg "len" = none) (mr : mg "range" = none) :
    ∀ c, FnOk P w K mg base CX0 c f fd ["tree"] (spPaths c)
  | 0 => neverOk fun vs H Q E h => by
    obtain ⟨v, n, t, _, _, _, h2, _⟩ := h
    omega
  | c + 1 => ok_paths F (paths_all F bG mG ml mr c) bG mG ml mr
theorem scWithout : FnScope ["tree", "path"] ["tree", "path"] (defScope sWithout) := ⟨rfl, rfl, rfl, by decide +kernel, rfl, by decide +kernel, by decide +kernel⟩
def spWithout (c : Nat) : Sp := fun vs H Q _ => ∃ (v : V) (p : Addr) (x : List Int) (n : Nat) (t : Tr), vs = [v, .ref p] ∧ TA n H v t ∧ H p = some (.tup (x.map V.int)) ∧ Pth t x ∧ lv n t ≤ 10000 ∧ n + 1 ≤ c ∧
  ∀ u t' H', Same H H' → TA n H' u t' → lv n t' ≤ lv n t → Q u H'
theorem ok_without {c : Nat} {f : Addr} {fd : FuncData} (F : Fun K "_law_without" "_law_without" sWithout f fd) (G : FnOk P w K mg base CX0 c f fd ["tree", "path"] (spWithout c)) (bG : Binds K fd ["tree", "path"] []) (mG : mg "_law_without" = some (.ref f))
    (ml : mg "len" = none) : FnOk P w K mg base CX0 (c + 1) f fd ["tree", "path"] (spWithout (c + 1)) := by
  refine F.ok scWithout (fun vs H Q E h => ?_) (fun cdv A outer s H vs Q E hr h => ?_)
  · obtain ⟨v, p, x, n, t, rfl, _⟩ := h
    rfl
  obtain ⟨v, p, x, n, t, rfl, hT, hp, hx, hl, hc, q⟩ := h
  have nd := scWithout.nd
  have kG := F.kp
  refine ⟨_, pss_cons (ps_if (pt_cmpR op_eq (pe_callB call_len_seq (by rfl) ml PySem.boot_len (pa_cons (pv 1) pa_nil)) pe_int (nomark _)) (pss_one (ps_ret (pv 0))) pss_nil)
    (pss_cons (ps_if (pt_cmpR op_eq (pe_callB call_len_seq (by rfl) ml PySem.boot_len (pa_cons (pv 1) pa_nil)) pe_int (nomark _))
      (pss_one (ps_ret (pe_op op_catA (pe_slice sl_tupA (pv 0) po_none (po_some (pe_ix ix_tup (pv 1) pe_int (fun _ _ => rfl)))) (pe_slice sl_tupA (pv 0) (po_some (pe_op op_add (pe_ix ix_tup (pv 1) pe_int (fun _ _ => rfl)) pe_int)) po_none)))) pss_nil)
    (pss_one (ps_ret (pe_op op_catA (pe_op op_catA (pe_slice sl_tupA (pv 0) po_none (po_some (pe_ix ix_tup (pv 1) pe_int (fun _ _ => rfl)))) (pe_tup (pa_cons (pe_call G hr (by rfl) mG kG bG .nil pass0 (pa_cons (pe_ix ix_tup (pv 0) (pe_ix ix_tup (pv 1) pe_int (fun _ _ => rfl)) (fun _ _ => rfl)) (pa_cons (pe_slice sl_tupA (pv 1) (po_some pe_int) po_none) pa_nil))) pa_nil)))
      (pe_slice sl_tupA (pv 0) (po_some (pe_op op_add (pe_ix ix_tup (pv 1) pe_int (fun _ _ => rfl)) pe_int)) po_none))))), ?_⟩
  refine ⟨_, rfl, p, _, rfl, .inr (sqt_of hp), rfl, _, rfl, ite2 (fun z => ?_) (fun z => ?_)⟩
  · exact ⟨_, rfl, q v t H (.refl _) hT (Nat.le_refl _)⟩
  have z' : ¬ ((x.map V.int).length : Int) = 0 := fun y => z (decide_eq_true (congrArg V.int y))
  rw [List.length_map] at z'
  cases x with
  | nil => exact absurd rfl z'
  | cons k rest =>
    obtain ⟨j, ch, rfl, hch, hrest⟩ := hx
    cases n with
    | zero =>
      have hk : t.kids = [] := hT.hb
      rw [hk] at hch
      simp at hch
    | succ n =>
      obtain ⟨a, vs, rfl, ea, pk⟩ := hT
      have lk : vs.length = t.kids.length := pk.length
      have hj : j < t.kids.length := (List.getElem?_eq_some_iff.mp hch).1
      have hkn : t.kids ≠ [] := fun e => by rw [e] at hj; exact absurd hj (Nat.not_lt_zero _)
      have hlt : lv (n + 1) t = (t.kids.map (lv n)).sum := by unfold lv; rw [if_neg hkn]
      have hcnt : t.kids.length ≤ (t.kids.map (lv n)).sum := by
        generalize t.kids = l
        induction l with
        | nil => exact Nat.le_refl _
        | cons x l ih =>
          have := lv_pos n x
          rw [List.length_cons, List.map_cons, List.sum_cons]
          omega
      have hsp := split_at hch (lv n)
      have gp : ∀ H', Same H H' → SqT K H' p ((((j : Int) :: rest).map V.int)) := fun H' s => sqt_of (s _ _ hp)
      have e1 : (j : Int) + 1 = ((j + 1 : Nat) : Int) := by omega
      refine ⟨_, rfl, p, _, rfl, .inr (sqt_of hp), rfl, _, rfl, ite2 (fun y => ?_) (fun y => ?_)⟩
      · refine ⟨_, rfl, _, rfl, p, _, 0, .int (j : Int), rfl, rfl, gp H (.refl _), atI_nat (j := 0) rfl, (j : Int), rfl, slA ea fun r1 H1 s1 f1 => ?_⟩
        refine ⟨_, rfl, _, rfl, p, _, 0, .int (j : Int), rfl, rfl, gp H1 s1, atI_nat (j := 0) rfl, _, _, rfl, rfl, (j : Int) + 1, rfl, ?_⟩
        unfold tNoPart
        refine slA (s1 _ _ ea) fun r2 H2 s2 f2 => ?_
        rw [e1, cut_lo] at f2
        rw [cut_hi] at f1
        refine catA2 (s2 _ _ f1) f2 (by rw [List.length_take, List.length_drop]; exact le_big (by omega)) fun r H3 s3 f3 => ?_
        have sm := s1.trans (s2.trans s3)
        refine q _ (.node (t.kids.take j ++ t.kids.drop (j + 1))) H3 sm ⟨r, _, rfl, f3, pr_app (L2.Paired.mapP (pr_take j pk) fun _ _ x => x.same sm) (L2.Paired.mapP (pr_drop (j + 1) pk) fun _ _ x => x.same sm)⟩ ?_
        rw [lv_node]
        by_cases hz : t.kids.take j ++ t.kids.drop (j + 1) = []
        · rw [if_pos hz]; exact lv_pos _ _
        · rw [if_neg hz, hlt, List.map_append, List.sum_append]; omega
      · have gj : vs[j]? = some vs[j] := List.getElem?_eq_getElem (by omega)
        obtain ⟨c2, hc2, hTc⟩ := pr_get pk gj
        rw [hch] at hc2
        cases hc2
        have hlc : lv n ch ≤ 10000 := by omega
        refine ⟨_, rfl, _, rfl, p, _, 0, .int (j : Int), rfl, rfl, gp H (.refl _), atI_nat (j := 0) rfl, (j : Int), rfl, slA ea fun r1 H1 s1 f1 => ?_⟩
        refine ⟨_, rfl, _, rfl, p, _, 0, .int (j : Int), rfl, rfl, gp H1 s1, atI_nat (j := 0) rfl, a, _, (j : Int), vs[j], rfl, rfl, sqt_of (s1 _ _ ea), atI_nat gj, _, rfl, 1, rfl, ?_⟩
        unfold tNoPart
        refine slA (s1 _ _ hp) fun r2 H2 s2 f2 => ?_
        rw [cut_one] at f2
        have s12 := s1.trans s2
        refine ⟨vs[j], r2, rest, n, ch, rfl, hTc.same s12, f2, hrest, hlc, by omega, fun u t' H3 s3 hT3 hl3 => ⟨one_le, fun T hT => ?_⟩⟩
        have sT := same_new hT (.tup [u])
        rw [cut_hi] at f1
        have s13 := s2.trans (s3.trans sT)
        refine catA2 (s13 _ _ f1) upd_same (by rw [List.length_take, List.length_singleton]; exact le_big (by omega)) fun r4 H4 s4 f4 => ?_
        have s14 := s1.trans (s13.trans s4)
        refine ⟨_, rfl, _, rfl, p, _, 0, .int (j : Int), rfl, rfl, gp H4 s14, atI_nat (j := 0) rfl, _, _, rfl, rfl, (j : Int) + 1, rfl, ?_⟩
        refine slA (s14 _ _ ea) fun r5 H5 s5 f5 => ?_
        rw [e1, cut_lo] at f5
        refine catA2 (s5 _ _ f4) f5 (by rw [List.length_append, List.length_take, List.length_drop, List.length_singleton]; exact le_big (by omega)) fun r H6 s6 f6 => ?_
        have sm := s14.trans (s5.trans s6)
        have s36 := sT.trans (s4.trans (s5.trans s6))
        refine q _ (.node (t.kids.take j ++ [t'] ++ t.kids.drop (j + 1))) H6 sm ⟨r, _, rfl, f6, pr_app (pr_app (L2.Paired.mapP (pr_take j pk) fun _ _ x => x.same sm) (.cons (hT3.same s36) .nil)) (L2.Paired.mapP (pr_drop (j + 1) pk) fun _ _ x => x.same sm)⟩ ?_
        rw [lv_node, if_neg (by simp), hlt, List.map_append, List.sum_append, List.map_append, List.sum_append]
        have hs1 : ([t'].map (lv n)).sum = lv n t' := by simp
        rw [hs1]
        omega
theorem without_all {f : Addr} {fd : FuncData} (F : Fun K "_law_without" "_law_without" sWithout f fd) (bG : Binds K fd ["tree", "path"] []) (mG : mg "_law_without" = some (.ref f)) (ml : mg "len" = none) :
    ∀ c, FnOk P w K mg base CX0 c f fd ["tree", "path"] (spWithout c)
  | 0 => neverOk fun vs H Q E h => by
    obtain ⟨v, p, x, n, t, _, _, _, _, _, h2, _⟩ := h
    omega
  | c + 1 => ok_without F (without_all F bG mG ml c) bG mG ml
end
end K03
set_option Elab.async false
set_option linter.all false
set_option maxRecDepth 100000
set_option maxHeartbeats 4000000
set_option pp.maxSteps 400
set_option pp.deepTerms false
namespace K03
open PySem PySem.Spec PyProof.Rows L2 K11 K21
/-! ### _law_thinned -/
section
variable {P : Program} {w : World} {K : PySem.W.Frag} {mg : Str → Option Value} {base : Heap}
theorem scThinned : FnScope ["tree", "pool", "parts", "child", "digit"] ["tree", "pool"] (defScope sThinned) := ⟨rfl, rfl, rfl, by decide +kernel, rfl, by decide +kernel, by decide +kernel⟩
def spThinned (c : Nat) : Sp := fun vs H Q _ => ∃ (v : V) (a : Addr) (ds : List Int) (n : Nat) (t : Tr), vs = [v, .ref a] ∧ TA n H v t ∧ H a = some (.lst (ds.map V.int)) ∧ lv n t ≤ 10000 ∧ n + 1 ≤ c ∧
  ∀ u t' (ds' : List Int) H', But a H H' → H' a = some (.lst (ds'.map V.int)) → TA n H' (.ref u) t' → lv n t' ≤ lv n t → Q (.ref u) H'
theorem ok_thinned {c : Nat} {f : Addr} {fd : FuncData} (F : Fun K "_law_thinned" "_law_thinned" sThinned f fd) (G : FnOk P w K mg base CX0 c f fd ["tree", "pool"] (spThinned c)) (bG : Binds K fd ["tree", "pool"] []) (mG : mg "_law_thinned" = some (.ref f))
    (ml : mg "len" = none) (mt : mg "tuple" = none) : FnOk P w K mg base CX0 (c + 1) f fd ["tree", "pool"] (spThinned (c + 1)) := by
  refine F.ok scThinned (fun vs H Q E h => ?_) (fun cdv A outer s H vs Q E hr h => ?_)
  · obtain ⟨v, a, ds, n, t, rfl, _⟩ := h
    rfl
  obtain ⟨v, a, ds, n, t, rfl, hT, ha, hl, hc, q⟩ := h
  have nd := scThinned.nd
  have kG := F.kp
  refine ⟨_, pss_cons (ps_set (i := 2) nd rfl (.inl rfl) (pe_lst pa_nil))
    (pss_cons (ps_for PassesOwn.never rfl (pi_tup (pv 0)) (pg_name (i := 3) nd rfl (.inl rfl))
      (pss_cons (ps_set (i := 4) nd rfl (.inl rfl) pe_int)
      (C8.pss_cut (ps_if (pt_cmpR op_gt (pe_callB call_len_seq (by rfl) ml PySem.boot_len (pa_cons (pv 1) pa_nil)) pe_int (nomark _)) (pss_one (ps_set (i := 4) nd rfl (.inl rfl) (pe_bm0 PySem.F.plainAttrs_list PySem.F.slot_list_pop PySem.F.type_list_pop mt_pop (pv 1)))) pss_nil)
      (pss_one (ps_if (pt_cmpR op_gt (pv 4) pe_int (nomark _)) (pss_one (ps_expr (pe_bm PySem.F.plainAttrs_list PySem.F.slot_list_append PySem.F.type_list_append mt_append (pv 2) (pa_cons (pe_call G hr (by rfl) mG kG bG .nil pass0 (pa_cons (pv 3) (pa_cons (pv 1) pa_nil))) pa_nil)))) pss_nil)))))
    (pss_one (ps_ret (pe_tupleOf (by rfl) mt (pv 2))))), ?_⟩
  have hHb := hT.hb
  obtain ⟨l1, l2⟩ := lv_kids hHb
  have hn0 : n = 0 → t.kids = [] := fun e => by subst e; exact hHb
  obtain ⟨p, vs, rfl, ep, pk⟩ := hT.par
  have lk : vs.length = t.kids.length := pk.length
  have npa : p ≠ a := ne_of ep ha (fun z => nomatch z)
  have hlv : t.kids ≠ [] → lv n t = (t.kids.map (lv (n - 1))).sum := fun hk => by
    cases n with
    | zero => exact absurd (hn0 rfl) hk
    | succ n => unfold lv; rw [if_neg hk]; rfl
  refine ⟨Nat.zero_le _, fun R0 hR0 => ?_⟩
  have s0 := same_new hR0 (.lst [])
  refine ⟨_, rfl, p, rfl, ⟨_, sqt_of (s0 _ _ ep)⟩, for_tup (xs := vs) (fun i σ H' => But a H H' ∧ ∃ (ws : List V) (ts : List Tr) (ds' : List Int) (y3 y4 : Option V), σ = [some (.ref p), some (.ref a), some (.ref R0), y3, y4] ∧ H' R0 = some (.lst ws) ∧ Paired (TA (n - 1) H') ws ts ∧ H' a = some (.lst (ds'.map V.int)) ∧
    (ts.map (lv (n - 1))).sum ≤ ((t.kids.take i).map (lv (n - 1))).sum) ⟨But.same s0, [], [], ds, Option.none, Option.none, rfl, upd_same, .nil, s0 _ _ ha, Nat.le_refl _⟩ (fun i σ H' _ z => sqt_of (z.1 p _ npa ep)) ?_ ?_⟩
  · rintro i x σ H1 hx ⟨b1, ws, ts, ds1, y3, y4, rfl, eR, pw, ea, hcnt⟩
    obtain ⟨tk, htk, hTk⟩ := pr_get pk hx
    have hi : i < t.kids.length := (List.getElem?_eq_some_iff.mp htk).1
    have hmem := List.mem_of_getElem? htk
    have hk : t.kids ≠ [] := fun e => by rw [e] at hi; exact absurd hi (Nat.not_lt_zero _)
    have hn1 : 1 ≤ n := by
      rcases Nat.eq_zero_or_pos n with e | e
      · exact absurd (hn0 e) hk
      · exact e
    have htot := sum_take_le (lv (n - 1)) t.kids (i + 1)
    rw [tk1 htk, List.map_append, List.sum_append] at htot
    have hsg : ([tk].map (lv (n - 1))).sum = lv (n - 1) tk := by simp
    rw [hsg, ← hlv hk] at htot
    have hst : ((t.kids.take (i + 1)).map (lv (n - 1))).sum = ((t.kids.take i).map (lv (n - 1))).sum + lv (n - 1) tk := by rw [tk1 htk, List.map_append, List.sum_append, hsg]
    refine ⟨fun σ' H' => But a H H' ∧ ∃ (ds' : List Int) (d : Int), σ' = [some (.ref p), some (.ref a), some (.ref R0), some x, some (.int d)] ∧ H' R0 = some (.lst ws) ∧ Paired (TA (n - 1) H') ws ts ∧ H' a = some (.lst (ds'.map V.int)), ?_, ?_⟩
    · refine ⟨_, rfl, a, _, rfl, .inl (SqL.of ea), _, _, rfl, rfl, _, rfl, ite2 (fun z => ?_) (fun z => ?_)⟩
      · have z' : (0 : Int) < ((ds1.map V.int).length : Int) := of_decide_eq_true z
        rw [List.length_map] at z'
        have hne : ds1 ≠ [] := fun e => by rw [e] at z'; exact absurd z' (by decide)
        have hlast : (ds1.map V.int)[(ds1.map V.int).length - 1]? = some (.int (ds1.getLast hne)) := by
          rw [List.getElem?_map, List.length_map, ← List.getLast?_eq_getElem?, List.getLast?_eq_some_getLast hne]
          rfl
        refine ⟨_, rfl, .inl ⟨rfl, _, SqL.of ea⟩, a, _, _, rfl, rfl, ea, hlast, ?_⟩
        have ed : (ds1.map V.int).dropLast = ds1.dropLast.map V.int := (List.map_dropLast ..).symm
        rw [ed]
        have b2 : But a H1 (upd H1 a (.lst (ds1.dropLast.map V.int))) := fun b o nb eb => by rw [upd_ne nb]; exact eb
        have nRa : R0 ≠ a := fun z => by rw [z, ha] at hR0; cases hR0
        exact ⟨b1.trans b2, ds1.dropLast, _, rfl, b2 _ _ nRa eR, L2.Paired.mapP pw fun _ _ x => x.but b2 ea, upd_same⟩
      · exact ⟨b1, ds1, _, rfl, eR, pw, ea⟩
    rintro σ' H2 ⟨b2, ds2, d, rfl, eR2, pw2, ea2⟩
    refine ⟨_, rfl, _, _, rfl, rfl, _, rfl, ite2 (fun _ => ?_) (fun _ => ?_)⟩
    · refine ⟨_, rfl, .inl ⟨rfl, _, SqL.of eR2⟩, _, rfl, _, rfl, x, a, ds2, n - 1, tk, rfl, hTk.but b2 ha, ea2, Nat.le_trans (l2 tk hmem) hl, by omega, fun u t' ds3 H3 b3 ea3 hT3 hl3 => ?_⟩
      have nRa : R0 ≠ a := fun z => by rw [z, ha] at hR0; cases hR0
      have eR3 := b3 R0 _ nRa eR2
      have lw := pr_len_sum pw2
      refine ⟨R0, _, _, rfl, rfl, eR3, lt_big (by omega), ?_, ws ++ [.ref u], ts ++ [t'], ds3, _, _, rfl, upd_same, ?_, ?_, ?_⟩
      · intro b o nb eb
        rw [upd_ne (ne_of_none eb hR0)]
        exact (b2.trans b3) b o nb eb
      · exact (L2.Paired.mapP pw2 fun _ _ x => (x.but b3 ea2).lst eR3 _).snoc (hT3.lst eR3 _)
      · rw [upd_ne (Ne.symm nRa)]
        exact ea3
      · rw [hst, List.map_append, List.sum_append]
        have hs2 : ([t'].map (lv (n - 1))).sum = lv (n - 1) t' := by simp
        rw [hs2]
        omega
    · refine ⟨b2, ws, ts, ds2, _, _, rfl, eR2, pw2, ea2, ?_⟩
      rw [hst]
      omega
  · rintro σ H1 ⟨b1, ws, ts, ds1, y3, y4, rfl, eR, pw, ea, hcnt⟩
    rw [lk, List.take_length] at hcnt
    refine ⟨_, rfl, .inl ⟨R0, _, rfl, SqL.of eR, fun u hu => ?_⟩⟩
    have su := same_new hu (.tup ws)
    have pwu : Paired (TA (n - 1) (upd H1 u (.tup ws))) ws ts := L2.Paired.mapP pw fun _ _ x => x.same su
    have lw := pr_len_sum pw
    have hz : t.kids = [] → ts = [] := fun e => by
      rw [e] at hcnt
      have h0 : (([] : List Tr).map (lv (n - 1))).sum = 0 := rfl
      rw [h0] at hcnt
      exact List.length_eq_zero_iff.mp (by rw [← pw.length]; omega)
    cases n with
    | zero =>
      have e := hz (hn0 rfl)
      rw [e] at pwu
      cases pwu
      exact q u (.node []) ds1 _ (b1.trans (But.same su)) (su _ _ ea) ⟨u, rfl, upd_same, rfl⟩ (lv_pos _ _)
    | succ n =>
      refine q u (.node ts) ds1 _ (b1.trans (But.same su)) (su _ _ ea) ⟨u, ws, rfl, upd_same, pwu⟩ ?_
      rw [lv_node]
      by_cases e : ts = []
      · rw [if_pos e]; exact lv_pos _ _
      · rw [if_neg e, hlv (fun y => e (hz y))]
        exact hcnt
theorem thinned_all {f : Addr} {fd : FuncData} (F : Fun K "_law_thinned" "_law_thinned" sThinned f fd) (bG : Binds K fd ["tree", "pool"] []) (mG : mg "_law_thinned" = some (.ref f)) (ml : mg "len" = none) (mt : mg "tuple" = none) :
    ∀ c, FnOk P w K mg base CX0 c f fd ["tree", "pool"] (spThinned c)
  | 0 => neverOk fun vs H Q E h => by
    obtain ⟨v, a, ds, n, t, _, _, _, _, h2, _⟩ := h
    omega
  | c + 1 => ok_thinned F (thinned_all F bG mG ml mt c) bG mG ml mt
end
end K03
set_option Elab.async false
set_option linter.all false
set_option maxRecDepth 100000
set_option maxHeartbeats 4000000
set_option pp.maxSteps 400
set_option pp.deepTerms false
namespace K03
open PySem PySem.Spec PyProof.Rows L2 K11 K21
/-! ### _law_is_least -/
theorem Bl.at {R : Tr → Tr → List (List Int) → Prop} {h : Tr → Tr → Prop} {bs : List Tr} {ss : List Tr} {bl : List Blk} (B : Bl R h bs ss bl) :
    ∀ i s, ss[i]? = some s → ∃ g part c, bl[i]? = some (g, part) ∧ loOf (bl.take i) ≤ g ∧ bs[g]? = some c ∧ (∀ j z, loOf (bl.take i) ≤ j → j < g → bs[j]? = some z → ¬ h z s) ∧ R c s part := by
  induction B with
  | nil => intro i s hs; simp at hs
  | snoc B hg hb hn hr ih =>
    rename_i ss s b bl g p
    intro i x hx
    have hc := B.count
    rcases get_app hx with hx | ⟨hi, rfl⟩
    · have hi : i < ss.length := (List.getElem?_eq_some_iff.mp hx).1
      obtain ⟨g2, part, c, e1, e2⟩ := ih i x hx
      refine ⟨g2, part, c, by rw [List.getElem?_append_left (by omega)]; exact e1, ?_⟩
      rw [List.take_append_of_le_length (by omega)]
      exact e2
    · rw [hi, ← hc]
      refine ⟨g, p, b, by rw [List.getElem?_append_right (Nat.le_refl _), Nat.sub_self]; rfl, ?_⟩
      rw [List.take_append_of_le_length (Nat.le_refl _), List.take_length]
      exact ⟨hg, hb, hn, hr⟩
theorem flat_at {bl : List Blk} {i g : Nat} {part : List (List Int)} (h : bl[i]? = some (g, part)) : ((flat bl).drop (flat (bl.take i)).length).take part.length = part.map (fun y => (g : Int) :: y) ∧ (flat (bl.take (i + 1))).length = (flat (bl.take i)).length + part.length ∧ (flat (bl.take (i + 1))).length ≤ (flat bl).length := by
  obtain ⟨h1, h2⟩ := List.getElem?_eq_some_iff.mp h
  have e : bl = bl.take i ++ (g, part) :: bl.drop (i + 1) := by
    rw [← h2, List.getElem_cons_drop, List.take_append_drop]
  have ef : flat bl = flat (bl.take i) ++ (part.map (fun y => (g : Int) :: y) ++ flat (bl.drop (i + 1))) := by
    conv => lhs; rw [e]
    unfold flat
    rw [List.flatMap_append, List.flatMap_cons]
  have et : bl.take (i + 1) = bl.take i ++ [(g, part)] := tk1 h
  refine ⟨?_, ?_, ?_⟩
  · rw [ef, List.drop_left]
    have hl : part.length = (part.map (fun y => (g : Int) :: y)).length := (List.length_map _).symm
    rw [hl, List.take_left]
  · rw [et, flat_snoc, List.length_append, List.length_map]
  · rw [et, flat_snoc, ef, List.length_append, List.length_append, List.length_append]
    omega
theorem tYI {σ : L2.St} {H : Hp} {A B : Hp → Prop} (h : A H) : tYes σ H (fun b H3 => if b = true then A H3 else B H3) := (show if true = true then A H else B H from iteT h)
theorem cut_mid (xs : List V) (i k : Nat) (h : i + k ≤ xs.length) : cutV xs (some (i : Int)) (some ((i + k : Nat) : Int)) = (xs.drop i).take k := by
  unfold cutV
  have e1 : HT.sIx xs.length 0 (some (i : Int)) = min i xs.length := HT.sIx_nat xs.length 0 i
  have e2 : HT.sIx xs.length xs.length (some ((i + k : Nat) : Int)) = min (i + k) xs.length := HT.sIx_nat xs.length xs.length (i + k)
  rw [e1, e2, Nat.min_eq_left h, Nat.min_eq_left (show i ≤ xs.length by omega), Nat.add_sub_cancel_left]
section
variable {P : Program} {w : World} {K : PySem.W.Frag} {mg : Str → Option Value} {base : Heap}
abbrev nLeast : List Str := ["big", "small", "images", "at", "lowest", "child", "many", "part", "path", "goal", "j"]
theorem scLeast : FnScope nLeast ["big", "small", "images"] (defScope sLeast) := ⟨rfl, rfl, rfl, by decide +kernel, rfl, by decide +kernel, by decide +kernel⟩
def spLeast (K : PySem.W.Frag) (c : Nat) : Sp := fun vs H Q _ => ∃ (v u : V) (a : Addr) (rs : List Addr) (n d : Nat) (b s : Tr) (L : List (List Int)), vs = [v, u, .ref a] ∧ TA n H v b ∧ TA d H u s ∧ SqL K H a (rs.map V.ref) ∧ PA H rs L ∧ Img d b s L ∧ lv n b ≤ 10000 ∧ lv d s ≤ 10000 ∧ d ≤ 20 ∧ d + 1 ≤ c ∧
  ∀ H', Same H H' → Q (.bl true) H'
theorem ok_least {c : Nat} {f fP fH : Addr} {fd dP dH : FuncData} (F : Fun K "_law_is_least" "_law_is_least" sLeast f fd) (G : FnOk P w K mg base CX0 (c + 21) f fd ["big", "small", "images"] (spLeast K c)) (bG : Binds K fd ["big", "small", "images"] []) (mG : mg "_law_is_least" = some (.ref f))
    (GP : FnOk P w K mg base CX0 21 fP dP ["tree"] (spPaths 21)) (bP : Binds K dP ["tree"] []) (kP : PySem.W.keepIn K (.ref fP) = true) (mP : mg "_law_paths" = some (.ref fP))
    (GH : FnOk P w K mg base CX0 21 fH dH ["big", "small"] (spHolds 21)) (bH : Binds K dH ["big", "small"] []) (kH : PySem.W.keepIn K (.ref fH) = true) (mH : mg "_law_holds" = some (.ref fH))
    (ml : mg "len" = none) (mr : mg "range" = none) : FnOk P w K mg base CX0 (c + 22) f fd ["big", "small", "images"] (spLeast K (c + 1)) := by
  refine F.ok (k := c + 21) scLeast (fun vs H Q E h => ?_) (fun cdv A outer s H vs Q E hr h => ?_)
  · obtain ⟨v, u, a, rs, n, d, b, t, L, rfl, _⟩ := h
    rfl
  obtain ⟨v, u, a, rs, n, d, b, t, L, rfl, hB, hT, hS, hL, hI, hlb, hls, hd20, hc, q⟩ := h
  have nd := scLeast.nd
  have kG := F.kp
  have hu := hr.units
  refine ⟨_, pss_cons (ps_if (pt_cmpR op_eq (pe_callB call_len_seq (by rfl) ml PySem.boot_len (pa_cons (pv 1) pa_nil)) pe_int (nomark _)) (pss_one (ps_ret (pe_cmpR (op_eqD hu) (pv 2) (pe_lst (pa_cons (pe_tup pa_nil) pa_nil)) (nomark _)))) pss_nil)
    (pss_cons (ps_set (i := 3) nd rfl (.inl rfl) pe_int)
    (pss_cons (ps_set (i := 4) nd rfl (.inl rfl) (pe_un un_neg pe_int))
    (pss_cons (ps_for PassesOwn.never rfl (pi_tup (pv 1)) (pg_name (i := 5) nd rfl (.inl rfl))
      (pss_cons (ps_set (i := 6) nd rfl (.inl rfl) (pe_callB call_len_seq (by rfl) ml PySem.boot_len (pa_cons (pe_call GP (hr.mono (by omega)) (by rfl) mP kP bP .nil pass0 (pa_cons (pv 5) pa_nil)) pa_nil)))
      (pss_cons (ps_set (i := 7) nd rfl (.inl rfl) (pe_slice sl_list (pv 2) (po_some (pv 3)) (po_some (pe_op op_add (pv 3) (pv 6)))))
      (pss_cons (ps_if (pt_cmpR op_lt (pe_callB call_len_seq (by rfl) ml PySem.boot_len (pa_cons (pv 7) pa_nil)) (pv 6) (nomark _)) (pss_one (ps_ret pe_bl)) pss_nil)
      (pss_cons (ps_for PassesOwn.never rfl (pi_list (pv 7)) (pg_name (i := 8) nd rfl (.inl rfl))
        (pss_one (ps_if (PW.pt (pw_or (pt_cmpR op_eq (pe_callB call_len_seq (by rfl) ml PySem.boot_len (pa_cons (pv 8) pa_nil)) pe_int (nomark _)) (pw_or1 (pt_cmpR op_ne (pe_ix ix_tup (pv 8) pe_int (fun _ _ => rfl)) (pe_ix ix_tup (pe_ix ix_list (pv 7) pe_int (fun _ _ => rfl)) pe_int (fun _ _ => rfl)) (nomark _))))) (pss_one (ps_ret pe_bl)) pss_nil)))
      (pss_cons (ps_set (i := 9) nd rfl (.inl rfl) (pe_ix ix_tup (pe_ix ix_list (pv 7) pe_int (fun _ _ => rfl)) pe_int (fun _ _ => rfl)))
      (pss_cons (ps_if (PW.pt (pw_or (pt_cmpR op_le (pv 9) (pv 4) (nomark _)) (pw_or1 (pt_cmpR op_ge (pv 9) (pe_callB call_len_seq (by rfl) ml PySem.boot_len (pa_cons (pv 0) pa_nil)) (nomark _))))) (pss_one (ps_ret pe_bl)) pss_nil)
      (pss_cons (ps_for PassesOwn.never rfl (pi_range2 rfl mr (pa_cons (pe_op op_add (pv 4) pe_int) (pa_cons (pv 9) pa_nil))) (pg_name (i := 10) nd rfl (.inl rfl))
        (pss_one (ps_if (pt_val (pe_call GH (hr.mono (by omega)) (by rfl) mH kH bH .nil pass0 (pa_cons (pe_ix ix_tup (pv 0) (pv 10) (fun _ _ => rfl)) (pa_cons (pv 5) pa_nil)))) (pss_one (ps_ret pe_bl)) pss_nil)))
      (pss_cons (ps_if (pt_not (pt_val (pe_call G hr (by rfl) mG kG bG .nil pass0 (pa_cons (pe_ix ix_tup (pv 0) (pv 9) (fun _ _ => rfl)) (pa_cons (pv 5) (pa_cons (pe_lc (own := [("path", 8)]) (g := gName 8) (tt := tYes) rfl nd (pi_list (pv 7)) (blkOk_by (N := nLeast) (sc := defScope sLeast) (by decide +kernel))
          (fun _ _ _ _ _ => pg_name (i := 8) nd rfl (Or.inl rfl)) (fun _ _ _ _ _ => pts_nil) (fun _ _ _ _ _ => pe_slice (show SlR _ (rSlA K) from sl_tupA) (pv 8) (po_some pe_int) po_none)) pa_nil)))))) (pss_one (ps_ret pe_bl)) pss_nil)
      (pss_cons (ps_set (i := 3) nd rfl (.inl rfl) (pe_op op_add (pv 3) (pv 6)))
      (pss_one (ps_set (i := 4) nd rfl (.inl rfl) (pv 9)))))))))))))
    (pss_one (ps_ret (pe_cmpR op_eq (pv 3) (pe_callB call_len_seq (by rfl) ml PySem.boot_len (pa_cons (pv 2) pa_nil)) (nomark _))))))), ?_⟩
  have hHb := hB.hb
  have hHs := hT.hb
  obtain ⟨l1, l2⟩ := lv_kids hHb
  obtain ⟨m1, m2⟩ := lv_kids hHs
  have hlen := Img.len d b t L hHs hI
  have hrl : rs.length = L.length := hL.length
  obtain ⟨aB, bs, rfl, eB, pB⟩ := hB.par
  obtain ⟨aS, ss, rfl, eS, pS⟩ := hT.par
  have nB : bs.length = b.kids.length := pB.length
  have nS : ss.length = t.kids.length := pS.length
  refine ⟨_, rfl, aS, _, rfl, .inr (sqt_of eS), rfl, _, rfl, ite2 (fun z => ?_) (fun z => ?_)⟩
  · have z' : (ss.length : Int) = 0 := V.int.inj (of_decide_eq_true z)
    have hk : t.kids = [] := List.length_eq_zero_iff.mp (by omega)
    have hL1 : L = [[]] := by
      cases d with
      | zero => exact hI
      | succ d =>
        rcases hI with ⟨_, e⟩ | ⟨e, _⟩
        · exact e
        · exact absurd hk e
    subst hL1
    obtain ⟨r, rfl, er⟩ : ∃ r, rs = [r] ∧ H r = some (.tup []) := by
      cases hL with
      | cons e k => cases k; exact ⟨_, rfl, e⟩
    refine ⟨_, rfl, Nat.zero_le _, fun x hx => ⟨one_le, fun l hl => ?_⟩⟩
    have s1 := same_new hx (.tup [])
    have s2 := same_new hl (.lst [.ref x])
    exact ⟨.list [.tuple []], .list [.tuple []], .lst (s2.seq (s1.seq hS)) (.cons (.tup (sqt_of (s2 _ _ (s1 _ _ er))) .nil) .nil), .lst (SqL.of upd_same) (.cons (.tup (sqt_of (s2 _ _ upd_same)) .nil) .nil), by decide +kernel, by decide +kernel, q _ (s1.trans s2)⟩
  have z' : ¬ (ss.length : Int) = 0 := fun y => z (decide_eq_true (congrArg V.int y))
  have hk : t.kids ≠ [] := fun e => z' (by rw [nS, e]; rfl)
  obtain ⟨e, rfl⟩ : ∃ e, d = e + 1 := by
    cases d with
    | zero => exact absurd hHs hk
    | succ e => exact ⟨e, rfl⟩
  obtain ⟨bl, Bb, rfl⟩ : ∃ bl, Bl (Img e) (Ho e) b.kids t.kids bl ∧ L = flat bl := by
    rcases hI with ⟨h, _⟩ | ⟨_, h⟩
    · exact absurd h hk
    · exact h
  have hcount := Bb.count
  refine ⟨1, rfl, _, rfl, aS, rfl, ⟨_, sqt_of eS⟩, for_tup (xs := ss) (fun i σ H' => Same H H' ∧ ∃ (y5 y6 y7 y8 y9 y10 : Option V), σ = [some (.ref aB), some (.ref aS), some (.ref a), some (.int ((flat (bl.take i)).length : Nat)), some (.int ((loOf (bl.take i) : Nat) - 1 : Int)), y5, y6, y7, y8, y9, y10]) ⟨.refl H, _, _, _, _, _, _, rfl⟩ (fun i σ H' _ z => sqt_of (z.1 _ _ eS)) ?_ ?_⟩
  · rintro i x σ H1 hx ⟨sm, y5, y6, y7, y8, y9, y10, rfl⟩
    obtain ⟨si, hsi, hTi⟩ := pr_get pS hx
    obtain ⟨g, part, cc, hbl, hlo, hgc, hno, hImg⟩ := Bb.at i si hsi
    have hmem := List.mem_of_getElem? hsi
    have hpl : part.length = lv e si := Img.len e cc si part (hHs si hmem) hImg
    have hpp := lv_pos e si
    obtain ⟨fa, fb, fc⟩ := flat_at hbl
    have hls2 : lv e si ≤ lv (e + 1) t := m2 si hmem
    generalize hA : (flat (bl.take i)).length = A at fa fb
    refine ⟨_, rfl, x, e, si, rfl, hTi.same sm, by omega, by omega, by omega, fun p2 ps2 H2 s2 _ hP2 hl2 _ => ?_⟩
    obtain ⟨rs2, er2, pa2⟩ := hP2
    refine ⟨p2, _, rfl, .inl (SqL.of er2), ?_⟩
    have lm : (rs2.map V.ref).length = part.length := by rw [List.length_map, pa2.length, hl2, hpl]
    rw [lm]
    have sm2 := sm.trans s2
    refine ⟨_, rfl, _, rfl, (A : Int), rfl, _, rfl, _, rfl, _, _, rfl, rfl, (A : Int) + (part.length : Int), rfl, a, _, rfl, sm2.seq hS, fun D hD => ?_⟩
    have hAl : A + part.length ≤ (rs.map V.ref).length := by rw [List.length_map, hrl]; omega
    have eD : upd H2 D (.lst (cutV (rs.map V.ref) (some (A : Int)) (some ((A : Int) + (part.length : Int))))) D = some (.lst (((rs.drop A).take part.length).map V.ref)) := by
      rw [upd_same, ← Int.natCast_add, cut_mid _ _ _ hAl, List.map_take, List.map_drop]
    have sD := same_new hD (.lst (cutV (rs.map V.ref) (some (A : Int)) (some ((A : Int) + (part.length : Int)))))
    generalize upd H2 D (.lst (cutV (rs.map V.ref) (some (A : Int)) (some ((A : Int) + (part.length : Int))))) = H3 at eD sD
    have sm3 := sm2.trans sD
    have pr0 : PA H ((rs.drop A).take part.length) (part.map fun y => (g : Int) :: y) := by rw [← fa]; exact pr_take _ (pr_drop _ hL)
    generalize (rs.drop A).take part.length = prs at eD pr0
    have lpr : prs.length = part.length := by rw [pr0.length, List.length_map]
    have gD := SqL.of (K := K) eD
    have first : ∃ r0 y0, prs[0]? = some r0 ∧ H r0 = some (.tup (((g : Int) :: y0).map V.int)) := by
      cases hp : prs with
      | nil => rw [hp] at lpr; exact absurd lpr (by rw [hpl]; show ¬ 0 = lv e si; omega)
      | cons r0 l =>
        obtain ⟨px, hpx, er⟩ := pr_get pr0 (show prs[0]? = some r0 by rw [hp]; rfl)
        rw [List.getElem?_map] at hpx
        obtain ⟨y0, _, rfl⟩ := Option.map_eq_some_iff.mp hpx
        exact ⟨r0, y0, rfl, er⟩
    obtain ⟨r0, y0, hr0, er0⟩ := first
    have at0 : atI (prs.map V.ref) 0 = some (.ref r0) := atI_nat (j := 0) (by rw [List.getElem?_map, hr0]; rfl)
    have gr0 : ∀ H', Same H H' → SqT K H' r0 (((g : Int) :: y0).map V.int) := fun H' s => sqt_of (s _ _ er0)
    have hgb : g < b.kids.length := (List.getElem?_eq_some_iff.mp hgc).1
    refine ⟨_, rfl, D, _, rfl, .inl gD, _, rfl, _, _, rfl, rfl, _, rfl, ite2 (fun z => ?_) (fun _ => ?_)⟩
    · have z2 : ((prs.map V.ref).length : Int) < (part.length : Int) := of_decide_eq_true z
      rw [List.length_map] at z2
      omega
    refine ⟨_, rfl, D, rfl, ⟨_, gD⟩, for_list (xs := prs.map V.ref) (fun k σ H' => H' = H3 ∧ ∃ y8 : Option V, σ = [some (.ref aB), some (.ref aS), some (.ref a), some (.int (A : Nat)), some (.int ((loOf (bl.take i) : Nat) - 1 : Int)), some x, some (.int (part.length : Int)), some (.ref D), y8, y9, y10]) ⟨rfl, _, rfl⟩ (fun k σ H' _ z => by rw [z.1]; exact gD) ?_ ?_⟩
    · rintro k y σ H4 hy ⟨rfl, y8, rfl⟩
      obtain ⟨r, hr', rfl⟩ := map_atV hy
      obtain ⟨px, hpx, er⟩ := pr_get pr0 hr'
      rw [List.getElem?_map] at hpx
      obtain ⟨yk, _, rfl⟩ := Option.map_eq_some_iff.mp hpx
      have gr := sqt_of (K := K) (sm3 _ _ er)
      refine ⟨_, rfl, r, _, rfl, .inr gr, rfl, _, rfl, ite2 (fun z => ?_) (fun _ => ?_)⟩
      · have z2 : (((((g : Int) :: yk).map V.int).length : Nat) : Int) = 0 := V.int.inj (of_decide_eq_true z)
        rw [List.length_map, List.length_cons] at z2
        omega
      refine ⟨_, rfl, r, _, 0, .int (g : Int), rfl, rfl, gr, atI_nat (j := 0) rfl, _, rfl, D, _, 0, .ref r0, rfl, rfl, gD, at0, r0, _, 0, .int (g : Int), rfl, rfl, gr0 _ sm3, atI_nat (j := 0) rfl, rfl, _, rfl, ite2 (fun z => ?_) (fun _ => ⟨rfl, _, rfl⟩)⟩
      simp at z
    rintro σ H4 ⟨rfl, y8, rfl⟩
    refine ⟨_, rfl, D, _, 0, .ref r0, rfl, rfl, gD, at0, r0, _, 0, .int (g : Int), rfl, rfl, gr0 _ sm3, atI_nat (j := 0) rfl, ?_⟩
    refine ⟨_, rfl, _, rfl, _, _, rfl, rfl, _, rfl, ite2 (fun z => ?_) (fun _ => ?_)⟩
    · have z2 : (g : Int) ≤ (loOf (bl.take i) : Nat) - 1 := of_decide_eq_true z
      omega
    refine ⟨_, rfl, _, rfl, aB, _, rfl, .inr (sqt_of (sm3 _ _ eB)), _, _, rfl, rfl, _, rfl, ite2 (fun z => ?_) (fun _ => ?_)⟩
    · have z2 : (bs.length : Int) ≤ (g : Int) := of_decide_eq_true z
      omega
    refine ⟨_, rfl, _, _, rfl, rfl, _, rfl, _, _, rfl, ⟨by omega, by omega, by omega, by omega⟩, ?_⟩
    have en : ((g : Int) - (((loOf (bl.take i) : Nat) : Int) - 1 + 1)).toNat = g - loOf (bl.take i) := by omega
    rw [en]
    refine for_range (n := g - loOf (bl.take i)) (fun k σ H' => Same H4 H' ∧ ∃ y10 : Option V, σ = [some (.ref aB), some (.ref aS), some (.ref a), some (.int (A : Nat)), some (.int ((loOf (bl.take i) : Nat) - 1 : Int)), some x, some (.int (part.length : Int)), some (.ref D), y8, some (.int (g : Int)), y10]) ⟨.refl _, _, rfl⟩ ?_ ?_
    · rintro k σ H5 hk5 ⟨s5, y10, rfl⟩
      have ej : ((loOf (bl.take i) : Nat) : Int) - 1 + 1 + (k : Int) = ((loOf (bl.take i) + k : Nat) : Int) := by omega
      have gj : bs[loOf (bl.take i) + k]? = some bs[loOf (bl.take i) + k] := List.getElem?_eq_getElem (by omega)
      obtain ⟨bk, hbk, hTb⟩ := pr_get pB gj
      have sm5 := sm3.trans s5
      refine ⟨_, rfl, _, rfl, aB, _, _, bs[loOf (bl.take i) + k], rfl, rfl, sqt_of (sm5 _ _ eB), (by rw [ej]; exact atI_nat gj), _, rfl, bs[loOf (bl.take i) + k], x, n - 1, e, bk, si, rfl, hTb.same sm5, hTi.same sm5, Nat.le_trans (l2 bk (List.mem_of_getElem? hbk)) hlb, by omega, by omega, fun H6 s6 => ⟨_, rfl, ?_⟩⟩
      rw [hoB_f (hno _ bk (by omega) (by omega) hbk)]
      exact iteF ⟨s5.trans s6, _, rfl⟩
    rintro σ H5 ⟨s5, y10, rfl⟩
    have sm5 := sm3.trans s5
    have gg : bs[g]? = some bs[g] := List.getElem?_eq_getElem (by omega)
    obtain ⟨bg, hbg, hTg⟩ := pr_get pB gg
    rw [hgc] at hbg
    cases hbg
    refine ⟨_, rfl, _, rfl, aB, _, (g : Int), bs[g], rfl, rfl, sqt_of (sm5 _ _ eB), atI_nat gg, _, rfl, _, rfl, D, rfl, ⟨_, s5.seq gD⟩, fun D2 hD2 => ?_⟩
    refine lc_list (xs := prs.map V.ref) (fun k H' => Same H5 H' ∧ ∃ qs : List Addr, H' D2 = some (.lst (qs.map V.ref)) ∧ PA H' qs (part.take k)) ⟨same_new hD2 _, [], upd_same, .nil⟩ (fun k H' _ z => z.1.seq (s5.seq gD)) ?_ ?_
    · rintro k y H6 hy ⟨s6, qs, eD2, pq⟩
      obtain ⟨r, hr', rfl⟩ := map_atV hy
      obtain ⟨px, hpx, er⟩ := pr_get pr0 hr'
      rw [List.getElem?_map] at hpx
      obtain ⟨yk, hyk, rfl⟩ := Option.map_eq_some_iff.mp hpx
      have hkl : k < part.length := (List.getElem?_eq_some_iff.mp hyk).1
      have lq : qs.length = k := by rw [pq.length, List.length_take, Nat.min_eq_left (Nat.le_of_lt hkl)]
      refine ⟨rfl, ?_⟩
      refine tYI ?_
      refine ⟨_, rfl, 1, rfl, ?_⟩
      unfold tNoPart
      refine slA (s6 _ _ (sm5 _ _ er)) fun r' H7 s7 f7 => ?_
      rw [cut_one] at f7
      have eD7 := s7 _ _ eD2
      refine ⟨_, eD7, ?_, same_upd (s6.trans s7) hD2 _, qs ++ [r'], ?_, ?_⟩
      · rw [List.length_map, lq]; exact lt_big (by omega)
      · rw [upd_same, List.map_append]; rfl
      · rw [tk1 hyk]
        refine ((pq.same s7).lst eD7 _).snoc ?_
        rw [upd_ne (ne_of f7 eD7 (fun z => nomatch z))]
        exact f7
    · rintro H6 ⟨s6, qs, eD2, pq⟩
      rw [List.length_map, lpr, List.take_length] at pq
      have sm6 := sm5.trans s6
      refine ⟨bs[g], x, D2, qs, n - 1, e, cc, si, part, rfl, hTg.same sm6, hTi.same sm6, SqL.of eD2, pq, hImg, Nat.le_trans (l2 cc (List.mem_of_getElem? hgc)) hlb, by omega, by omega, by omega, fun H7 s7 => ⟨true, rfl, iteF ?_⟩⟩
      refine ⟨_, rfl, _, rfl, _, _, rfl, rfl, _, rfl, sm6.trans s7, some x, some (.int (part.length : Int)), some (.ref D), y8, some (.int (g : Int)), y10, ?_⟩
      have ea1 : ((A : Nat) : Int) + (part.length : Int) = (((flat (bl.take (i + 1))).length : Nat) : Int) := by rw [fb]; omega
      have el1 : (g : Int) = ((loOf (bl.take (i + 1)) : Nat) : Int) - 1 := by rw [tk1 hbl, loOf_snoc]; omega
      rw [← ea1, ← el1]
      rfl
  · rintro σ H1 ⟨sm, y5, y6, y7, y8, y9, y10, rfl⟩
    have ef : bl.take ss.length = bl := List.take_of_length_le (by omega)
    rw [ef]
    refine ⟨_, rfl, _, rfl, a, _, rfl, .inl (sm.seq hS), rfl, ?_⟩
    have e9 : (V.int ((flat bl).length : Nat)) = V.int ((rs.map V.ref).length : Nat) := by rw [List.length_map, hrl]
    rw [decide_eq_true e9]
    exact q H1 sm
theorem least_all {f fP fH : Addr} {fd dP dH : FuncData} (F : Fun K "_law_is_least" "_law_is_least" sLeast f fd) (bG : Binds K fd ["big", "small", "images"] []) (mG : mg "_law_is_least" = some (.ref f))
    (GP : FnOk P w K mg base CX0 21 fP dP ["tree"] (spPaths 21)) (bP : Binds K dP ["tree"] []) (kP : PySem.W.keepIn K (.ref fP) = true) (mP : mg "_law_paths" = some (.ref fP))
    (GH : FnOk P w K mg base CX0 21 fH dH ["big", "small"] (spHolds 21)) (bH : Binds K dH ["big", "small"] []) (kH : PySem.W.keepIn K (.ref fH) = true) (mH : mg "_law_holds" = some (.ref fH))
    (ml : mg "len" = none) (mr : mg "range" = none) : ∀ c, FnOk P w K mg base CX0 (c + 21) f fd ["big", "small", "images"] (spLeast K c)
  | 0 => (neverOk fun vs H Q E h => by
    obtain ⟨v, u, a, rs, n, d, b, t, L, _, _, _, _, _, _, _, _, _, h2, _⟩ := h
    omega).mono (Nat.zero_le _)
  | c + 1 => ok_least F (least_all F bG mG GP bP kP mP GH bH kH mH ml mr c) bG mG GP bP kP mP GH bH kH mH ml mr
end
end K03
set_option Elab.async false
set_option linter.all false
set_option maxRecDepth 100000
set_option maxHeartbeats 4000000
set_option pp.maxSteps 400
set_option pp.deepTerms false
namespace K03
open PySem PySem.Spec PyProof.Rows L2 K11 K21
/-! ### _law_told -/
theorem sd_list {f : Tr → PyData} {N : Nat} (h : ∀ t, (f t).canLay0 = true ∧ (f t).depth ≤ N) : ∀ l : List Tr, PyData.canLayAll0 (l.map f) = true ∧ PyData.depthAll (l.map f) ≤ N
  | [] => ⟨rfl, Nat.zero_le _⟩
  | t :: l => by
    obtain ⟨i1, i2⟩ := sd_list h l
    obtain ⟨h1, h2⟩ := h t
    rw [List.map_cons]
    refine ⟨?_, ?_⟩
    · show ((f t).canLay0 && PyData.canLayAll0 (l.map f)) = true
      rw [h1, i1]; rfl
    · show max (f t).depth (PyData.depthAll (l.map f)) ≤ N
      omega
theorem sd_ok : ∀ (n : Nat) (m : Int) (t : Tr), (SD n m t).canLay0 = true ∧ (SD n m t).depth ≤ n + 1
  | 0, m, t => by
    unfold SD
    by_cases c : m % 2 = 1
    · rw [if_pos c]; exact ⟨rfl, Nat.le_refl _⟩
    · rw [if_neg c]; exact ⟨rfl, Nat.le_refl _⟩
  | n + 1, m, t => by
    obtain ⟨i1, i2⟩ := sd_list (f := SD n (m / 2)) (N := n + 1) (fun t => sd_ok n (m / 2) t) t.kids
    unfold SD
    by_cases c : m % 2 = 1
    · rw [if_pos c]; exact ⟨i1, by show PyData.depthAll _ + 1 ≤ _; omega⟩
    · rw [if_neg c]; exact ⟨i1, by show PyData.depthAll _ + 1 ≤ _; omega⟩
theorem sd_shaped {n : Nat} (h : n ≤ 20) (m : Int) (t : Tr) : PySem.SeqAt.shaped (SD n m t) = true := by
  obtain ⟨h1, h2⟩ := sd_ok n m t
  unfold PySem.SeqAt.shaped
  rw [h1, decide_eq_true (show (SD n m t).depth ≤ 64 by omega)]
  rfl
theorem sd_refl (n : Nat) (m : Int) (t : Tr) : PyData.eqv (SD n m t) (SD n m t) = true := PySem.SeqAt.eqv_refl _ (sd_ok n m t).1
section
variable {P : Program} {w : World} {K : PySem.W.Frag} {mg : Str → Option Value} {base : Heap}
theorem scTold : FnScope ["big", "small", "mode", "due", "one", "other", "told", "path"] ["big", "small", "mode"] (defScope sTold) := ⟨rfl, rfl, rfl, by decide +kernel, rfl, by decide +kernel, by decide +kernel⟩
def spTold : Sp := fun vs H Q _ => ∃ (v u : V) (n d : Nat) (b s : Tr) (m : Int), vs = [v, u, .int m] ∧ TA n H v b ∧ TA d H u s ∧ 0 ≤ m ∧ n ≤ 20 ∧ d ≤ 20 ∧ lv n b ≤ 10000 ∧ lv d s ≤ 10000 ∧ ∀ H', Same H H' → Q (.bl true) H'
theorem ok_told {f fH fS fG fE fI fN fL : Addr} {fd dH dS dG dE dI dN dL : FuncData} (F : Fun K "_law_told" "_law_told" sTold f fd)
    (GH : FnOk P w K mg base CX0 21 fH dH ["big", "small"] (spHolds 21)) (bH : Binds K dH ["big", "small"] []) (kH : PySem.W.keepIn K (.ref fH) = true) (mH : mg "_law_holds" = some (.ref fH))
    (GS : FnOk P w K mg base CX0 21 fS dS ["tree", "mode"] (spShaped 21)) (bS : Binds K dS ["tree", "mode"] []) (kS : PySem.W.keepIn K (.ref fS) = true) (mS : mg "_law_shaped" = some (.ref fS))
    (GG : FnOk P w K mg base CX0 23 fG dG ["big", "small"] spPHolds) (bG : Binds K dG ["big", "small"] []) (kG : PySem.W.keepIn K (.ref fG) = true) (mG : mg "holds" = some (.ref fG))
    (GE : FnOk P w K mg base CX0 23 fE dE ["big", "small"] spPEmb) (bE : Binds K dE ["big", "small"] []) (kE : PySem.W.keepIn K (.ref fE) = true) (mE : mg "embedding" = some (.ref fE))
    (GI : FnOk P w K mg base CX0 1 fI dI ["value", "due"] spIs) (bI : Binds K dI ["value", "due"] []) (kI : PySem.W.keepIn K (.ref fI) = true) (mI : mg "_law_is" = some (.ref fI))
    (GN : FnOk P w K mg base CX0 2 fN dN ["value"] spNumbers) (bN : Binds K dN ["value"] []) (kN : PySem.W.keepIn K (.ref fN) = true) (mN : mg "_law_is_numbers" = some (.ref fN))
    (GL : FnOk P w K mg base CX0 42 fL dL ["big", "small", "images"] (spLeast K 21)) (bL : Binds K dL ["big", "small", "images"] []) (kL : PySem.W.keepIn K (.ref fL) = true) (mL : mg "_law_is_least" = some (.ref fL))
    (mIs : mg "isinstance" = none) (mt : mg "tuple" = none) (mls : mg "list" = none) : FnOk P w K mg base CX0 43 f fd ["big", "small", "mode"] spTold := by
  refine F.ok (k := 42) scTold (fun vs H Q E h => ?_) (fun cdv A outer s H vs Q E hr h => ?_)
  · obtain ⟨v, u, n, d, b, t, m, rfl, _⟩ := h
    rfl
  obtain ⟨v, u, n, d, b, t, m, rfl, hB, hT, hm, hn, hd, hlb, hls, q⟩ := h
  have nd := scTold.nd
  have hu := hr.units
  refine ⟨_, pss_cons (ps_set (i := 3) nd rfl (.inl rfl) (pe_call GH (hr.mono (by decide)) (by rfl) mH kH bH .nil pass0 (pa_cons (pv 0) (pa_cons (pv 1) pa_nil))))
    (pss_cons (ps_set (i := 4) nd rfl (.inl rfl) (pe_call GS (hr.mono (by decide)) (by rfl) mS kS bS .nil pass0 (pa_cons (pv 0) (pa_cons (pv 2) pa_nil))))
    (pss_cons (ps_set (i := 5) nd rfl (.inl rfl) (pe_call GS (hr.mono (by decide)) (by rfl) mS kS bS .nil pass0 (pa_cons (pv 1) (pa_cons (pe_op op_fdiv (pv 2) pe_int) pa_nil))))
    (pss_cons (ps_if (pt_not (pt_val (pe_call GI (hr.mono (by decide)) (by rfl) mI kI bI .nil pass0 (pa_cons (pe_call GG (hr.mono (by decide)) (by rfl) mG kG bG .nil pass0 (pa_cons (pv 4) (pa_cons (pv 5) pa_nil))) (pa_cons (pv 3) pa_nil))))) (pss_one (ps_ret pe_bl)) pss_nil)
    (C8.pss_cut (ps_set (i := 6) nd rfl (.inl rfl) (pe_call GE (hr.mono (by decide)) (by rfl) mE kE bE .nil pass0 (pa_cons (pv 4) (pa_cons (pv 5) pa_nil))))
    (pss_cons (ps_if (PW.pt (pw_or (pt_cmpR (op_neD hu) (pv 4) (pe_call GS (hr.mono (by decide)) (by rfl) mS kS bS .nil pass0 (pa_cons (pv 0) (pa_cons (pv 2) pa_nil))) (nomark _)) (pw_or1 (pt_cmpR (op_neD hu) (pv 5) (pe_call GS (hr.mono (by decide)) (by rfl) mS kS bS .nil pass0 (pa_cons (pv 1) (pa_cons (pe_op op_fdiv (pv 2) pe_int) pa_nil))) (nomark _))))) (pss_one (ps_ret pe_bl)) pss_nil)
    (pss_cons (ps_if (pt_not (pt_truth (pv 3) (by intro _; rfl))) (pss_one (ps_ret (pe_cmp (pc_isN (pv 6))))) pss_nil)
    (pss_cons (ps_if (pt_not (pt_val (pe_callB call_isi (by rfl) mIs boot_isinstance (pa_cons (pv 6) (pa_cons (pe_bltn (v := .ty "tuple") (by rfl) mt PyProof.Rows.boot_tuple rfl) pa_nil))))) (pss_one (ps_ret pe_bl)) pss_nil)
    (pss_cons (ps_for PassesOwn.never rfl (pi_tup (pv 6)) (pg_name (i := 7) nd rfl (.inl rfl))
      (pss_one (ps_if (pt_not (pt_val (pe_call GN (hr.mono (by decide)) (by rfl) mN kN bN .nil pass0 (pa_cons (pv 7) pa_nil)))) (pss_one (ps_ret pe_bl)) pss_nil)))
    (pss_one (ps_ret (pe_call GL hr (by rfl) mL kL bL .nil pass0 (pa_cons (pv 0) (pa_cons (pv 1) (pa_cons (pe_callTy call_list_of (by rfl) mls PyProof.Rows.boot_list (pa_cons (pv 6) pa_nil)) pa_nil)))))))))))))), ?_⟩
  refine ⟨_, rfl, _, rfl, v, u, n, d, b, t, rfl, hB, hT, hlb, hls, by omega, fun H1 s1 => ?_⟩
  refine ⟨_, rfl, _, rfl, v, n, m, b, rfl, hB.same s1, hm, hlb, by omega, fun o1 H2 s2 hO1 => ?_⟩
  have dv : CDiv m 2 := by show (0 : Int) < 2 ∧ (2 : Int) < 1073741824; decide
  have hm2 : 0 ≤ m / 2 := by omega
  have t2 := s1.trans s2
  refine ⟨_, rfl, _, rfl, _, _, rfl, rfl, dv, u, d, m / 2, t, rfl, hT.same t2, hm2, hls, by omega, fun o2 H3 s3 hO2 => ?_⟩
  have t3 := t2.trans s3
  have hO1' := hO1.step (F' := fun _ => True) (H' := H3) fun a o _ e => ⟨True.intro, s3 _ _ e⟩
  have hO2' := hO2.step (F' := fun _ => True) (H' := H3) fun a o _ e => ⟨True.intro, e⟩
  clear hO1 hO2
  refine ⟨_, rfl, _, rfl, o1, o2, n, d, b, t, rfl, hO1'.ts, hO2'.ts, hlb, hls, by omega, fun H4 s4 => ⟨_, rfl, hoB d b t, rfl, true, rfl, iteF ?_⟩⟩
  have keepM : ∀ {H' : Hp} {k : Nat} {mm : Int} {vv : V} {tt : Tr}, Same H3 H' → TM (fun _ => True) k mm H3 vv tt → TM (fun _ => True) k mm H' vv tt := fun s h => h.step fun a o _ e => ⟨True.intro, s _ _ e⟩
  refine ⟨fun σ' H' => Same H3 H' ∧ ∃ told : V, σ' = [some v, some u, some (.int m), some (.bl (hoB d b t)), some o1, some o2, some told, Option.none] ∧ ((¬ Ho d b t ∧ told = .non) ∨ ∃ (L : List (List Int)) (o : Addr) (rs : List Addr), Img d b t L ∧ told = .ref o ∧ H' o = some (.tup (rs.map V.ref)) ∧ PA H' rs L), ?_, ?_⟩
  · exact ⟨_, rfl, _, rfl, o1, o2, n, d, b, t, rfl, (keepM s4 hO1').ts, (keepM s4 hO2').ts, hlb, hls, by omega, fun hno H5 s5 => ⟨s4.trans s5, _, rfl, .inl ⟨hno, rfl⟩⟩, fun L o rs H5 hL s5 eo pa => ⟨s4.trans s5, _, rfl, .inr ⟨L, o, rs, hL, rfl, eo, pa⟩⟩⟩
  rintro σ' H5 ⟨s5, told, rfl, hcase⟩
  have t5 := t3.trans s5
  refine ⟨_, rfl, _, rfl, _, rfl, v, n, m, b, rfl, hB.same t5, hm, hlb, by omega, fun o3 H6 s6 hO3 => ?_⟩
  refine ⟨SD n m b, SD n m b, (keepM (s5.trans s6) hO1').dp, hO3.dp, sd_shaped hn m b, sd_shaped hn m b, _, rfl, ite2 (fun z => ?_) (fun _ => ?_)⟩
  · rw [sd_refl] at z; cases z
  refine ⟨_, rfl, _, rfl, _, rfl, _, _, rfl, rfl, dv, u, d, m / 2, t, rfl, hT.same (t5.trans s6), hm2, hls, by omega, fun o4 H7 s7 hO4 => ?_⟩
  refine ⟨SD d (m / 2) t, SD d (m / 2) t, (keepM (s5.trans (s6.trans s7)) hO2').dp, hO4.dp, sd_shaped hd _ t, sd_shaped hd _ t, _, rfl, ite2 (fun z => ?_) (fun _ => ?_)⟩
  · rw [sd_refl] at z; cases z
  have t7 := t5.trans (s6.trans s7)
  have s67 := s6.trans s7
  rcases hcase with ⟨hno, rfl⟩ | ⟨L, o, rs, hL, rfl, eo, pa⟩
  · refine ⟨_, rfl, false, (hoB_f hno).symm ▸ rfl, iteT ?_⟩
    exact ⟨_, rfl, q _ t7⟩
  · have hyes := hoB_t (Img.ho d b t L hL)
    refine ⟨_, rfl, true, hyes.symm ▸ rfl, iteF ?_⟩
    have eo7 := s67 _ _ eo
    have pa7 := pa.same s67
    refine ⟨_, rfl, _, _, _, _, true, rfl, .ty "tuple", .base (.tup eo7), kit_ty (by decide +kernel), true, rfl, iteF ?_⟩
    refine ⟨_, rfl, o, rfl, ⟨_, sqt_of eo7⟩, for_tup (xs := rs.map V.ref) (fun i σ H' => H' = H7 ∧ ∃ y : Option V, σ = [some v, some u, some (.int m), some (.bl (hoB d b t)), some o1, some o2, some (.ref o), y]) ⟨rfl, _, rfl⟩ (fun i σ H' _ z => by rw [z.1]; exact sqt_of eo7) ?_ ?_⟩
    · rintro i y σ H8 hy ⟨rfl, z, rfl⟩
      obtain ⟨r, hr', rfl⟩ := map_atV hy
      obtain ⟨x, _, ex⟩ := pr_get pa7 hr'
      exact ⟨_, rfl, r, x, rfl, ex, true, rfl, iteF ⟨rfl, _, rfl⟩⟩
    · rintro σ H8 ⟨rfl, z, rfl⟩
      refine ⟨_, rfl, _, rfl, _, rfl, o, _, rfl, .inr (sqt_of eo7), fun l hl => ?_⟩
      have sl := same_new hl (.lst (rs.map V.ref))
      have t8 := t7.trans sl
      exact ⟨v, u, l, rs, n, d, b, t, L, rfl, hB.same t8, hT.same t8, SqL.of upd_same, pa7.same sl, hL, hlb, hls, by omega, by omega, fun H9 s9 => q _ (t8.trans s9)⟩
end
end K03
set_option Elab.async false
set_option linter.all false
set_option maxRecDepth 100000
set_option maxHeartbeats 4000000
set_option pp.maxSteps 400
set_option pp.deepTerms false
namespace K03
open PySem PySem.Spec PyProof.Rows L2 K11 K21
/-! ### _law_large_pair -/
theorem dg_nn : ∀ {ds ss : List Int}, Dg ds ss → ∀ d ∈ ds, 0 ≤ d
  | [], [], _, d, hd => nomatch hd
  | x :: ds, y :: ss, h, d, hd => by
    rcases List.mem_cons.mp hd with rfl | hd
    · exact h.1.1
    · exact dg_nn h.2 d hd
  | [], _ :: _, h, _, _ => h.elim
  | _ :: _, [], h, _, _ => h.elim
theorem but_same {H H1 H2 : Hp} {p : Addr} (hp : H p = none) (s : Same H H1) (b : But p H1 H2) : Same H H2 := fun c o e => b c o (ne_of_none e hp) (s c o e)
section
variable {P : Program} {w : World} {K : PySem.W.Frag} {mg : Str → Option Value} {base : Heap}
abbrev nLP : List Str := ["script", "at", "head", "big", "wide", "pool", "small", "paths", "j", "digit"]
theorem scLP : FnScope nLP ["script", "at"] (defScope sLargePair) := ⟨rfl, rfl, rfl, by decide +kernel, rfl, by decide +kernel, by decide +kernel⟩
def spPairs (K : PySem.W.Frag) : Sp := fun vs H Q _ => ∃ (a : Addr) (ns : List Int) (at' : Nat), vs = [.ref a, .int (at' : Int)] ∧ SqL K H a (ns.map V.int) ∧ ns.length ≤ 63 ∧ at' ≤ 100 ∧
  ∀ (l : Addr) (v u : V) (b s : Tr) H', Same H H' → H' l = some (.lst [v, u]) → TA 16 H' v b → TA 16 H' u s → lv 16 b ≤ 10000 → lv 16 s ≤ 10000 → Q (.ref l) H'
theorem ok_lp {f fC fD fG fT fP fW : Addr} {fd dC dD dG dT dP dW : FuncData} (F : Fun K "_law_large_pair" "_law_large_pair" sLargePair f fd)
    (GC : FnOk P w K mg base CX0 1 fC dC ["script", "k"] (K21.spCell K)) (bC : Binds K dC ["script", "k"] []) (kC : PySem.W.keepIn K (.ref fC) = true) (mC : mg "_law_cell" = some (.ref fC))
    (GD : FnOk P w K mg base CX0 1 fD dD ["cell", "sizes"] (spDigits K)) (bD : Binds K dD ["cell", "sizes"] []) (kD : PySem.W.keepIn K (.ref fD) = true) (mD : mg "_law_digits" = some (.ref fD))
    (GG : FnOk P w K mg base CX0 2 fG dG ["script", "at"] (spLarge K)) (bG : Binds K dG ["script", "at"] []) (kG : PySem.W.keepIn K (.ref fG) = true) (mG : mg "_law_large" = some (.ref fG))
    (GT : FnOk P w K mg base CX0 21 fT dT ["tree", "pool"] (spThinned 21)) (bT : Binds K dT ["tree", "pool"] []) (kT : PySem.W.keepIn K (.ref fT) = true) (mT : mg "_law_thinned" = some (.ref fT))
    (GP : FnOk P w K mg base CX0 21 fP dP ["tree"] (spPaths 21)) (bP : Binds K dP ["tree"] []) (kP : PySem.W.keepIn K (.ref fP) = true) (mP : mg "_law_paths" = some (.ref fP))
    (GW : FnOk P w K mg base CX0 21 fW dW ["tree", "path"] (spWithout 21)) (bW : Binds K dW ["tree", "path"] []) (kW : PySem.W.keepIn K (.ref fW) = true) (mW : mg "_law_without" = some (.ref fW))
    (ml : mg "len" = none) (mr : mg "range" = none) (mi : mg "int" = none) : FnOk P w K mg base CX0 22 f fd ["script", "at"] (spPairs K) := by
  refine F.ok (k := 21) scLP (fun vs H Q E h => ?_) (fun cdv A outer s H vs Q E hr h => ?_)
  · obtain ⟨a, ns, at', rfl, _⟩ := h
    rfl
  obtain ⟨a, ns, at', rfl, hS, hl, hat, q⟩ := h
  have nd := scLP.nd
  refine ⟨_, pss_cons (ps_set (i := 2) nd rfl (.inl rfl) (pe_call GD (hr.mono (by decide)) (by rfl) mD kD bD .nil pass0 (pa_cons (pe_call GC (hr.mono (by decide)) (by rfl) mC kC bC .nil pass0 (pa_cons (pv 0) (pa_cons (pv 1) pa_nil)))
      (pa_cons (pe_lst (pa_cons pe_int (pa_cons pe_int (pa_cons pe_int pa_nil)))) pa_nil))))
    (pss_cons (ps_set (i := 3) nd rfl (.inl rfl) (pe_call GG (hr.mono (by decide)) (by rfl) mG kG bG .nil pass0 (pa_cons (pv 0) (pa_cons (pe_op op_add (pv 1) pe_int) pa_nil))))
    (pss_cons (ps_if (pt_cmpR op_eq (pe_ix ix_list (pv 2) pe_int (fun _ _ => rfl)) pe_int (nomark _)) (pss_one (ps_ret (pe_lst (pa_cons (pv 3) (pa_cons (pe_call GG (hr.mono (by decide)) (by rfl) mG kG bG .nil pass0 (pa_cons (pv 0) (pa_cons (pe_op op_add (pv 1) pe_int) pa_nil))) pa_nil))))) pss_nil)
    (pss_cons (ps_if (pt_cmpR op_eq (pe_ix ix_list (pv 2) pe_int (fun _ _ => rfl)) pe_int (nomark _)) (pss_one (ps_ret (pe_lst (pa_cons (pv 3) (pa_cons (pv 3) pa_nil))))) pss_nil)
    (pss_cons (ps_set (i := 4) nd rfl (.inr rfl) (pe_ix ix_list (pe_lst (pa_cons pe_int (pa_cons pe_int (pa_cons pe_int pa_nil)))) (pe_ix ix_list (pv 2) pe_int (fun _ _ => rfl)) (fun _ _ => rfl)))
    (pss_cons (ps_set (i := 5) nd rfl (.inl rfl) (pe_call GD (hr.mono (by decide)) (by rfl) mD kD bD .nil pass0 (pa_cons (pe_call GC (hr.mono (by decide)) (by rfl) mC kC bC .nil pass0 (pa_cons (pv 0) (pa_cons (pe_op op_add (pv 1) pe_int) pa_nil)))
      (pa_cons (pe_lc (own := [("j", 8)]) (g := gName 8) (tt := tYes) rfl nd (pi_range1 rfl mr (pa_cons pe_int pa_nil)) (blkOk_by (N := nLP) (sc := defScope sLargePair) (by decide +kernel)) (fun _ _ _ _ _ => pg_name (i := 8) nd rfl (Or.inl rfl)) (fun _ _ _ _ _ => pts_nil) (fun _ _ _ _ _ => pe_int)) pa_nil))))
    (pss_cons (ps_set (i := 5) nd rfl (.inl rfl) (pe_op op_cat (pv 5) (pe_call GD (hr.mono (by decide)) (by rfl) mD kD bD .nil pass0 (pa_cons (pe_call GC (hr.mono (by decide)) (by rfl) mC kC bC .nil pass0 (pa_cons (pv 0) (pa_cons (pe_op op_add (pv 1) pe_int) pa_nil)))
      (pa_cons (pe_lc (own := [("j", 8)]) (g := gName 8) (tt := tYes) rfl nd (pi_range1 rfl mr (pa_cons pe_int pa_nil)) (blkOk_by (N := nLP) (sc := defScope sLargePair) (by decide +kernel)) (fun _ _ _ _ _ => pg_name (i := 8) nd rfl (Or.inl rfl)) (fun _ _ _ _ _ => pts_nil) (fun _ _ _ _ _ => pe_int)) pa_nil)))))
    (pss_cons (ps_set (i := 6) nd rfl (.inl rfl) (pe_call GT hr (by rfl) mT kT bT .nil pass0 (pa_cons (pv 3) (pa_cons (pe_op op_rep (pe_lc (own := [("digit", 9)]) (g := gName 9) (tt := tYes) rfl nd (pi_list (pv 5)) (blkOk_by (N := nLP) (sc := defScope sLargePair) (by decide +kernel))
        (fun _ _ _ _ _ => pg_name (i := 9) nd rfl (Or.inl rfl)) (fun _ _ _ _ _ => pts_nil) (fun _ _ _ _ _ => pe_op op_mod (pe_callTy call_int1 (by rfl) mi PyProof.Rows.boot_int (pa_cons (pv 9) pa_nil)) (pv 4))) pe_int) pa_nil))))
    (C8.pss_cut (ps_if (pt_cmpR op_lt (pe_ix ix_list (pv 2) pe_int (fun _ _ => rfl)) pe_int (nomark _))
      (pss_cons (ps_set (i := 7) nd rfl (.inl rfl) (pe_call GP hr (by rfl) mP kP bP .nil pass0 (pa_cons (pv 3) pa_nil)))
      (pss_one (ps_set (i := 3) nd rfl (.inl rfl) (pe_call GW hr (by rfl) mW kW bW .nil pass0 (pa_cons (pv 3) (pa_cons (pe_ix ix_list (pv 7) (pe_op op_mod (pe_callTy call_int1 (by rfl) mi PyProof.Rows.boot_int (pa_cons (pe_ix ix_list (pv 2) pe_int (fun _ _ => rfl)) pa_nil)) (pe_callB call_len_seq (by rfl) ml PySem.boot_len (pa_cons (pv 7) pa_nil))) (fun _ _ => rfl)) pa_nil)))))) pss_nil)
    (pss_one (ps_ret (pe_lst (pa_cons (pv 3) (pa_cons (pv 6) pa_nil))))))))))))), ?_⟩
  refine ⟨_, rfl, _, rfl, a, ns, at', rfl, hS, hl, by omega, fun z => ⟨three_le, fun l hl' => ?_⟩⟩
  have s1 : Same H (upd H l (.lst (([6, 3, 600] : List Int).map V.int))) := same_new hl' _
  refine ⟨z, l, [6, 3, 600], rfl, SqL.of upd_same, by decide, by decide, fun p ds H1 s2 ep hd => ?_⟩
  obtain ⟨d0, r0, rfl, b0, hd⟩ := hd.cons
  obtain ⟨d1, r1, rfl, b1, hd⟩ := hd.cons
  obtain ⟨d2, r2, rfl, b2, hd⟩ := hd.cons
  cases hd.nil
  have sA := s1.trans s2
  have gp : SqL K H1 p (([d0, d1, d2] : List Int).map V.int) := SqL.of ep
  refine ⟨_, rfl, _, rfl, _, _, rfl, rfl, a, ns, at' + 3, congrArg (fun z => [V.ref a, V.int z]) (show (at' : Int) + 3 = ((at' + 3 : Nat) : Int) by omega), sA.seq hS, hl, by omega, fun u1 t1 H2 s2 hT1 hl1 => ?_⟩
  have sB := sA.trans s2
  have gp2 := s2.seq gp
  have up : ∀ {H' : Hp} {v : V} {t : Tr}, TA 12 H' v t → TA 16 H' v t := fun h => TA.up (by decide) h
  have upl : ∀ {H' : Hp} {v : V} {t : Tr}, TA 12 H' v t → lv 12 t ≤ 4000 → lv 16 t ≤ 10000 := fun h g => by rw [lv_up (show 12 ≤ 16 by decide) h.hb]; omega
  refine ⟨_, rfl, p, _, 0, .int d0, rfl, rfl, gp2, atI_nat (j := 0) rfl, rfl, _, rfl, ite2 (fun _ => ?_) (fun _ => ?_)⟩
  · refine ⟨_, rfl, _, rfl, _, rfl, _, _, rfl, rfl, a, ns, at' + 24, congrArg (fun z => [V.ref a, V.int z]) (show (at' : Int) + 24 = ((at' + 24 : Nat) : Int) by omega), sB.seq hS, hl, by omega, fun u2 t2 H3 s3 hT2 hl2 => ⟨two_le, fun L hL => ?_⟩⟩
    have sL := same_new hL (.lst [V.ref u1, V.ref u2])
    exact q L _ _ t1 t2 _ (sB.trans (s3.trans sL)) upd_same (up ((hT1.same s3).same sL)) (up (hT2.same sL)) (upl hT1 hl1) (upl hT2 hl2)
  refine ⟨_, rfl, p, _, 0, .int d0, rfl, rfl, gp2, atI_nat (j := 0) rfl, rfl, _, rfl, ite2 (fun _ => ?_) (fun _ => ?_)⟩
  · refine ⟨_, rfl, _, rfl, two_le, fun L hL => ?_⟩
    have sL := same_new hL (.lst [V.ref u1, V.ref u1])
    exact q L _ _ t1 t1 _ (sB.trans sL) upd_same (up (hT1.same sL)) (up (hT1.same sL)) (upl hT1 hl1) (upl hT1 hl1)
  obtain ⟨wv, hwv, mwv⟩ := idx_int (ns := [8, 40, 200]) (d := d1) b1.1 b1.2
  have hwp : 0 < wv := by
    simp only [List.mem_cons, List.not_mem_nil, or_false] at mwv
    omega
  refine ⟨three_le, fun l3 hl3 => ⟨_, rfl, p, _, 1, .int d1, rfl, rfl, (same_new hl3 _).seq gp2, atI_nat (j := 1) rfl, l3, _, d1, .int wv, rfl, rfl, SqL.of upd_same, hwv, ?_⟩⟩
  have s3 := same_new hl3 (.lst [V.int 8, V.int 40, V.int 200])
  generalize upd H2 l3 (.lst [V.int 8, V.int 40, V.int 200]) = H3 at s3
  have sC := sB.trans s3
  refine ⟨_, rfl, _, rfl, _, _, rfl, rfl, a, ns, at' + 1, congrArg (fun z => [V.ref a, V.int z]) (show (at' : Int) + 1 = ((at' + 1 : Nat) : Int) by omega), sC.seq hS, hl, by omega, fun z4 => ⟨60, rfl, by omega, by omega, fun DA hDA => ?_⟩⟩
  refine lc_range (n := 60) (fun k H' => Same H3 H' ∧ H' DA = some (.lst ((List.replicate k (200 : Int)).map V.int))) ⟨same_new hDA _, upd_same⟩ (by
    rintro k Hk hk ⟨sk, ek⟩
    refine ⟨rfl, ?_⟩
    show ∃ acc, Hk DA = some (.lst acc) ∧ acc.length < sizeLine ∧ _
    refine ⟨_, ek, ?_, same_upd sk hDA _, ?_⟩
    · rw [List.length_map, List.length_replicate]; exact lt_big (by omega)
    · rw [upd_same, List.replicate_succ', List.map_append]; rfl) ?_
  rintro Hk ⟨sk, ek⟩
  refine ⟨z4, DA, List.replicate 60 200, rfl, SqL.of ek, by rw [List.length_replicate]; omega, fun x hx => (by rw [List.eq_of_mem_replicate hx]; decide), fun pA dsA H4 so hdpA hdg => ?_⟩
  have s4 := sk.trans so
  have nnpA := dg_nn hdg
  have lnpA := hdg.len
  rw [List.length_replicate] at lnpA
  clear sk ek so hdg
  have sD := sC.trans s4
  refine ⟨_, rfl, _, rfl, _, rfl, _, _, rfl, rfl, a, ns, at' + 2, congrArg (fun z => [V.ref a, V.int z]) (show (at' : Int) + 2 = ((at' + 2 : Nat) : Int) by omega), sD.seq hS, hl, by omega, fun z5 => ⟨60, rfl, by omega, by omega, fun DB hDB => ?_⟩⟩
  refine lc_range (n := 60) (fun k H' => Same H4 H' ∧ H' DB = some (.lst ((List.replicate k (200 : Int)).map V.int))) ⟨same_new hDB _, upd_same⟩ (by
    rintro k Hk hk ⟨sk, ek⟩
    refine ⟨rfl, ?_⟩
    show ∃ acc, Hk DB = some (.lst acc) ∧ acc.length < sizeLine ∧ _
    refine ⟨_, ek, ?_, same_upd sk hDB _, ?_⟩
    · rw [List.length_map, List.length_replicate]; exact lt_big (by omega)
    · rw [upd_same, List.replicate_succ', List.map_append]; rfl) ?_
  rintro Hk ⟨sk, ek⟩
  refine ⟨z5, DB, List.replicate 60 200, rfl, SqL.of ek, by rw [List.length_replicate]; omega, fun x hx => (by rw [List.eq_of_mem_replicate hx]; decide), fun pB dsB H5 so hdpB hdg => ?_⟩
  have s5 := sk.trans so
  have nnpB := dg_nn hdg
  have lnpB := hdg.len
  rw [List.length_replicate] at lnpB
  clear sk ek so hdg
  refine ⟨pA, pB, _, _, rfl, rfl, s5 _ _ hdpA, hdpB, by rw [List.length_map, List.length_map]; exact le_big (by omega), fun p6 hp6 => ?_⟩
  have e6 : upd H5 p6 (.lst (dsA.map V.int ++ dsB.map V.int)) p6 = some (.lst ((dsA ++ dsB).map V.int)) := by rw [upd_same, List.map_append]
  have s6 := same_new hp6 (.lst (dsA.map V.int ++ dsB.map V.int))
  have sE := sD.trans (s5.trans s6)
  have t36 := s4.trans (s5.trans s6)
  generalize upd H5 p6 (.lst (dsA.map V.int ++ dsB.map V.int)) = H6 at e6 s6 sE t36
  have t26 := s3.trans t36
  refine ⟨_, rfl, _, rfl, p6, rfl, ⟨_, SqL.of e6⟩, fun D hD => ?_⟩
  refine lc_list (xs := (dsA ++ dsB).map V.int) (fun k H' => Same H6 H' ∧ ∃ out : List Int, H' D = some (.lst (out.map V.int)) ∧ out.length = k) ⟨same_new hD _, [], upd_same, rfl⟩ (fun k H' _ z => SqL.of (z.1 _ _ e6)) (by
    rintro k x Hk hx ⟨sk, out, ek, lo⟩
    obtain ⟨v, hv, rfl⟩ := map_at hx
    have hk := (List.getElem?_eq_some_iff.mp hv).1
    rw [List.length_append] at hk
    refine ⟨rfl, ?_⟩
    refine tYI ?_
    refine ⟨_, rfl, .inl ⟨_, rfl, _, rfl, _, _, rfl, rfl, hwp, _, ek, ?_, same_upd sk hD _, out ++ [v % wv], ?_, ?_⟩⟩
    · rw [List.length_map, lo]; exact lt_big (by omega)
    · rw [upd_same, List.map_append]; rfl
    · rw [List.length_append, lo]; rfl) ?_
  rintro H7 ⟨s7, out, e7, lo⟩
  rw [List.length_map, List.length_append] at lo
  refine ⟨D, 5, _, rfl, rfl, e7, by omega, by omega, by rw [List.length_map]; exact le_big (by show out.length * 5 ≤ 1000000; omega), fun p7 hp7 => ?_⟩
  have e8 : upd H7 p7 (.lst (List.replicate (5 : Int).toNat (out.map V.int)).flatten) p7 = some (.lst (((List.replicate (5 : Int).toNat out).flatten).map V.int)) := by rw [upd_same, List.map_flatten, List.map_replicate]
  have s8 := same_new hp7 (.lst (List.replicate (5 : Int).toNat (out.map V.int)).flatten)
  generalize upd H7 p7 (.lst (List.replicate (5 : Int).toNat (out.map V.int)).flatten) = H8 at e8 s8
  have t28 := t26.trans (s7.trans s8)
  refine ⟨.ref u1, p7, _, 12, t1, rfl, hT1.same t28, e8, by omega, by omega, fun u3 t3 ds9 H9 b9 ea9 hT3 hl3 => ?_⟩
  have s69 : Same H7 H9 := but_same hp7 s8 b9
  have t29 := t26.trans (s7.trans s69)
  have sF := sB.trans t29
  have gp9 := t29.seq gp2
  have hT19 := hT1.same t29
  refine ⟨fun σ' H' => Same H H' ∧ ∃ (vb : V) (tb : Tr) (y7 : Option V), σ' = [some (.ref a), some (.int (at' : Int)), some (.ref p), some vb, some (.int wv), some (.ref p6), some (.ref u3), y7, Option.none, Option.none] ∧ TA 12 H' vb tb ∧ lv 12 tb ≤ 4000 ∧ TA 12 H' (.ref u3) t3, ?_, ?_⟩
  · refine ⟨_, rfl, p, _, 0, .int d0, rfl, rfl, gp9, atI_nat (j := 0) rfl, _, _, rfl, rfl, _, rfl, ite2 (fun _ => ?_) (fun _ => ?_)⟩
    · refine ⟨_, rfl, .ref u1, 12, t1, rfl, hT19, by omega, by omega, by omega, fun p10 ps10 H10 s10 _ hP10 hl10 hx10 => ?_⟩
      obtain ⟨rs, er, pa⟩ := hP10
      have lrs : rs.length = lv 12 t1 := by rw [pa.length, hl10]
      have hpos := lv_pos 12 t1
      have v0 := Int.emod_nonneg d2 (show ((rs.map V.ref).length : Int) ≠ 0 by rw [List.length_map]; omega)
      have v1 := Int.emod_lt_of_pos d2 (show (0 : Int) < ((rs.map V.ref).length : Int) by rw [List.length_map]; omega)
      generalize hm : d2 % ((rs.map V.ref).length : Int) = m at v0 v1
      rw [List.length_map] at v1
      obtain ⟨i, rfl⟩ : ∃ i : Nat, m = (i : Int) := ⟨m.toNat, by omega⟩
      have gi : rs[i]? = some rs[i] := List.getElem?_eq_getElem (by omega)
      obtain ⟨x, hx, ex⟩ := pr_get pa gi
      refine ⟨_, rfl, _, rfl, _, rfl, p, _, 2, .int d2, rfl, rfl, s10.seq gp9, atI_nat (j := 2) rfl, .inl ⟨_, rfl, _, rfl, p10, _, rfl, .inl (SqL.of er), _, _, rfl, rfl, (by show (0 : Int) < ((rs.map V.ref).length : Int); rw [List.length_map]; omega), p10, _, _, .ref rs[i], rfl, rfl, SqL.of er, (by rw [hm]; exact atI_nat (by rw [List.getElem?_map, gi]; rfl)), ?_⟩⟩
      refine ⟨.ref u1, rs[i], x, 12, t1, rfl, hT19.same s10, ex, (hx10 x (List.mem_of_getElem? hx)).2, by omega, by omega, fun u t' H11 s11 hT' hl' => ?_⟩
      exact ⟨sF.trans (s10.trans s11), u, t', _, rfl, hT', by omega, hT3.same (s10.trans s11)⟩
    · exact ⟨sF, _, t1, _, rfl, hT19, hl1, hT3⟩
  rintro σ' H10 ⟨sG, vb, tb, y7, rfl, hTb, hlb, hT3'⟩
  refine ⟨_, rfl, _, rfl, two_le, fun L hL => ?_⟩
  have sL := same_new hL (.lst [vb, V.ref u3])
  exact q L _ _ tb t3 _ (sG.trans sL) upd_same (up (hTb.same sL)) (up (hT3'.same sL)) (upl hTb hlb) (upl hT3' (by omega))
end
end K03
set_option Elab.async false
set_option linter.all false
set_option maxRecDepth 100000
set_option maxHeartbeats 4000000
set_option pp.maxSteps 400
set_option pp.deepTerms false
namespace K03
open PySem PySem.Spec PyProof.Rows L2 K11 K21
/-! ### _law_pair -/
theorem step_sum {d : Int} : ∀ (r : List Int) (st : List (List Int) × List Int), ((r.foldl (stepP d) st).1.map fun p => p.length + 1).sum + (r.foldl (stepP d) st).2.length = (st.1.map fun p => p.length + 1).sum + st.2.length + r.length
  | [], st => rfl
  | x :: r, st => by
    rw [List.foldl_cons, step_sum r, List.length_cons]
    unfold stepP
    by_cases h : x = d
    · rw [if_pos h]
      simp
      omega
    · rw [if_neg h]
      simp
      omega
theorem parts_sum (d : Int) (row : List Int) : ((partsOf d row).map fun p => p.length + 1).sum = row.length + 1 := by
  have h := step_sum (d := d) row ([], [])
  unfold partsOf
  rw [List.map_append, List.sum_append]
  simp at h ⊢
  omega
theorem lv_tree : ∀ (d : Nat) (row : List Int), lv d (treeOf d row) ≤ row.length + 1
  | 0, _ => by unfold lv; omega
  | d + 1, row => by
    unfold lv
    by_cases hts : (treeOf (d + 1) row).kids = []
    · rw [if_pos hts]; omega
    · rw [if_neg hts]
      show (((partsOf ((d + 1 : Nat) : Int) row).map (treeOf d)).map (lv d)).sum ≤ row.length + 1
      rw [List.map_map, ← parts_sum ((d + 1 : Nat) : Int) row]
      exact sum_le_sum _ _ _ fun p _ => lv_tree d p
section
variable {P : Program} {w : World} {K : PySem.W.Frag} {mg : Str → Option Value} {base : Heap}
abbrev nPair : List Str := ["script", "at", "head", "highest", "bits", "small", "digits", "row", "wide", "big", "paths", "k", "digit"]
theorem scPair : FnScope nPair ["script", "at"] (defScope sPair) := ⟨rfl, rfl, rfl, by decide +kernel, rfl, by decide +kernel, by decide +kernel⟩
theorem ok_pair {f fC fD fO fT fX fP fW : Addr} {fd dC dD dO dT dX dP dW : FuncData} (F : Fun K "_law_pair" "_law_pair" sPair f fd)
    (GC : FnOk P w K mg base CX0 1 fC dC ["script", "k"] (K21.spCell K)) (bC : Binds K dC ["script", "k"] []) (kC : PySem.W.keepIn K (.ref fC) = true) (mC : mg "_law_cell" = some (.ref fC))
    (GD : FnOk P w K mg base CX0 1 fD dD ["cell", "sizes"] (spDigits K)) (bD : Binds K dD ["cell", "sizes"] []) (kD : PySem.W.keepIn K (.ref fD) = true) (mD : mg "_law_digits" = some (.ref fD))
    (GO : FnOk P w K mg base CX0 1 fO dO ["digits", "highest"] (spLoose K)) (bO : Binds K dO ["digits", "highest"] []) (kO : PySem.W.keepIn K (.ref fO) = true) (mO : mg "_law_loose" = some (.ref fO))
    (GT : FnOk P w K mg base CX0 4 fT dT ["row", "depth"] (spTreeL K 4)) (bT : Binds K dT ["row", "depth"] []) (kT : PySem.W.keepIn K (.ref fT) = true) (mT : mg "_law_tree" = some (.ref fT))
    (GX : FnOk P w K mg base CX0 22 fX dX ["tree", "pool"] (spWidened 21)) (bX : Binds K dX ["tree", "pool"] []) (kX : PySem.W.keepIn K (.ref fX) = true) (mX : mg "_law_widened" = some (.ref fX))
    (GP : FnOk P w K mg base CX0 21 fP dP ["tree"] (spPaths 21)) (bP : Binds K dP ["tree"] []) (kP : PySem.W.keepIn K (.ref fP) = true) (mP : mg "_law_paths" = some (.ref fP))
    (GW : FnOk P w K mg base CX0 21 fW dW ["tree", "path"] (spWithout 21)) (bW : Binds K dW ["tree", "path"] []) (kW : PySem.W.keepIn K (.ref fW) = true) (mW : mg "_law_without" = some (.ref fW))
    (ml : mg "len" = none) (mr : mg "range" = none) (mi : mg "int" = none) : FnOk P w K mg base CX0 23 f fd ["script", "at"] (spPairs K) := by
  refine F.ok (k := 22) scPair (fun vs H Q E h => ?_) (fun cdv A outer s H vs Q E hr h => ?_)
  · obtain ⟨a, ns, at', rfl, _⟩ := h
    rfl
  obtain ⟨a, ns, at', rfl, hS, hl, hat, q⟩ := h
  have nd := scPair.nd
  refine ⟨_, pss_cons (ps_set (i := 2) nd rfl (.inr rfl) (pe_call GD (hr.mono (by decide)) (by rfl) mD kD bD .nil pass0 (pa_cons (pe_call GC (hr.mono (by decide)) (by rfl) mC kC bC .nil pass0 (pa_cons (pv 0) (pa_cons (pv 1) pa_nil)))
      (pa_cons (pe_lst (pa_cons pe_int (pa_cons pe_int (pa_cons pe_int (pa_cons pe_int (pa_cons pe_int (pa_cons pe_int (pa_cons pe_int (pa_cons pe_int (pa_cons pe_int (pa_cons pe_int (pa_cons pe_int pa_nil)))))))))))) pa_nil))))
    (pss_cons (ps_set (i := 3) nd rfl (.inl rfl) (pe_op op_add pe_int (pe_ix ix_list (pv 2) pe_int (fun _ _ => rfl))))
    (C8.pss_cut (ps_if (PW.pt (pw_and (pt_cmpR op_eq (pe_ix ix_list (pv 2) pe_int (fun _ _ => rfl)) pe_int (nomark _)) (pw_and1 (pt_cmpR op_eq (pe_ix ix_list (pv 2) pe_int (fun _ _ => rfl)) pe_int (nomark _))))) (pss_one (ps_set (i := 3) nd rfl (.inl rfl) (pe_ix ix_list (pv 2) pe_int (fun _ _ => rfl)))) pss_nil)
    (pss_cons (ps_set (i := 4) nd rfl (.inl rfl) (pe_call GD (hr.mono (by decide)) (by rfl) mD kD bD .nil pass0 (pa_cons (pe_call GC (hr.mono (by decide)) (by rfl) mC kC bC .nil pass0 (pa_cons (pv 0) (pa_cons (pe_op op_add (pv 1) pe_int) pa_nil)))
      (pa_cons (pe_lc (own := [("k", 11)]) (g := gName 11) (tt := tYes) rfl nd (pi_range1 rfl mr (pa_cons pe_int pa_nil)) (blkOk_by (N := nPair) (sc := defScope sPair) (by decide +kernel)) (fun _ _ _ _ _ => pg_name (i := 11) nd rfl (Or.inl rfl)) (fun _ _ _ _ _ => pts_nil) (fun _ _ _ _ _ => pe_int)) pa_nil))))
    (pss_cons (ps_set (i := 5) nd rfl (.inl rfl) (pe_call GO (hr.mono (by decide)) (by rfl) mO kO bO .nil pass0 (pa_cons (pe_slice sl_list (pv 4) po_none (po_some (pe_ix ix_list (pv 2) pe_int (fun _ _ => rfl)))) (pa_cons (pv 3) pa_nil))))
    (pss_cons (ps_set (i := 6) nd rfl (.inl rfl) (pe_call GD (hr.mono (by decide)) (by rfl) mD kD bD .nil pass0 (pa_cons (pe_call GC (hr.mono (by decide)) (by rfl) mC kC bC .nil pass0 (pa_cons (pv 0) (pa_cons (pe_op op_add (pv 1) pe_int) pa_nil)))
      (pa_cons (pe_lc (own := [("k", 11)]) (g := gName 11) (tt := tYes) rfl nd (pi_range1 rfl mr (pa_cons pe_int pa_nil)) (blkOk_by (N := nPair) (sc := defScope sPair) (by decide +kernel)) (fun _ _ _ _ _ => pg_name (i := 11) nd rfl (Or.inl rfl)) (fun _ _ _ _ _ => pts_nil) (fun _ _ _ _ _ => pe_int)) pa_nil))))
    (pss_cons (ps_if (pt_cmpR op_eq (pe_ix ix_list (pv 2) pe_int (fun _ _ => rfl)) pe_int (nomark _))
      (pss_one (ps_ret (pe_lst (pa_cons (pe_call GO (hr.mono (by decide)) (by rfl) mO kO bO .nil pass0 (pa_cons (pe_lc (own := [("digit", 12)]) (g := gName 12) (tt := tYes) rfl nd (pi_list (pe_slice sl_list (pv 6) po_none (po_some (pe_op op_sub pe_int (pe_op op_fdiv (pe_ix ix_list (pv 2) pe_int (fun _ _ => rfl)) pe_int))))) (blkOk_by (N := nPair) (sc := defScope sPair) (by decide +kernel))
        (fun _ _ _ _ _ => pg_name (i := 12) nd rfl (Or.inl rfl)) (fun _ _ _ _ _ => pts_nil) (fun _ _ _ _ _ => pe_op op_mod (pe_callTy call_int1 (by rfl) mi PyProof.Rows.boot_int (pa_cons (pv 12) pa_nil)) pe_int)) (pa_cons (pv 3) pa_nil))) (pa_cons (pv 5) pa_nil))))) pss_nil)
    (pss_cons (ps_if (pt_cmpR op_eq (pe_ix ix_list (pv 2) pe_int (fun _ _ => rfl)) pe_int (nomark _))
      (pss_cons (ps_setLc (i := 7) (own := [("digit", 12)]) (g := gName 12) (tt := tYes) rfl nd rfl rfl (sw_true rfl rfl rfl (by decide +kernel)) (pi_list (pv 6)) (blkOk_by (N := nPair) (sc := defScope sPair) (by decide +kernel))
        (fun _ _ _ _ _ => pg_name (i := 12) nd rfl (Or.inl rfl)) (fun _ _ _ _ _ => pts_nil) (fun _ _ _ _ _ => pe_op op_add pe_int (pe_op op_mod (pe_callTy call_int1 (by rfl) mi PyProof.Rows.boot_int (pa_cons (pv 12) pa_nil)) (pe_op op_add pe_int (pe_ix (show IxR _ (rIxL K) from ix_list) (pv 2) pe_int (fun _ _ => rfl))))))
      (pss_one (ps_ret (pe_lst (pa_cons (pe_call GT (hr.mono (by decide)) (by rfl) mT kT bT .nil pass0 (pa_cons (pe_slice sl_list (pv 7) po_none (po_some (pe_ix ix_list (pv 2) pe_int (fun _ _ => rfl)))) (pa_cons (pe_op op_add pe_int (pe_ix ix_list (pv 2) pe_int (fun _ _ => rfl))) pa_nil)))
        (pa_cons (pe_call GT (hr.mono (by decide)) (by rfl) mT kT bT .nil pass0 (pa_cons (pe_slice sl_list (pv 7) (po_some pe_int) (po_some (pe_op op_add pe_int (pe_ix ix_list (pv 2) pe_int (fun _ _ => rfl))))) (pa_cons (pe_op op_add pe_int (pe_ix ix_list (pv 2) pe_int (fun _ _ => rfl))) pa_nil))) pa_nil)))))) pss_nil)
    (pss_cons (ps_set (i := 8) nd rfl (.inr rfl) (pe_ix ix_list (pe_lst (pa_cons pe_int (pa_cons pe_int (pa_cons pe_int pa_nil)))) (pe_ix ix_list (pv 2) pe_int (fun _ _ => rfl)) (fun _ _ => rfl)))
    (pss_cons (ps_set (i := 9) nd rfl (.inl rfl) (pe_call GX (hr.mono (by decide)) (by rfl) mX kX bX .nil pass0 (pa_cons (pv 5) (pa_cons (pe_lc (own := [("digit", 12)]) (g := gName 12) (tt := tYes) rfl nd (pi_list (pv 6)) (blkOk_by (N := nPair) (sc := defScope sPair) (by decide +kernel))
        (fun _ _ _ _ _ => pg_name (i := 12) nd rfl (Or.inl rfl)) (fun _ _ _ _ _ => pts_nil) (fun _ _ _ _ _ => pe_op op_mod (pe_callTy call_int1 (by rfl) mi PyProof.Rows.boot_int (pa_cons (pv 12) pa_nil)) (pv 8))) pa_nil))))
    (C8.pss_cut (ps_if (pt_cmpR op_eq (pe_ix ix_list (pv 2) pe_int (fun _ _ => rfl)) pe_int (nomark _))
      (pss_cons (ps_set (i := 10) nd rfl (.inl rfl) (pe_call GP (hr.mono (by decide)) (by rfl) mP kP bP .nil pass0 (pa_cons (pv 9) pa_nil)))
      (pss_one (ps_set (i := 9) nd rfl (.inl rfl) (pe_call GW (hr.mono (by decide)) (by rfl) mW kW bW .nil pass0 (pa_cons (pv 9) (pa_cons (pe_ix ix_list (pv 10) (pe_op op_mod (pe_ix ix_list (pv 2) pe_int (fun _ _ => rfl)) (pe_callB call_len_seq (by rfl) ml PySem.boot_len (pa_cons (pv 10) pa_nil))) (fun _ _ => rfl)) pa_nil)))))) pss_nil)
    (pss_one (ps_ret (pe_lst (pa_cons (pv 9) (pa_cons (pv 5) pa_nil))))))))))))))), ?_⟩
  refine ⟨_, rfl, _, rfl, a, ns, at', rfl, hS, hl, by omega, fun z => ⟨le_big (by decide), fun l hl' => ?_⟩⟩
  have s1 : Same H (upd H l (.lst (([4, 5, 13, 2, 41, 61, 3, 212, 3, 7, 20] : List Int).map V.int))) := same_new hl' _
  refine ⟨z, l, [4, 5, 13, 2, 41, 61, 3, 212, 3, 7, 20], rfl, SqL.of upd_same, by decide, by decide, fun p ds H1 s2 ep hd => ?_⟩
  obtain ⟨d0, r0, rfl, b0, hd⟩ := hd.cons
  obtain ⟨d1, r1, rfl, b1, hd⟩ := hd.cons
  obtain ⟨d2, r2, rfl, b2, hd⟩ := hd.cons
  obtain ⟨d3, r3, rfl, b3, hd⟩ := hd.cons
  obtain ⟨d4, r4, rfl, b4, hd⟩ := hd.cons
  obtain ⟨d5, r5, rfl, b5, hd⟩ := hd.cons
  obtain ⟨d6, r6, rfl, b6, hd⟩ := hd.cons
  obtain ⟨d7, r7, rfl, b7, hd⟩ := hd.cons
  obtain ⟨d8, r8, rfl, b8, hd⟩ := hd.cons
  obtain ⟨d9, r9, rfl, b9, hd⟩ := hd.cons
  obtain ⟨d10, r10, rfl, b10, hd⟩ := hd.cons
  cases hd.nil
  obtain ⟨m4, rfl⟩ : ∃ m : Nat, d4 = (m : Int) := ⟨d4.toNat, by omega⟩
  obtain ⟨m8, rfl⟩ : ∃ m : Nat, d8 = (m : Int) := ⟨d8.toNat, by omega⟩
  obtain ⟨m9, rfl⟩ : ∃ m : Nat, d9 = (m : Int) := ⟨d9.toNat, by omega⟩
  obtain ⟨m10, rfl⟩ : ∃ m : Nat, d10 = (m : Int) := ⟨d10.toNat, by omega⟩
  have sA := s1.trans s2
  have gp : SqL K H1 p (([d0, d1, d2, d3, (m4 : Int), d5, d6, d7, (m8 : Int), (m9 : Int), (m10 : Int)] : List Int).map V.int) := SqL.of ep
  refine ⟨_, rfl, p, _, 1, .int d1, rfl, rfl, gp, atI_nat (j := 1) rfl, _, _, rfl, rfl, ?_⟩
  refine ⟨fun σ' H' => H' = H1 ∧ ∃ hi : Nat, hi ≤ 12 ∧ σ' = [some (.ref a), some (.int (at' : Int)), some (.ref p), some (.int (hi : Int)), Option.none, Option.none, Option.none, Option.none, Option.none, Option.none, Option.none, Option.none, Option.none], ?_, ?_⟩
  · have one : ∃ hi : Nat, hi ≤ 12 ∧ (1 + d1 : Int) = (hi : Int) := ⟨(1 + d1).toNat, by omega, by omega⟩
    have two : ∃ hi : Nat, hi ≤ 12 ∧ d2 = (hi : Int) := ⟨d2.toNat, by omega, by omega⟩
    obtain ⟨h1, g1, e1⟩ := one
    obtain ⟨h2, g2, e2⟩ := two
    have st : ∀ (x : Int) (hh : Nat), x = (hh : Int) → ([some (V.ref a), some (V.int (at' : Int)), some (V.ref p), some (V.int x), Option.none, Option.none, Option.none, Option.none, Option.none, Option.none, Option.none, Option.none, Option.none] : L2.St) = [some (V.ref a), some (V.int (at' : Int)), some (V.ref p), some (V.int (hh : Int)), Option.none, Option.none, Option.none, Option.none, Option.none, Option.none, Option.none, Option.none, Option.none] := fun x hh e => by rw [e]
    refine ⟨_, rfl, p, _, 0, .int d0, rfl, rfl, gp, atI_nat (j := 0) rfl, rfl, _, rfl, ite2 (fun _ => ?_) (fun _ => ?_)⟩
    · refine ⟨_, rfl, p, _, 3, .int d3, rfl, rfl, gp, atI_nat (j := 3) rfl, rfl, _, rfl, ite2 (fun _ => ?_) (fun _ => ?_)⟩
      · exact ⟨_, rfl, p, _, 2, .int d2, rfl, rfl, gp, atI_nat (j := 2) rfl, rfl, h2, g2, st _ _ e2⟩
      · exact ⟨rfl, h1, g1, st _ _ e1⟩
    · exact ⟨rfl, h1, g1, st _ _ e1⟩
  rintro σ' H1' ⟨rfl, hi, h12, rfl⟩
  refine ⟨_, rfl, _, rfl, _, _, rfl, rfl, a, ns, at' + 1, congrArg (fun z => [V.ref a, V.int z]) (show (at' : Int) + 1 = ((at' + 1 : Nat) : Int) by omega), sA.seq hS, hl, by omega, fun z4 => ⟨40, rfl, by omega, by omega, fun DA hDA => ?_⟩⟩
  refine lc_range (n := 40) (fun k H' => Same H1' H' ∧ H' DA = some (.lst ((List.replicate k (2 : Int)).map V.int))) ⟨same_new hDA _, upd_same⟩ (by
    rintro k Hk hk ⟨sk, ek⟩
    refine ⟨rfl, ?_⟩
    show ∃ acc, Hk DA = some (.lst acc) ∧ acc.length < sizeLine ∧ _
    refine ⟨_, ek, ?_, same_upd sk hDA _, ?_⟩
    · rw [List.length_map, List.length_replicate]; exact lt_big (by omega)
    · rw [upd_same, List.replicate_succ', List.map_append]; rfl) ?_
  rintro Hk ⟨sk, ek⟩
  refine ⟨z4, DA, List.replicate 40 2, rfl, SqL.of ek, by rw [List.length_replicate]; omega, fun x hx => (by rw [List.eq_of_mem_replicate hx]; decide), fun pA dsA H2 so hdpA hdg => ?_⟩
  have s3 := sk.trans so
  have nnpA := dg_nn hdg
  have lnpA := hdg.len
  rw [List.length_replicate] at lnpA
  clear sk ek so hdg
  have sB := sA.trans s3
  have gp2 := s3.seq gp
  refine ⟨_, rfl, _, rfl, p, _, 4, .int (m4 : Int), rfl, rfl, gp2, atI_nat (j := 4) rfl, (m4 : Int), rfl, pA, _, rfl, SqL.of hdpA, fun D1 hD1 => ?_⟩
  have e1 : upd H2 D1 (.lst (cutV (dsA.map V.int) none (some (m4 : Int)))) D1 = some (.lst ((dsA.take m4).map V.int)) := by rw [upd_same, cut_hi, List.map_take]
  have s4 := same_new hD1 (.lst (cutV (dsA.map V.int) none (some (m4 : Int))))
  generalize upd H2 D1 (.lst (cutV (dsA.map V.int) none (some (m4 : Int)))) = H3 at e1 s4
  refine ⟨_, rfl, D1, dsA.take m4, hi, rfl, SqL.of e1, by rw [List.length_take]; omega, h12, fun us ts H4 s5 hTs hls => ?_⟩
  rw [List.length_take] at hls
  have hls2 : lv hi ts ≤ 41 := by omega
  have t24 := s4.trans s5
  have sC := sB.trans t24
  have gp4 := t24.seq gp2
  have up : ∀ {H' : Hp} {k : Nat} {v : V} {t : Tr}, k ≤ 16 → TA k H' v t → TA 16 H' v t := fun h g => TA.up h g
  have upl : ∀ {H' : Hp} {k : Nat} {v : V} {t : Tr}, k ≤ 16 → TA k H' v t → lv k t ≤ 10000 → lv 16 t ≤ 10000 := fun h g l => by rw [lv_up h g.hb]; exact l
  refine ⟨_, rfl, _, rfl, _, _, rfl, rfl, a, ns, at' + 2, congrArg (fun z => [V.ref a, V.int z]) (show (at' : Int) + 2 = ((at' + 2 : Nat) : Int) by omega), sC.seq hS, hl, by omega, fun z5 => ⟨60, rfl, by omega, by omega, fun DB hDB => ?_⟩⟩
  refine lc_range (n := 60) (fun k H' => Same H4 H' ∧ H' DB = some (.lst ((List.replicate k (60 : Int)).map V.int))) ⟨same_new hDB _, upd_same⟩ (by
    rintro k Hk hk ⟨sk, ek⟩
    refine ⟨rfl, ?_⟩
    show ∃ acc, Hk DB = some (.lst acc) ∧ acc.length < sizeLine ∧ _
    refine ⟨_, ek, ?_, same_upd sk hDB _, ?_⟩
    · rw [List.length_map, List.length_replicate]; exact lt_big (by omega)
    · rw [upd_same, List.replicate_succ', List.map_append]; rfl) ?_
  rintro Hk ⟨sk, ek⟩
  refine ⟨z5, DB, List.replicate 60 60, rfl, SqL.of ek, by rw [List.length_replicate]; omega, fun x hx => (by rw [List.eq_of_mem_replicate hx]; decide), fun pB dsB H5 so hdpB hdg => ?_⟩
  have s6 := sk.trans so
  have nnpB := dg_nn hdg
  have lnpB := hdg.len
  rw [List.length_replicate] at lnpB
  clear sk ek so hdg
  have sD := sC.trans s6
  have gp5 := s6.seq gp4
  have hTs5 := hTs.same s6
  have gB : SqL K H5 pB (dsB.map V.int) := SqL.of hdpB
  refine ⟨_, rfl, p, _, 0, .int d0, rfl, rfl, gp5, atI_nat (j := 0) rfl, rfl, _, rfl, ite2 (fun _ => ?_) (fun _ => ?_)⟩
  · obtain ⟨m5, hm5⟩ : ∃ m : Nat, 60 - d5 / 6 = (m : Int) := ⟨(60 - d5 / 6).toNat, by omega⟩
    refine ⟨_, rfl, _, rfl, p, _, 5, .int d5, rfl, rfl, gp5, atI_nat (j := 5) rfl, _, _, rfl, rfl, (by show (0 : Int) < 6 ∧ (6 : Int) < 1073741824; decide), _, _, rfl, rfl, 60 - d5 / 6, rfl, pB, _, rfl, gB, fun D2 hD2 => ⟨D2, rfl, ⟨_, SqL.of upd_same⟩, fun D3 hD3 => ?_⟩⟩
    have e2 : upd H5 D2 (.lst (cutV (dsB.map V.int) none (some (60 - d5 / 6)))) D2 = some (.lst ((dsB.take m5).map V.int)) := by rw [upd_same, hm5, cut_hi, List.map_take]
    have s7 := same_new hD2 (.lst (cutV (dsB.map V.int) none (some (60 - d5 / 6))))
    generalize upd H5 D2 (.lst (cutV (dsB.map V.int) none (some (60 - d5 / 6)))) = H6 at e2 s7 hD3 ⊢
    have lt5 : (dsB.take m5).length ≤ 60 := by rw [List.length_take]; omega
    refine lc_list (xs := (dsB.take m5).map V.int) (fun k H' => Same H6 H' ∧ ∃ out : List Int, H' D3 = some (.lst (out.map V.int)) ∧ out.length = k ∧ ∀ d ∈ out, 0 ≤ d) ⟨same_new hD3 _, [], upd_same, rfl, fun d hd => nomatch hd⟩ (fun k H' _ z => z.1.seq (SqL.of e2)) (by
      rintro k x Hk hx ⟨sk, out, ek, lo, no⟩
      obtain ⟨v, hv, rfl⟩ := map_at hx
      have hk := (List.getElem?_eq_some_iff.mp hv).1
      refine ⟨rfl, ?_⟩
      refine tYI ?_
      refine ⟨_, rfl, .inl ⟨_, rfl, _, _, rfl, rfl, (by show (0 : Int) < 2; decide), _, ek, ?_, same_upd sk hD3 _, out ++ [v % 2], ?_, ?_, ?_⟩⟩
      · rw [List.length_map, lo]; exact lt_big (by omega)
      · rw [upd_same, List.map_append]; rfl
      · rw [List.length_append, lo]; rfl
      · exact mem_snoc no (by omega)) ?_
    rintro H7 ⟨s8, out, e7, lo, _⟩
    rw [List.length_map] at lo
    have t57 := s7.trans s8
    refine ⟨_, rfl, D3, out, hi, rfl, SqL.of e7, by omega, h12, fun u2 t2 H8 s9 hT2 hl2 => ⟨_, rfl, two_le, fun L hL => ?_⟩⟩
    have sL := same_new hL (.lst [V.ref u2, V.ref us])
    have t58 := t57.trans s9
    exact q L _ _ t2 ts _ (sD.trans (t58.trans sL)) upd_same (up (by omega) (hT2.same sL)) (up (by omega) (hTs5.same (t58.trans sL))) (upl (by omega) hT2 (by omega)) (upl (by omega) hTs (by omega))
  refine ⟨_, rfl, p, _, 0, .int d0, rfl, rfl, gp5, atI_nat (j := 0) rfl, rfl, _, rfl, ite2 (fun _ => ?_) (fun _ => ?_)⟩
  · refine ⟨_, rfl, pB, rfl, ⟨_, gB⟩, fun D3 hD3 => ?_⟩
    have hpos8 : (0 : Int) < 1 + (m8 : Int) := by omega
    refine lc_list (xs := (dsB).map V.int) (fun k H' => Same H5 H' ∧ ∃ out : List Int, H' D3 = some (.lst (out.map V.int)) ∧ out.length = k ∧ ∀ d ∈ out, 0 ≤ d) ⟨same_new hD3 _, [], upd_same, rfl, fun d hd => nomatch hd⟩ (fun k H' _ z => z.1.seq gB) (by
      rintro k x Hk hx ⟨sk, out, ek, lo, no⟩
      obtain ⟨v, hv, rfl⟩ := map_at hx
      have hk := (List.getElem?_eq_some_iff.mp hv).1
      refine ⟨rfl, ?_⟩
      refine tYI ?_
      refine ⟨_, rfl, .inl ⟨_, rfl, _, rfl, p, _, 8, .int (m8 : Int), rfl, rfl, sk.seq gp5, atI_nat (j := 8) rfl, _, _, rfl, rfl, _, _, rfl, rfl, hpos8, _, _, rfl, rfl, _, ek, ?_, same_upd sk hD3 _, out ++ [1 + v % (1 + (m8 : Int))], ?_, ?_, ?_⟩⟩
      · rw [List.length_map, lo]; exact lt_big (by omega)
      · rw [upd_same, List.map_append]; rfl
      · rw [List.length_append, lo]; rfl
      · exact mem_snoc no (by have := Int.emod_nonneg v (show (1 + (m8 : Int)) ≠ 0 by omega); omega)) ?_
    rintro H7 ⟨s8, out, e7, lo, _⟩
    rw [List.length_map] at lo
    have gp7 := s8.seq gp5
    have e81 : (1 : Int) + (m8 : Int) = ((m8 + 1 : Nat) : Int) := by omega
    refine ⟨_, rfl, _, rfl, p, _, 10, .int (m10 : Int), rfl, rfl, gp7, atI_nat (j := 10) rfl, (m10 : Int), rfl, D3, _, rfl, SqL.of e7, fun D4 hD4 => ?_⟩
    have e8 : upd H7 D4 (.lst (cutV (out.map V.int) none (some (m10 : Int)))) D4 = some (.lst ((out.take m10).map V.int)) := by rw [upd_same, cut_hi, List.map_take]
    have s9 := same_new hD4 (.lst (cutV (out.map V.int) none (some (m10 : Int))))
    generalize upd H7 D4 (.lst (cutV (out.map V.int) none (some (m10 : Int)))) = H8 at e8 s9
    refine ⟨_, rfl, p, _, 8, .int (m8 : Int), rfl, rfl, s9.seq gp7, atI_nat (j := 8) rfl, _, _, rfl, rfl, D4, out.take m10, m8 + 1, congrArg (fun z => [V.ref D4, V.int z]) e81, SqL.of e8, by rw [List.length_take]; omega, by omega, fun u2 H9 s10 hT2 => ?_⟩
    have hv2 := lv_tree (m8 + 1) (out.take m10)
    rw [List.length_take] at hv2
    have t79 := s9.trans s10
    refine ⟨_, rfl, 20, rfl, _, rfl, p, _, 9, .int (m9 : Int), rfl, rfl, t79.seq gp7, atI_nat (j := 9) rfl, _, _, rfl, rfl, 20 + (m9 : Int), rfl, D3, _, rfl, SqL.of (t79 _ _ e7), fun D5 hD5 => ?_⟩
    have e20 : (20 : Int) + (m9 : Int) = ((20 + m9 : Nat) : Int) := by omega
    have e9 : upd H9 D5 (.lst (cutV (out.map V.int) (some 20) (some (20 + (m9 : Int))))) D5 = some (.lst (((out.drop 20).take m9).map V.int)) := by
      have := cut_mid (out.map V.int) 20 m9 (by rw [List.length_map]; omega)
      rw [upd_same, e20]
      rw [List.map_take, List.map_drop]
      exact congrArg (fun l => some (HO.lst l)) this
    have s11 := same_new hD5 (.lst (cutV (out.map V.int) (some 20) (some (20 + (m9 : Int)))))
    generalize upd H9 D5 (.lst (cutV (out.map V.int) (some 20) (some (20 + (m9 : Int))))) = H10 at e9 s11
    have t710 := t79.trans s11
    refine ⟨_, rfl, p, _, 8, .int (m8 : Int), rfl, rfl, t710.seq gp7, atI_nat (j := 8) rfl, _, _, rfl, rfl, D5, (out.drop 20).take m9, m8 + 1, congrArg (fun z => [V.ref D5, V.int z]) e81, SqL.of e9, by rw [List.length_take, List.length_drop]; omega, by omega, fun u3 H11 s12 hT3 => ⟨two_le, fun L hL => ?_⟩⟩
    have hv3 := lv_tree (m8 + 1) ((out.drop 20).take m9)
    rw [List.length_take, List.length_drop] at hv3
    have sL := same_new hL (.lst [V.ref u2, V.ref u3])
    exact q L _ _ _ _ _ (sD.trans (s8.trans (t710.trans (s12.trans sL)))) upd_same (up (by omega) (hT2.same (s11.trans (s12.trans sL)))) (up (by omega) (hT3.same sL)) (upl (by omega) hT2 (by omega)) (upl (by omega) hT3 (by omega))
  obtain ⟨wv, hwv, mwv⟩ := idx_int (ns := [6, 10, 20]) (d := d6) b6.1 b6.2
  have hwp : 0 < wv := by
    simp only [List.mem_cons, List.not_mem_nil, or_false] at mwv
    omega
  refine ⟨three_le, fun l3 hl3 => ⟨_, rfl, p, _, 6, .int d6, rfl, rfl, (same_new hl3 _).seq gp5, atI_nat (j := 6) rfl, l3, _, d6, .int wv, rfl, rfl, SqL.of upd_same, hwv, ?_⟩⟩
  have s7 := same_new hl3 (.lst [V.int 6, V.int 10, V.int 20])
  generalize upd H5 l3 (.lst [V.int 6, V.int 10, V.int 20]) = H6 at s7
  refine ⟨_, rfl, _, rfl, pB, rfl, ⟨_, s7.seq gB⟩, fun D3 hD3 => ?_⟩
  refine lc_list (xs := (dsB).map V.int) (fun k H' => Same H6 H' ∧ ∃ out : List Int, H' D3 = some (.lst (out.map V.int)) ∧ out.length = k ∧ ∀ d ∈ out, 0 ≤ d) ⟨same_new hD3 _, [], upd_same, rfl, fun d hd => nomatch hd⟩ (fun k H' _ z => z.1.seq (s7.seq gB)) (by
    rintro k x Hk hx ⟨sk, out, ek, lo, no⟩
    obtain ⟨v, hv, rfl⟩ := map_at hx
    have hk := (List.getElem?_eq_some_iff.mp hv).1
    refine ⟨rfl, ?_⟩
    refine tYI ?_
    refine ⟨_, rfl, .inl ⟨_, rfl, _, rfl, _, _, rfl, rfl, hwp, _, ek, ?_, same_upd sk hD3 _, out ++ [v % wv], ?_, ?_, ?_⟩⟩
    · rw [List.length_map, lo]; exact lt_big (by omega)
    · rw [upd_same, List.map_append]; rfl
    · rw [List.length_append, lo]; rfl
    · exact mem_snoc no (Int.emod_nonneg v (by omega))) ?_
  rintro H7 ⟨s8, out, e7, lo, no⟩
  rw [List.length_map] at lo
  have t57 := s7.trans s8
  refine ⟨.ref us, D3, out, hi, ts, rfl, hTs5.same t57, e7, no, by omega, by omega, fun u4 t4 ds' H8 b8 ea8 _ _ hT4 hl4 => ?_⟩
  have hD3n : H5 D3 = none := s7.free hD3
  have s68 : Same H5 H8 := but_same hD3n t57 b8
  have sE := sD.trans s68
  have gp8 := s68.seq gp5
  have hTs8 := hTs5.same s68
  refine ⟨fun σ' H' => Same H H' ∧ ∃ (vb : V) (tb : Tr) (y10 : Option V), σ' = [some (.ref a), some (.int (at' : Int)), some (.ref p), some (.int (hi : Int)), some (.ref pA), some (.ref us), some (.ref pB), Option.none, some (.int wv), some vb, y10, Option.none, Option.none] ∧ TA (hi + 3) H' vb tb ∧ lv (hi + 3) tb ≤ 10000 ∧ TA hi H' (.ref us) ts, ?_, ?_⟩
  · refine ⟨_, rfl, p, _, 0, .int d0, rfl, rfl, gp8, atI_nat (j := 0) rfl, rfl, _, rfl, ite2 (fun _ => ?_) (fun _ => ?_)⟩
    · refine ⟨_, rfl, .ref u4, hi + 3, t4, rfl, hT4, by omega, by omega, by omega, fun p10 ps10 H10 s10 _ hP10 hl10 hx10 => ?_⟩
      obtain ⟨rs, er, pa⟩ := hP10
      have lrs : rs.length = lv (hi + 3) t4 := by rw [pa.length, hl10]
      have hpos := lv_pos (hi + 3) t4
      have v0 := Int.emod_nonneg d7 (show ((rs.map V.ref).length : Int) ≠ 0 by rw [List.length_map]; omega)
      have v1 := Int.emod_lt_of_pos d7 (show (0 : Int) < ((rs.map V.ref).length : Int) by rw [List.length_map]; omega)
      generalize hm : d7 % ((rs.map V.ref).length : Int) = m at v0 v1
      rw [List.length_map] at v1
      obtain ⟨i, rfl⟩ : ∃ i : Nat, m = (i : Int) := ⟨m.toNat, by omega⟩
      have gi : rs[i]? = some rs[i] := List.getElem?_eq_getElem (by omega)
      obtain ⟨x, hx, ex⟩ := pr_get pa gi
      refine ⟨_, rfl, _, rfl, _, rfl, p, _, 7, .int d7, rfl, rfl, s10.seq gp8, atI_nat (j := 7) rfl, _, rfl, p10, _, rfl, .inl (SqL.of er), _, _, rfl, rfl, (by show (0 : Int) < ((rs.map V.ref).length : Int); rw [List.length_map]; omega), p10, _, _, .ref rs[i], rfl, rfl, SqL.of er, (by rw [hm]; exact atI_nat (by rw [List.getElem?_map, gi]; rfl)), ?_⟩
      refine ⟨.ref u4, rs[i], x, hi + 3, t4, rfl, hT4.same s10, ex, (hx10 x (List.mem_of_getElem? hx)).2, by omega, by omega, fun u t' H11 s11 hT' hl' => ?_⟩
      exact ⟨sE.trans (s10.trans s11), u, t', _, rfl, hT', by omega, hTs8.same (s10.trans s11)⟩
    · exact ⟨sE, _, t4, _, rfl, hT4, by omega, hTs8⟩
  rintro σ' H10 ⟨sG, vb, tb, y10, rfl, hTb, hlb, hTs'⟩
  refine ⟨_, rfl, _, rfl, two_le, fun L hL => ?_⟩
  have sL := same_new hL (.lst [vb, V.ref us])
  exact q L _ _ tb ts _ (sG.trans sL) upd_same (up (by omega) (hTb.same sL)) (up (by omega) (hTs'.same sL)) (upl (by omega) hTb hlb) (upl (by omega) hTs' (by omega))
end
end K03
set_option Elab.async false
set_option linter.all false
set_option maxRecDepth 100000
set_option maxHeartbeats 4000000
set_option pp.maxSteps 400
set_option pp.deepTerms false
namespace K03
open PySem PySem.Spec PyProof.Rows L2 K11 K21
/-! ### law -/
section
variable {P : Program} {w : World} {K : PySem.W.Frag} {mg : Str → Option Value} {base : Heap}
theorem scLaw : FnScope ["script", "first", "second", "head", "large"] ["script"] (defScope sLaw) := ⟨rfl, rfl, rfl, by decide +kernel, rfl, by decide +kernel, by decide +kernel⟩
def spLaw (K : PySem.W.Frag) : Sp := fun vs H Q _ => ∃ (a : Addr) (ns : List Int), vs = [.ref a] ∧ SqL K H a (ns.map V.int) ∧ ns.length ≤ 63 ∧ ∀ H', Q (.bl true) H'
theorem ok_law {f fC fD fP fT fG : Addr} {fd dC dD dP dT dG : FuncData} (F : Fun K "law" "law" sLaw f fd)
    (GC : FnOk P w K mg base CX0 1 fC dC ["script", "k"] (K21.spCell K)) (bC : Binds K dC ["script", "k"] []) (kC : PySem.W.keepIn K (.ref fC) = true) (mC : mg "_law_cell" = some (.ref fC))
    (GD : FnOk P w K mg base CX0 1 fD dD ["cell", "sizes"] (spDigits K)) (bD : Binds K dD ["cell", "sizes"] []) (kD : PySem.W.keepIn K (.ref fD) = true) (mD : mg "_law_digits" = some (.ref fD))
    (GP : FnOk P w K mg base CX0 23 fP dP ["script", "at"] (spPairs K)) (bP : Binds K dP ["script", "at"] []) (kP : PySem.W.keepIn K (.ref fP) = true) (mP : mg "_law_pair" = some (.ref fP))
    (GT : FnOk P w K mg base CX0 43 fT dT ["big", "small", "mode"] spTold) (bT : Binds K dT ["big", "small", "mode"] []) (kT : PySem.W.keepIn K (.ref fT) = true) (mT : mg "_law_told" = some (.ref fT))
    (GG : FnOk P w K mg base CX0 22 fG dG ["script", "at"] (spPairs K)) (bG : Binds K dG ["script", "at"] []) (kG : PySem.W.keepIn K (.ref fG) = true) (mG : mg "_law_large_pair" = some (.ref fG))
    (mi : mg "int" = none) : FnOk P w K mg base CX0 44 f fd ["script"] (spLaw K) := by
  refine F.ok (k := 43) scLaw (fun vs H Q E h => ?_) (fun cdv A outer s H vs Q E hr h => ?_)
  · obtain ⟨a, ns, rfl, _⟩ := h
    rfl
  obtain ⟨a, ns, rfl, hS, hl, q⟩ := h
  have nd := scLaw.nd
  refine ⟨_, pss_cons (ps_set (i := 1) nd rfl (.inl rfl) (pe_call GP (hr.mono (by decide)) (by rfl) mP kP bP .nil pass0 (pa_cons (pv 0) (pa_cons pe_int pa_nil))))
    (pss_cons (ps_set (i := 2) nd rfl (.inl rfl) (pe_call GP (hr.mono (by decide)) (by rfl) mP kP bP .nil pass0 (pa_cons (pv 0) (pa_cons pe_int pa_nil))))
    (pss_cons (ps_set (i := 3) nd rfl (.inl rfl) (pe_call GD (hr.mono (by decide)) (by rfl) mD kD bD .nil pass0 (pa_cons (pe_call GC (hr.mono (by decide)) (by rfl) mC kC bC .nil pass0 (pa_cons (pv 0) (pa_cons pe_int pa_nil)))
      (pa_cons (pe_lst (pa_cons pe_int (pa_cons pe_int (pa_cons pe_int pa_nil)))) pa_nil))))
    (pss_cons (ps_if (PW.pt (pw_or (pt_not (pt_val (pe_call GT hr (by rfl) mT kT bT .nil pass0 (pa_cons (pe_ix ix_list (pv 1) pe_int (fun _ _ => rfl)) (pa_cons (pe_ix ix_list (pv 1) pe_int (fun _ _ => rfl)) (pa_cons (pe_ix ix_list (pv 3) pe_int (fun _ _ => rfl)) pa_nil)))))) (pw_or1 (pt_not (pt_val (pe_call GT hr (by rfl) mT kT bT .nil pass0 (pa_cons (pe_ix ix_list (pv 1) pe_int (fun _ _ => rfl)) (pa_cons (pe_ix ix_list (pv 1) pe_int (fun _ _ => rfl)) (pa_cons (pe_ix ix_list (pv 3) pe_int (fun _ _ => rfl)) pa_nil))))))))) (pss_one (ps_ret pe_bl)) pss_nil)
    (pss_cons (ps_if (PW.pt (pw_or (pt_not (pt_val (pe_call GT hr (by rfl) mT kT bT .nil pass0 (pa_cons (pe_ix ix_list (pv 2) pe_int (fun _ _ => rfl)) (pa_cons (pe_ix ix_list (pv 2) pe_int (fun _ _ => rfl)) (pa_cons (pe_ix ix_list (pv 3) pe_int (fun _ _ => rfl)) pa_nil)))))) (pw_or1 (pt_not (pt_val (pe_call GT hr (by rfl) mT kT bT .nil pass0 (pa_cons (pe_ix ix_list (pv 2) pe_int (fun _ _ => rfl)) (pa_cons (pe_ix ix_list (pv 1) pe_int (fun _ _ => rfl)) (pa_cons (pe_ix ix_list (pv 3) pe_int (fun _ _ => rfl)) pa_nil))))))))) (pss_one (ps_ret pe_bl)) pss_nil)
    (pss_cons (ps_if (pt_cmpR op_eq (pe_op op_mod (pe_callTy call_int1 (by rfl) mi PyProof.Rows.boot_int (pa_cons (pe_call GC (hr.mono (by decide)) (by rfl) mC kC bC .nil pass0 (pa_cons (pv 0) (pa_cons pe_int pa_nil))) pa_nil)) pe_int) pe_int (nomark _))
      (pss_cons (ps_set (i := 4) nd rfl (.inl rfl) (pe_call GG (hr.mono (by decide)) (by rfl) mG kG bG .nil pass0 (pa_cons (pv 0) (pa_cons pe_int pa_nil))))
      (pss_one (ps_if (pt_not (pt_val (pe_call GT hr (by rfl) mT kT bT .nil pass0 (pa_cons (pe_ix ix_list (pv 4) pe_int (fun _ _ => rfl)) (pa_cons (pe_ix ix_list (pv 4) pe_int (fun _ _ => rfl)) (pa_cons (pe_ix ix_list (pv 3) pe_int (fun _ _ => rfl)) pa_nil)))))) (pss_one (ps_ret pe_bl)) pss_nil))) pss_nil)
    (pss_one (ps_ret (pe_and (pe_call GT hr (by rfl) mT kT bT .nil pass0 (pa_cons (pe_ix ix_list (pv 1) pe_int (fun _ _ => rfl)) (pa_cons (pe_ix ix_list (pv 1) pe_int (fun _ _ => rfl)) (pa_cons (pe_ix ix_list (pv 3) pe_int (fun _ _ => rfl)) pa_nil)))) (pe_one (pe_call GT hr (by rfl) mT kT bT .nil pass0 (pa_cons (pe_ix ix_list (pv 1) pe_int (fun _ _ => rfl)) (pa_cons (pe_ix ix_list (pv 1) pe_int (fun _ _ => rfl)) (pa_cons (pe_ix ix_list (pv 3) pe_int (fun _ _ => rfl)) pa_nil))))))))))))), ?_⟩
  refine ⟨_, rfl, a, ns, 0, rfl, hS, hl, by omega, fun l1 v1 u1 b1 c1 H1 s1 e1 hv1 hu1 gv1 gu1 => ?_⟩
  refine ⟨_, rfl, a, ns, 3, rfl, s1.seq hS, hl, by omega, fun l2 v2 u2 b2 c2 H2 s2 e2 hv2 hu2 gv2 gu2 => ?_⟩
  have sA := s1.trans s2
  refine ⟨_, rfl, a, ns, 6, rfl, sA.seq hS, hl, by omega, fun z => ⟨three_le, fun l hl' => ?_⟩⟩
  have s3 : Same H2 (upd H2 l (.lst (([8192, 8192, 8192] : List Int).map V.int))) := same_new hl' _
  refine ⟨z, l, [8192, 8192, 8192], rfl, SqL.of upd_same, by decide, by decide, fun p ds H3 s4 ep hd => ?_⟩
  obtain ⟨d0, r0, rfl, x0, hd⟩ := hd.cons
  obtain ⟨d1, r1, rfl, x1, hd⟩ := hd.cons
  obtain ⟨d2, r2, rfl, x2, hd⟩ := hd.cons
  cases hd.nil
  have n0 := x0.1
  have n1 := x1.1
  have n2 := x2.1
  have s34 := s3.trans s4
  have gp : SqL K H3 p (([d0, d1, d2] : List Int).map V.int) := SqL.of ep
  have e1 := s34 _ _ (s2 _ _ e1)
  have e2 := s34 _ _ e2
  have hv1 := hv1.same (s2.trans s34)
  have hu1 := hu1.same (s2.trans s34)
  have hv2 := hv2.same s34
  have hu2 := hu2.same s34
  have sB := sA.trans s34
  have sr : Same H3 H3 := .refl _
  refine ⟨_, rfl, l1, _, 0, v1, rfl, rfl, SqL.of (sr _ _ e1), atI_nat (j := 0) rfl, _, rfl, l1, _, 1, u1, rfl, rfl, SqL.of (sr _ _ e1), atI_nat (j := 1) rfl, _, rfl, p, _, 0, .int d0, rfl, rfl, sr.seq gp, atI_nat (j := 0) rfl, v1, u1, 16, 16, b1, c1, d0, rfl, hv1.same sr, hu1.same sr, n0, by decide, by decide, gv1, gu1, fun H4 s5 => ⟨true, rfl, iteF ?_⟩⟩
  refine ⟨_, rfl, l1, _, 1, u1, rfl, rfl, SqL.of (s5 _ _ e1), atI_nat (j := 1) rfl, _, rfl, l1, _, 0, v1, rfl, rfl, SqL.of (s5 _ _ e1), atI_nat (j := 0) rfl, _, rfl, p, _, 1, .int d1, rfl, rfl, s5.seq gp, atI_nat (j := 1) rfl, u1, v1, 16, 16, c1, b1, d1, rfl, hu1.same s5, hv1.same s5, n1, by decide, by decide, gu1, gv1, fun H5 s6 => ⟨true, rfl, iteF ?_⟩⟩
  have t5 := s5.trans s6
  refine ⟨_, rfl, l2, _, 0, v2, rfl, rfl, SqL.of (t5 _ _ e2), atI_nat (j := 0) rfl, _, rfl, l2, _, 1, u2, rfl, rfl, SqL.of (t5 _ _ e2), atI_nat (j := 1) rfl, _, rfl, p, _, 2, .int d2, rfl, rfl, t5.seq gp, atI_nat (j := 2) rfl, v2, u2, 16, 16, b2, c2, d2, rfl, hv2.same t5, hu2.same t5, n2, by decide, by decide, gv2, gu2, fun H6 s7 => ⟨true, rfl, iteF ?_⟩⟩
  have t6 := t5.trans s7
  refine ⟨_, rfl, l2, _, 0, v2, rfl, rfl, SqL.of (t6 _ _ e2), atI_nat (j := 0) rfl, _, rfl, l1, _, 1, u1, rfl, rfl, SqL.of (t6 _ _ e1), atI_nat (j := 1) rfl, _, rfl, p, _, 0, .int d0, rfl, rfl, t6.seq gp, atI_nat (j := 0) rfl, v2, u1, 16, 16, b2, c1, d0, rfl, hv2.same t6, hu1.same t6, n0, by decide, by decide, gv2, gu1, fun H7 s8 => ⟨true, rfl, iteF ?_⟩⟩
  have t7 := t6.trans s8
  refine ⟨_, rfl, a, ns, 7, rfl, (sB.trans t7).seq hS, hl, by omega, fun z => .inl ⟨_, rfl, _, _, rfl, rfl, (by show (0 : Int) < 16; decide), rfl, _, rfl, ite2 (fun _ => ?_) (fun _ => ?_)⟩⟩
  · refine ⟨_, rfl, a, ns, 8, rfl, (sB.trans t7).seq hS, hl, by omega, fun l3 v3 u3 b3 c3 H8 s9 e3 hv3 hu3 gv3 gu3 => ?_⟩
    have t8 := t7.trans s9
    have r8 : Same H8 H8 := .refl _
    refine ⟨_, rfl, l3, _, 0, v3, rfl, rfl, SqL.of (r8 _ _ e3), atI_nat (j := 0) rfl, _, rfl, l3, _, 1, u3, rfl, rfl, SqL.of (r8 _ _ e3), atI_nat (j := 1) rfl, _, rfl, p, _, 1, .int d1, rfl, rfl, t8.seq gp, atI_nat (j := 1) rfl, v3, u3, 16, 16, b3, c3, d1, rfl, hv3.same r8, hu3.same r8, n1, by decide, by decide, gv3, gu3, fun H9 s10 => ⟨true, rfl, iteF ?_⟩⟩
    have t9 := t8.trans s10
    exact ⟨_, rfl, l1, _, 0, v1, rfl, rfl, SqL.of (t9 _ _ e1), atI_nat (j := 0) rfl, _, rfl, l1, _, 0, v1, rfl, rfl, SqL.of (t9 _ _ e1), atI_nat (j := 0) rfl, _, rfl, p, _, 1, .int d1, rfl, rfl, t9.seq gp, atI_nat (j := 1) rfl, v1, v1, 16, 16, b1, b1, d1, rfl, hv1.same t9, hv1.same t9, n1, by decide, by decide, gv1, gv1, fun Hx sx => ⟨true, rfl, iteT ⟨_, rfl, l1, _, 0, v1, rfl, rfl, SqL.of ((t9.trans sx) _ _ e1), atI_nat (j := 0) rfl, _, rfl, l1, _, 1, u1, rfl, rfl, SqL.of ((t9.trans sx) _ _ e1), atI_nat (j := 1) rfl, _, rfl, p, _, 2, .int d2, rfl, rfl, (t9.trans sx).seq gp, atI_nat (j := 2) rfl, v1, u1, 16, 16, b1, c1, d2, rfl, hv1.same (t9.trans sx), hu1.same (t9.trans sx), n2, by decide, by decide, gv1, gu1, fun Hy sy => q _⟩⟩⟩
  · skip
    exact ⟨_, rfl, l1, _, 0, v1, rfl, rfl, SqL.of (t7 _ _ e1), atI_nat (j := 0) rfl, _, rfl, l1, _, 0, v1, rfl, rfl, SqL.of (t7 _ _ e1), atI_nat (j := 0) rfl, _, rfl, p, _, 1, .int d1, rfl, rfl, t7.seq gp, atI_nat (j := 1) rfl, v1, v1, 16, 16, b1, b1, d1, rfl, hv1.same t7, hv1.same t7, n1, by decide, by decide, gv1, gv1, fun Hx sx => ⟨true, rfl, iteT ⟨_, rfl, l1, _, 0, v1, rfl, rfl, SqL.of ((t7.trans sx) _ _ e1), atI_nat (j := 0) rfl, _, rfl, l1, _, 1, u1, rfl, rfl, SqL.of ((t7.trans sx) _ _ e1), atI_nat (j := 1) rfl, _, rfl, p, _, 2, .int d2, rfl, rfl, (t7.trans sx).seq gp, atI_nat (j := 2) rfl, v1, u1, 16, 16, b1, c1, d2, rfl, hv1.same (t7.trans sx), hu1.same (t7.trans sx), n2, by decide, by decide, gv1, gu1, fun Hy sy => q _⟩⟩⟩
end
end K03
set_option Elab.async false
set_option linter.all false
set_option maxRecDepth 100000
set_option maxHeartbeats 4000000
namespace K03
open PySem PySem.Spec PyProof.Rows L2 K11 K21
/-! ### what the top has left -/
theorem all_mk {l : PySem.W.OpenLaw} {w : World} {K : PySem.W.Frag} {h : Heap} {mg : Str → Option Value} {fa : Addr} (X : K.In h) (G : h.Ns mainGlobals mg) (hfa : mg "law" = some (.ref fa))
    {f1 f2 f3 f4 f5 f6 f7 f8 f9 f10 f11 f12 f13 f14 f15 f16 f17 f18 f19 f20 f21 f22 f23 : Addr}
    {od1 an1 od2 an2 od3 an3 od4 an4 od5 an5 od6 an6 od7 an7 od8 an8 od9 an9 od10 an10 od11 an11 od12 an12 od13 an13 od14 an14 od15 an15 od16 an16 od17 an17 od18 an18 od19 an19 od20 an20 od21 an21 od22 an22 od23 an23 : Option Addr} {sl1 sl2 sl3 sl4 sl5 sl6 sl7 sl8 sl9 sl10 sl11 sl12 sl13 sl14 sl15 sl16 sl17 sl18 sl19 sl20 sl21 sl22 sl23 : Array (Option Value)}
    {oc1 dc1 pm1 cd1 ct1 kV1 oc2 dc2 pm2 cd2 ct2 kV2 oc3 dc3 pm3 cd3 ct3 kV3 oc4 dc4 pm4 cd4 ct4 kV4 oc5 dc5 pm5 cd5 ct5 kV5 oc6 dc6 pm6 cd6 ct6 kV6 oc7 dc7 pm7 cd7 ct7 kV7 oc8 dc8 pm8 cd8 ct8 kV8 oc9 dc9 pm9 cd9 ct9 kV9 oc10 dc10 pm10 cd10 ct10 kV10 oc11 dc11 pm11 cd11 ct11 kV11 oc12 dc12 pm12 cd12 ct12 kV12 oc13 dc13 pm13 cd13 ct13 kV13 oc14 dc14 pm14 cd14 ct14 kV14 oc15 dc15 pm15 cd15 ct15 kV15 oc16 dc16 pm16 cd16 ct16 kV16 oc17 dc17 pm17 cd17 ct17 kV17 oc18 dc18 pm18 cd18 ct18 kV18 oc19 dc19 pm19 cd19 ct19 kV19 oc20 dc20 pm20 cd20 ct20 kV20 oc21 dc21 pm21 cd21 ct21 kV21 oc22 dc22 pm22 cd22 ct22 kV22 oc23 dc23 pm23 cd23 ct23 kV23 : Value}
    (a1 : PySem.W.nsIn K mainGlobals "holds" = some (some (.ref f1)))
    (l1 : K.lookup f1 = some ⟨oc1, od1, .func (PySem.W.fnOf "holds" "holds" (defArgs sPHolds) (defBody sPHolds) (defScope sPHolds) .none kV1 dc1 pm1 an1 cd1 ct1), sl1⟩)
    (c1 : PySem.W.codeIn K cd1 "holds" = true) (k1 : PySem.W.keepIn K (.ref f1) = true)
    (a2 : PySem.W.nsIn K mainGlobals "embedding" = some (some (.ref f2)))
    (l2 : K.lookup f2 = some ⟨oc2, od2, .func (PySem.W.fnOf "embedding" "embedding" (defArgs sPEmb) (defBody sPEmb) (defScope sPEmb) .none kV2 dc2 pm2 an2 cd2 ct2), sl2⟩)
    (c2 : PySem.W.codeIn K cd2 "embedding" = true) (k2 : PySem.W.keepIn K (.ref f2) = true)
    (a3 : PySem.W.nsIn K mainGlobals "_images" = some (some (.ref f3)))
    (l3 : K.lookup f3 = some ⟨oc3, od3, .func (PySem.W.fnOf "_images" "_images" (defArgs sImages) (defBody sImages) (defScope sImages) .none kV3 dc3 pm3 an3 cd3 ct3), sl3⟩)
    (c3 : PySem.W.codeIn K cd3 "_images" = true) (k3 : PySem.W.keepIn K (.ref f3) = true)
    (a4 : PySem.W.nsIn K mainGlobals "_law_whole" = some (some (.ref f4)))
    (l4 : K.lookup f4 = some ⟨oc4, od4, .func (PySem.W.fnOf "_law_whole" "_law_whole" (defArgs sWhole) (defBody sWhole) (defScope sWhole) .none kV4 dc4 pm4 an4 cd4 ct4), sl4⟩)
    (c4 : PySem.W.codeIn K cd4 "_law_whole" = true) (k4 : PySem.W.keepIn K (.ref f4) = true)
    (a5 : PySem.W.nsIn K mainGlobals "_law_is" = some (some (.ref f5)))
    (l5 : K.lookup f5 = some ⟨oc5, od5, .func (PySem.W.fnOf "_law_is" "_law_is" (defArgs sIs) (defBody sIs) (defScope sIs) .none kV5 dc5 pm5 an5 cd5 ct5), sl5⟩)
    (c5 : PySem.W.codeIn K cd5 "_law_is" = true) (k5 : PySem.W.keepIn K (.ref f5) = true)
    (a6 : PySem.W.nsIn K mainGlobals "_law_cell" = some (some (.ref f6)))
    (l6 : K.lookup f6 = some ⟨oc6, od6, .func (PySem.W.fnOf "_law_cell" "_law_cell" (defArgs sCell) (defBody sCell) (defScope sCell) .none kV6 dc6 pm6 an6 cd6 ct6), sl6⟩)
    (c6 : PySem.W.codeIn K cd6 "_law_cell" = true) (k6 : PySem.W.keepIn K (.ref f6) = true)
    (a7 : PySem.W.nsIn K mainGlobals "_law_digits" = some (some (.ref f7)))
    (l7 : K.lookup f7 = some ⟨oc7, od7, .func (PySem.W.fnOf "_law_digits" "_law_digits" (defArgs sDigits) (defBody sDigits) (defScope sDigits) .none kV7 dc7 pm7 an7 cd7 ct7), sl7⟩)
    (c7 : PySem.W.codeIn K cd7 "_law_digits" = true) (k7 : PySem.W.keepIn K (.ref f7) = true)
    (a8 : PySem.W.nsIn K mainGlobals "_law_tree" = some (some (.ref f8)))
    (l8 : K.lookup f8 = some ⟨oc8, od8, .func (PySem.W.fnOf "_law_tree" "_law_tree" (defArgs sTree) (defBody sTree) (defScope sTree) .none kV8 dc8 pm8 an8 cd8 ct8), sl8⟩)
    (c8 : PySem.W.codeIn K cd8 "_law_tree" = true) (k8 : PySem.W.keepIn K (.ref f8) = true)
    (a9 : PySem.W.nsIn K mainGlobals "_law_paths" = some (some (.ref f9)))
    (l9 : K.lookup f9 = some ⟨oc9, od9, .func (PySem.W.fnOf "_law_paths" "_law_paths" (defArgs sPaths) (defBody sPaths) (defScope sPaths) .none kV9 dc9 pm9 an9 cd9 ct9), sl9⟩)
    (c9 : PySem.W.codeIn K cd9 "_law_paths" = true) (k9 : PySem.W.keepIn K (.ref f9) = true)
    (a10 : PySem.W.nsIn K mainGlobals "_law_loose" = some (some (.ref f10)))
    (l10 : K.lookup f10 = some ⟨oc10, od10, .func (PySem.W.fnOf "_law_loose" "_law_loose" (defArgs sLoose) (defBody sLoose) (defScope sLoose) .none kV10 dc10 pm10 an10 cd10 ct10), sl10⟩)
    (c10 : PySem.W.codeIn K cd10 "_law_loose" = true) (k10 : PySem.W.keepIn K (.ref f10) = true)
    (a11 : PySem.W.nsIn K mainGlobals "_law_extra" = some (some (.ref f11)))
    (l11 : K.lookup f11 = some ⟨oc11, od11, .func (PySem.W.fnOf "_law_extra" "_law_extra" (defArgs sExtra) (defBody sExtra) (defScope sExtra) .none kV11 dc11 pm11 an11 cd11 ct11), sl11⟩)
    (c11 : PySem.W.codeIn K cd11 "_law_extra" = true) (k11 : PySem.W.keepIn K (.ref f11) = true)
    (a12 : PySem.W.nsIn K mainGlobals "_law_widened" = some (some (.ref f12)))
    (l12 : K.lookup f12 = some ⟨oc12, od12, .func (PySem.W.fnOf "_law_widened" "_law_widened" (defArgs sWidened) (defBody sWidened) (defScope sWidened) .none kV12 dc12 pm12 an12 cd12 ct12), sl12⟩)
    (c12 : PySem.W.codeIn K cd12 "_law_widened" = true) (k12 : PySem.W.keepIn K (.ref f12) = true)
    (a13 : PySem.W.nsIn K mainGlobals "_law_without" = some (some (.ref f13)))
    (l13 : K.lookup f13 = some ⟨oc13, od13, .func (PySem.W.fnOf "_law_without" "_law_without" (defArgs sWithout) (defBody sWithout) (defScope sWithout) .none kV13 dc13 pm13 an13 cd13 ct13), sl13⟩)
    (c13 : PySem.W.codeIn K cd13 "_law_without" = true) (k13 : PySem.W.keepIn K (.ref f13) = true)
    (a14 : PySem.W.nsIn K mainGlobals "_law_large" = some (some (.ref f14)))
    (l14 : K.lookup f14 = some ⟨oc14, od14, .func (PySem.W.fnOf "_law_large" "_law_large" (defArgs sLarge) (defBody sLarge) (defScope sLarge) .none kV14 dc14 pm14 an14 cd14 ct14), sl14⟩)
    (c14 : PySem.W.codeIn K cd14 "_law_large" = true) (k14 : PySem.W.keepIn K (.ref f14) = true)
    (a15 : PySem.W.nsIn K mainGlobals "_law_thinned" = some (some (.ref f15)))
    (l15 : K.lookup f15 = some ⟨oc15, od15, .func (PySem.W.fnOf "_law_thinned" "_law_thinned" (defArgs sThinned) (defBody sThinned) (defScope sThinned) .none kV15 dc15 pm15 an15 cd15 ct15), sl15⟩)
    (c15 : PySem.W.codeIn K cd15 "_law_thinned" = true) (k15 : PySem.W.keepIn K (.ref f15) = true)
    (a16 : PySem.W.nsIn K mainGlobals "_law_large_pair" = some (some (.ref f16)))
    (l16 : K.lookup f16 = some ⟨oc16, od16, .func (PySem.W.fnOf "_law_large_pair" "_law_large_pair" (defArgs sLargePair) (defBody sLargePair) (defScope sLargePair) .none kV16 dc16 pm16 an16 cd16 ct16), sl16⟩)
    (c16 : PySem.W.codeIn K cd16 "_law_large_pair" = true) (k16 : PySem.W.keepIn K (.ref f16) = true)
    (a17 : PySem.W.nsIn K mainGlobals "_law_pair" = some (some (.ref f17)))
    (l17 : K.lookup f17 = some ⟨oc17, od17, .func (PySem.W.fnOf "_law_pair" "_law_pair" (defArgs sPair) (defBody sPair) (defScope sPair) .none kV17 dc17 pm17 an17 cd17 ct17), sl17⟩)
    (c17 : PySem.W.codeIn K cd17 "_law_pair" = true) (k17 : PySem.W.keepIn K (.ref f17) = true)
    (a18 : PySem.W.nsIn K mainGlobals "_law_shaped" = some (some (.ref f18)))
    (l18 : K.lookup f18 = some ⟨oc18, od18, .func (PySem.W.fnOf "_law_shaped" "_law_shaped" (defArgs sShaped) (defBody sShaped) (defScope sShaped) .none kV18 dc18 pm18 an18 cd18 ct18), sl18⟩)
    (c18 : PySem.W.codeIn K cd18 "_law_shaped" = true) (k18 : PySem.W.keepIn K (.ref f18) = true)
    (a19 : PySem.W.nsIn K mainGlobals "_law_is_numbers" = some (some (.ref f19)))
    (l19 : K.lookup f19 = some ⟨oc19, od19, .func (PySem.W.fnOf "_law_is_numbers" "_law_is_numbers" (defArgs sNumbers) (defBody sNumbers) (defScope sNumbers) .none kV19 dc19 pm19 an19 cd19 ct19), sl19⟩)
    (c19 : PySem.W.codeIn K cd19 "_law_is_numbers" = true) (k19 : PySem.W.keepIn K (.ref f19) = true)
    (a20 : PySem.W.nsIn K mainGlobals "_law_holds" = some (some (.ref f20)))
    (l20 : K.lookup f20 = some ⟨oc20, od20, .func (PySem.W.fnOf "_law_holds" "_law_holds" (defArgs sHolds) (defBody sHolds) (defScope sHolds) .none kV20 dc20 pm20 an20 cd20 ct20), sl20⟩)
    (c20 : PySem.W.codeIn K cd20 "_law_holds" = true) (k20 : PySem.W.keepIn K (.ref f20) = true)
    (a21 : PySem.W.nsIn K mainGlobals "_law_is_least" = some (some (.ref f21)))
    (l21 : K.lookup f21 = some ⟨oc21, od21, .func (PySem.W.fnOf "_law_is_least" "_law_is_least" (defArgs sLeast) (defBody sLeast) (defScope sLeast) .none kV21 dc21 pm21 an21 cd21 ct21), sl21⟩)
    (c21 : PySem.W.codeIn K cd21 "_law_is_least" = true) (k21 : PySem.W.keepIn K (.ref f21) = true)
    (a22 : PySem.W.nsIn K mainGlobals "_law_told" = some (some (.ref f22)))
    (l22 : K.lookup f22 = some ⟨oc22, od22, .func (PySem.W.fnOf "_law_told" "_law_told" (defArgs sTold) (defBody sTold) (defScope sTold) .none kV22 dc22 pm22 an22 cd22 ct22), sl22⟩)
    (c22 : PySem.W.codeIn K cd22 "_law_told" = true) (k22 : PySem.W.keepIn K (.ref f22) = true)
    (a23 : PySem.W.nsIn K mainGlobals "law" = some (some (.ref f23)))
    (l23 : K.lookup f23 = some ⟨oc23, od23, .func (PySem.W.fnOf "law" "law" (defArgs sLaw) (defBody sLaw) (defScope sLaw) .none kV23 dc23 pm23 an23 cd23 ct23), sl23⟩)
    (c23 : PySem.W.codeIn K cd23 "law" = true) (k23 : PySem.W.keepIn K (.ref f23) = true)
    (z1 : PySem.W.nsIn K mainGlobals "len" = some none)
    (z2 : PySem.W.nsIn K mainGlobals "isinstance" = some none)
    (z3 : PySem.W.nsIn K mainGlobals "int" = some none)
    (z4 : PySem.W.nsIn K mainGlobals "bool" = some none)
    (z5 : PySem.W.nsIn K mainGlobals "range" = some none)
    (z6 : PySem.W.nsIn K mainGlobals "tuple" = some none)
    (z7 : PySem.W.nsIn K mainGlobals "list" = some none)
    (z8 : PySem.W.nsIn K mainGlobals "min" = some none) :
    ∃ fd : FuncData, (∀ (s : Shared) (v : Value), BindsTo s fd ⟨[v], []⟩ [("script", v)]) ∧ ∀ base : Heap, K.In base → base.Ns mainGlobals mg → FnOk l.prog w K mg base CX0 44 fa fd ["script"] (spLaw K) := by
  have e := hfa.symm.trans (PySem.W.mg_of X G a23)
  cases e
  have F1 := fun_mk (st := sPHolds) l1 c1 k1
  have b1 : Binds K _ ["big", "small"] [] := F1.binds (ps := ["big", "small"]) fun _ _ _ _ _ _ us hl => match us, hl with | [_, _], _ => rfl
  have m1 := PySem.W.mg_of X G a1
  have F2 := fun_mk (st := sPEmb) l2 c2 k2
  have b2 : Binds K _ ["big", "small"] [] := F2.binds (ps := ["big", "small"]) fun _ _ _ _ _ _ us hl => match us, hl with | [_, _], _ => rfl
  have m2 := PySem.W.mg_of X G a2
  have F3 := fun_mk (st := sImages) l3 c3 k3
  have b3 : Binds K _ ["big", "small", "path"] [] := F3.binds (ps := ["big", "small", "path"]) fun _ _ _ _ _ _ us hl => match us, hl with | [_, _, _], _ => rfl
  have m3 := PySem.W.mg_of X G a3
  have F4 := fun_mk (st := sWhole) l4 c4 k4
  have b4 : Binds K _ ["value"] [] := F4.binds (ps := ["value"]) fun _ _ _ _ _ _ us hl => match us, hl with | [_], _ => rfl
  have m4 := PySem.W.mg_of X G a4
  have F5 := fun_mk (st := sIs) l5 c5 k5
  have b5 : Binds K _ ["value", "due"] [] := F5.binds (ps := ["value", "due"]) fun _ _ _ _ _ _ us hl => match us, hl with | [_, _], _ => rfl
  have m5 := PySem.W.mg_of X G a5
  have F6 := fun_mk (st := sCell) l6 c6 k6
  have b6 : Binds K _ ["script", "k"] [] := F6.binds (ps := ["script", "k"]) fun _ _ _ _ _ _ us hl => match us, hl with | [_, _], _ => rfl
  have m6 := PySem.W.mg_of X G a6
  have F7 := fun_mk (st := sDigits) l7 c7 k7
  have b7 : Binds K _ ["cell", "sizes"] [] := F7.binds (ps := ["cell", "sizes"]) fun _ _ _ _ _ _ us hl => match us, hl with | [_, _], _ => rfl
  have m7 := PySem.W.mg_of X G a7
  have F8 := fun_mk (st := sTree) l8 c8 k8
  have b8 : Binds K _ ["row", "depth"] [] := F8.binds (ps := ["row", "depth"]) fun _ _ _ _ _ _ us hl => match us, hl with | [_, _], _ => rfl
  have m8 := PySem.W.mg_of X G a8
  have F9 := fun_mk (st := sPaths) l9 c9 k9
  have b9 : Binds K _ ["tree"] [] := F9.binds (ps := ["tree"]) fun _ _ _ _ _ _ us hl => match us, hl with | [_], _ => rfl
  have m9 := PySem.W.mg_of X G a9
  have F10 := fun_mk (st := sLoose) l10 c10 k10
  have b10 : Binds K _ ["digits", "highest"] [] := F10.binds (ps := ["digits", "highest"]) fun _ _ _ _ _ _ us hl => match us, hl with | [_, _], _ => rfl
  have m10 := PySem.W.mg_of X G a10
  have F11 := fun_mk (st := sExtra) l11 c11 k11
  have b11 : Binds K _ ["pool"] [] := F11.binds (ps := ["pool"]) fun _ _ _ _ _ _ us hl => match us, hl with | [_], _ => rfl
  have m11 := PySem.W.mg_of X G a11
  have F12 := fun_mk (st := sWidened) l12 c12 k12
  have b12 : Binds K _ ["tree", "pool"] [] := F12.binds (ps := ["tree", "pool"]) fun _ _ _ _ _ _ us hl => match us, hl with | [_, _], _ => rfl
  have m12 := PySem.W.mg_of X G a12
  have F13 := fun_mk (st := sWithout) l13 c13 k13
  have b13 : Binds K _ ["tree", "path"] [] := F13.binds (ps := ["tree", "path"]) fun _ _ _ _ _ _ us hl => match us, hl with | [_, _], _ => rfl
  have m13 := PySem.W.mg_of X G a13
  have F14 := fun_mk (st := sLarge) l14 c14 k14
  have b14 : Binds K _ ["script", "at"] [] := F14.binds (ps := ["script", "at"]) fun _ _ _ _ _ _ us hl => match us, hl with | [_, _], _ => rfl
  have m14 := PySem.W.mg_of X G a14
  have F15 := fun_mk (st := sThinned) l15 c15 k15
  have b15 : Binds K _ ["tree", "pool"] [] := F15.binds (ps := ["tree", "pool"]) fun _ _ _ _ _ _ us hl => match us, hl with | [_, _], _ => rfl
  have m15 := PySem.W.mg_of X G a15
  have F16 := fun_mk (st := sLargePair) l16 c16 k16
  have b16 : Binds K _ ["script", "at"] [] := F16.binds (ps := ["script", "at"]) fun _ _ _ _ _ _ us hl => match us, hl with | [_, _], _ => rfl
  have m16 := PySem.W.mg_of X G a16
  have F17 := fun_mk (st := sPair) l17 c17 k17
  have b17 : Binds K _ ["script", "at"] [] := F17.binds (ps := ["script", "at"]) fun _ _ _ _ _ _ us hl => match us, hl with | [_, _], _ => rfl
  have m17 := PySem.W.mg_of X G a17
  have F18 := fun_mk (st := sShaped) l18 c18 k18
  have b18 : Binds K _ ["tree", "mode"] [] := F18.binds (ps := ["tree", "mode"]) fun _ _ _ _ _ _ us hl => match us, hl with | [_, _], _ => rfl
  have m18 := PySem.W.mg_of X G a18
  have F19 := fun_mk (st := sNumbers) l19 c19 k19
  have b19 : Binds K _ ["value"] [] := F19.binds (ps := ["value"]) fun _ _ _ _ _ _ us hl => match us, hl with | [_], _ => rfl
  have m19 := PySem.W.mg_of X G a19
  have F20 := fun_mk (st := sHolds) l20 c20 k20
  have b20 : Binds K _ ["big", "small"] [] := F20.binds (ps := ["big", "small"]) fun _ _ _ _ _ _ us hl => match us, hl with | [_, _], _ => rfl
  have m20 := PySem.W.mg_of X G a20
  have F21 := fun_mk (st := sLeast) l21 c21 k21
  have b21 : Binds K _ ["big", "small", "images"] [] := F21.binds (ps := ["big", "small", "images"]) fun _ _ _ _ _ _ us hl => match us, hl with | [_, _, _], _ => rfl
  have m21 := PySem.W.mg_of X G a21
  have F22 := fun_mk (st := sTold) l22 c22 k22
  have b22 : Binds K _ ["big", "small", "mode"] [] := F22.binds (ps := ["big", "small", "mode"]) fun _ _ _ _ _ _ us hl => match us, hl with | [_, _, _], _ => rfl
  have m22 := PySem.W.mg_of X G a22
  have F23 := fun_mk (st := sLaw) l23 c23 k23
  have m23 := PySem.W.mg_of X G a23
  have n_len := PySem.W.mg_none_of X G z1
  have n_isinstance := PySem.W.mg_none_of X G z2
  have n_int := PySem.W.mg_none_of X G z3
  have n_bool := PySem.W.mg_none_of X G z4
  have n_range := PySem.W.mg_none_of X G z5
  have n_tuple := PySem.W.mg_none_of X G z6
  have n_list := PySem.W.mg_none_of X G z7
  have n_min := PySem.W.mg_none_of X G z8
  refine ⟨PySem.W.fnOf "law" "law" (defArgs sLaw) (defBody sLaw) (defScope sLaw) .none kV23 dc23 pm23 an23 cd23 ct23, fun s v => .of_eq rfl, fun base _ _ => ?_⟩
  have PIm := images_all (P := l.prog) (w := w) (base := base) F3 b3 m3 n_len 22
  have PPh := ok_pholds (P := l.prog) (w := w) (base := base) F1 PIm b3 k3 m3
  have PEm := ok_pemb (P := l.prog) (w := w) (base := base) F2 PIm b3 k3 m3 n_tuple
  have PIs := ok_is (P := l.prog) (w := w) (mg := mg) (base := base) F5
  have PWh := K21.ok_whole (P := l.prog) (w := w) (base := base) F4 n_isinstance n_int n_bool
  have PC := K21.ok_cell (P := l.prog) (w := w) (base := base) F6 n_len n_int
  have PD := K21.ok_digits (P := l.prog) (w := w) (base := base) F7 n_len n_int n_range
  have PT := K21.tree_all (P := l.prog) (w := w) (base := base) F8 b8 m8 n_tuple 4
  have PP := K03.paths_all (P := l.prog) (w := w) (base := base) F9 b9 m9 n_len n_range 21
  have PO := ok_loose (P := l.prog) (w := w) (base := base) F10 n_len n_range n_tuple
  have PX0 := ok_extra (P := l.prog) (w := w) (base := base) F11 n_len
  have PX := widened_all (P := l.prog) (w := w) (base := base) F12 b12 m12 PX0 b11 k11 m11 n_tuple 21
  have PWo := without_all (P := l.prog) (w := w) (base := base) F13 b13 m13 n_len 21
  have PLa := ok_large (P := l.prog) (w := w) (base := base) F14 PC b6 k6 m6 PD b7 k7 m7 n_len n_range n_tuple n_min
  have PTh := thinned_all (P := l.prog) (w := w) (base := base) F15 b15 m15 n_len n_tuple 21
  have PLP := ok_lp (P := l.prog) (w := w) (base := base) F16 PC b6 k6 m6 PD b7 k7 m7 PLa b14 k14 m14 PTh b15 k15 m15 PP b9 k9 m9 PWo b13 k13 m13 n_len n_range n_int
  have PPa := ok_pair (P := l.prog) (w := w) (base := base) F17 PC b6 k6 m6 PD b7 k7 m7 PO b10 k10 m10 PT b8 k8 m8 PX b12 k12 m12 PP b9 k9 m9 PWo b13 k13 m13 n_len n_range n_int
  have PS := shaped_all (P := l.prog) (w := w) (base := base) F18 b18 m18 n_tuple n_int 21
  have PN := ok_numbers (P := l.prog) (w := w) (base := base) F19 PWh b4 k4 m4 n_isinstance n_tuple
  have PH := holds_all (P := l.prog) (w := w) (base := base) F20 b20 m20 n_len n_range 21
  have PLe := least_all (P := l.prog) (w := w) (base := base) F21 b21 m21 PP b9 k9 m9 PH b20 k20 m20 n_len n_range 21
  have PTo := ok_told (P := l.prog) (w := w) (base := base) F22 PH b20 k20 m20 PS b18 k18 m18 PPh b1 k1 m1 PEm b2 k2 m2 PIs b5 k5 m5 PN b19 k19 m19 PLe b21 k21 m21 n_isinstance n_tuple n_list
  exact ok_law F23 PC b6 k6 m6 PD b7 k7 m7 PPa b17 k17 m17 PTo b22 k22 m22 PLP b16 k16 m16 n_int
end K03
open PySem PySem.W PyProof.Rows
set_option maxRecDepth 100000 in
set_option maxHeartbeats 0 in
theorem PySem.Challenge.cw_holdsalltrees_k03_embedding_whole_holds : PySem.Challenge.rw_holdsalltrees_k03_embedding_whole.Holds := by
  w_on; o_law; k_head; (case hw => w_witness2)
  k_fill
  refine L2.walk_of (l := PySem.Challenge.rw_holdsalltrees_k03_embedding_whole) (n := 63) (k := 44) (x := "script") (CX := fun _ => L2.CX0) (sp := fun w => K03.spLaw _) rfl (by decide) rfl ⟨rfl, by decide, by decide⟩ (fun w h Y => PySem.W.kIn_of Y) ?F (fun _ _ a ns hl _ hS => ⟨a, ns, rfl, hS, hl, fun _ => rfl⟩) (fun _ _ _ _ _ h => h)
  case F =>
    intro w mg fa h KX G hmg
    refine' K03.all_mk KX G hmg ?a1 ?l1 ?c1 ?k1 ?a2 ?l2 ?c2 ?k2 ?a3 ?l3 ?c3 ?k3 ?a4 ?l4 ?c4 ?k4 ?a5 ?l5 ?c5 ?k5 ?a6 ?l6 ?c6 ?k6 ?a7 ?l7 ?c7 ?k7 ?a8 ?l8 ?c8 ?k8 ?a9 ?l9 ?c9 ?k9 ?a10 ?l10 ?c10 ?k10 ?a11 ?l11 ?c11 ?k11 ?a12 ?l12 ?c12 ?k12 ?a13 ?l13 ?c13 ?k13 ?a14 ?l14 ?c14 ?k14 ?a15 ?l15 ?c15 ?k15 ?a16 ?l16 ?c16 ?k16 ?a17 ?l17 ?c17 ?k17 ?a18 ?l18 ?c18 ?k18 ?a19 ?l19 ?c19 ?k19 ?a20 ?l20 ?c20 ?k20 ?a21 ?l21 ?c21 ?k21 ?a22 ?l22 ?c22 ?k22 ?a23 ?l23 ?c23 ?k23 ?z1 ?z2 ?z3 ?z4 ?z5 ?z6 ?z7 ?z8
    (case a1 => k_is)
    (case l1 => k_is)
    (case c1 => k_is)
    (case k1 => k_is)
    (case a2 => k_is)
    (case l2 => k_is)
    (case c2 => k_is)
    (case k2 => k_is)
    (case a3 => k_is)
    (case l3 => k_is)
    (case c3 => k_is)
    (case k3 => k_is)
    (case a4 => k_is)
    (case l4 => k_is)
    (case c4 => k_is)
    (case k4 => k_is)
    (case a5 => k_is)
    (case l5 => k_is)
    (case c5 => k_is)
    (case k5 => k_is)
    (case a6 => k_is)
    (case l6 => k_is)
    (case c6 => k_is)
    (case k6 => k_is)
    (case a7 => k_is)
    (case l7 => k_is)
    (case c7 => k_is)
    (case k7 => k_is)
    (case a8 => k_is)
    (case l8 => k_is)
    (case c8 => k_is)
    (case k8 => k_is)
    (case a9 => k_is)
    (case l9 => k_is)
    (case c9 => k_is)
    (case k9 => k_is)
    (case a10 => k_is)
    (case l10 => k_is)
    (case c10 => k_is)
    (case k10 => k_is)
    (case a11 => k_is)
    (case l11 => k_is)
    (case c11 => k_is)
    (case k11 => k_is)
    (case a12 => k_is)
    (case l12 => k_is)
    (case c12 => k_is)
    (case k12 => k_is)
    (case a13 => k_is)
    (case l13 => k_is)
    (case c13 => k_is)
    (case k13 => k_is)
    (case a14 => k_is)
    (case l14 => k_is)
    (case c14 => k_is)
    (case k14 => k_is)
    (case a15 => k_is)
    (case l15 => k_is)
    (case c15 => k_is)
    (case k15 => k_is)
    (case a16 => k_is)
    (case l16 => k_is)
    (case c16 => k_is)
    (case k16 => k_is)
    (case a17 => k_is)
    (case l17 => k_is)
    (case c17 => k_is)
    (case k17 => k_is)
    (case a18 => k_is)
    (case l18 => k_is)
    (case c18 => k_is)
    (case k18 => k_is)
    (case a19 => k_is)
    (case l19 => k_is)
    (case c19 => k_is)
    (case k19 => k_is)
    (case a20 => k_is)
    (case l20 => k_is)
    (case c20 => k_is)
    (case k20 => k_is)
    (case a21 => k_is)
    (case l21 => k_is)
    (case c21 => k_is)
    (case k21 => k_is)
    (case a22 => k_is)
    (case l22 => k_is)
    (case c22 => k_is)
    (case k22 => k_is)
    (case a23 => k_is)
    (case l23 => k_is)
    (case c23 => k_is)
    (case k23 => k_is)
    (case z1 => k_is)
    (case z2 => k_is)
    (case z3 => k_is)
    (case z4 => k_is)
    (case z5 => k_is)
    (case z6 => k_is)
    (case z7 => k_is)
    (case z8 => k_is)
