import PyProof.Rows.All
import Wide.All
import OpenK.AllK
import Wide.FinOn
import HandS.ForMost
import HandS.ForExc
import HandS.Defaults
import HandS.IsInst
import HandS.Flow
import HandS.Conv
import HandS.TupAny
import HandS.TupMul
import HandS.More
import HandS.Strs
import HandS.SortKw
import HandS.MakeKwOnly
import KE.DataMinMax
import HandS.Codes
import PySem.Challenge.RW_holdsalltrees_k57_rows_and_signals
set_option Elab.async false
set_option linter.all false
set_option maxRecDepth 100000
set_option maxHeartbeats 4000000
namespace GM
open PySem PySem.Spec PyProof.Rows L2
/-! ### a def that is known by its promise -/
structure Kn (P : Program) (w : World) (K : PySem.W.Frag) (mg : Str → Option Value) (base : Heap) (k : Nat) (x : Str) (ps : List Str) (sp : Sp) where
  f : Addr
  fd : FuncData
  ok : FnOk P w K mg base CX0 k f fd ps sp
  b : Binds K fd ps []
  kp : PySem.W.keepIn K (.ref f) = true
  m : mg x = some (.ref f)
/-! ### heaps -/
theorem same_new {H : Hp} {p : Addr} (h : H p = none) (o : HO) : Same H (upd H p o) := fun b u q => by rw [upd_ne (ne_of_none q h)]; exact q
theorem same_upd {H H' : Hp} {p : Addr} (s : Same H H') (h : H p = none) (o : HO) : Same H (upd H' p o) := fun b u q => by
  rw [upd_ne (ne_of_none q h)]
  exact s b u q
theorem lt_line {n : Nat} (h : n ≤ 1000) : n < sizeLine := small1000 h
theorem le_line {n : Nat} (h : n ≤ 1000) : n ≤ sizeLine := Nat.le_of_lt (small1000 h)
theorem pr_get {α β : Type} {F : α → β → Prop} : ∀ {as : List α} {bs : List β} {i : Nat} {a : α}, Paired F as bs → as[i]? = some a → ∃ b, bs[i]? = some b ∧ F a b
  | _, _, _, _, .nil, e => by simp at e
  | _, _, 0, _, .cons r _, e => by simp at e; subst e; exact ⟨_, rfl, r⟩
  | _, _, i + 1, _, .cons _ t, e => by simpa using pr_get (i := i) t (by simpa using e)
theorem pr_getR {α β : Type} {F : α → β → Prop} : ∀ {as : List α} {bs : List β} {i : Nat} {b : β}, Paired F as bs → bs[i]? = some b → ∃ a, as[i]? = some a ∧ F a b
  | _, _, _, _, .nil, e => by simp at e
  | _, _, 0, _, .cons r _, e => by simp at e; subst e; exact ⟨_, rfl, r⟩
  | _, _, i + 1, _, .cons _ t, e => by simpa using pr_getR (i := i) t (by simpa using e)
theorem map_atV {α : Type} {f : α → V} {l : List α} {i : Nat} {x : V} (h : (l.map f)[i]? = some x) : ∃ s, l[i]? = some s ∧ x = f s := by
  rw [List.getElem?_map] at h
  obtain ⟨s, hs, rfl⟩ := Option.map_eq_some_iff.mp h
  exact ⟨s, hs, rfl⟩
theorem map_at {l : List Int} {i : Nat} {x : V} (h : (l.map V.int)[i]? = some x) : ∃ s, l[i]? = some s ∧ x = .int s := map_atV h
theorem at_map {α : Type} {f : α → V} {l : List α} {i : Nat} {s : α} (h : l[i]? = some s) : (l.map f)[i]? = some (f s) := by
  rw [List.getElem?_map, h]
  rfl
theorem tk1 {α : Type} {l : List α} {i : Nat} {s : α} (h : l[i]? = some s) : l.take (i + 1) = l.take i ++ [s] := by
  rw [List.take_add_one, h]
  rfl
theorem lt_of_at {α : Type} {l : List α} {i : Nat} {s : α} (h : l[i]? = some s) : i < l.length := (List.getElem?_eq_some_iff.mp h).1
theorem seqT_same {K : PySem.W.Frag} {H H' : Hp} {a : Addr} {xs : List V} (e : Same H H') (h : SqT K H a xs) : SqT K H' a xs := by
  rcases h with (h | ⟨o, h⟩) | h
  · exact .inl (.inl (e _ _ h))
  · exact .inl (.inr ⟨o, e _ _ h⟩)
  · exact .inr h
theorem sqT {K : PySem.W.Frag} {H : Hp} {a : Addr} {xs : List V} (h : H a = some (.tup xs)) : SqT K H a xs := .inl (.inl h)
theorem tYI {σ : L2.St} {H : Hp} {A B : Hp → Prop} (h : A H) : tYes σ H (fun b H3 => if b = true then A H3 else B H3) := (show if true = true then A H else B H from iteT h)
/-! ### comprehensions whose items are made without a change of the heap -/
section
variable {K : PySem.W.Frag} {a : Addr} {xs : List V} {g : TG} {tt : TT} {te : TE} {vs : List Nat} {σ : L2.St} {H1 : Hp} {D : Addr} {Qd : Hp → Prop}
theorem lc_mapL (f : Nat → V → V) (hlen : xs.length ≤ 1000) (hS : SqL K H1 a xs) (hD : H1 D = none)
    (hs : ∀ i x H (k : V → Hp → Prop) (n : Hp → Prop), xs[i]? = some x → Same H1 H → k (f i x) H → g x (wipe σ vs) H fun σ2 H2 => wipe σ2 vs = wipe σ vs ∧ tt σ2 H2 fun b H3 => if b = true then te σ2 H3 k else n H3)
    (hd : ∀ H', Same H1 H' → H' D = some (.lst (xs.mapIdx f)) → Qd H') :
    ∃ W : Nat → Nat → Hp → Prop, (∃ m, W 0 m (upd H1 D (.lst []))) ∧ ∀ i m H, W i m H →
      ((Itl K a).stop i H ∧ Qd H) ∨ ((Itl K a).go i H ∧ ∃ Nx : Hp → Prop, (∀ H', Nx H' → ∃ m', m' < m ∧ W (i + 1) m' H') ∧ ∀ x H', (Itl K a).yld i H x H' → g x (wipe σ vs) H' fun σ2 H2 => wipe σ2 vs = wipe σ vs ∧ tt σ2 H2 fun b H3 =>
        if b = true then te σ2 H3 fun y H4 => ∃ acc, H4 D = some (.lst acc) ∧ acc.length < sizeLine ∧ Nx (upd H4 D (.lst (acc ++ [y]))) else Nx H3) := by
  refine lc_list (xs := xs) (fun i H => Same H1 H ∧ H D = some (.lst ((xs.mapIdx f).take i))) ⟨same_new hD _, upd_same⟩ (fun i H _ z => z.1.seq hS) ?_ ?_
  · rintro i x H hx ⟨sm, eD⟩
    have hm : (xs.mapIdx f)[i]? = some (f i x) := by rw [List.getElem?_mapIdx, hx]; rfl
    have hl : ((xs.mapIdx f).take i).length < sizeLine := by
      refine lt_line (Nat.le_trans (List.length_take_le _ _) ?_)
      exact Nat.le_of_lt (Nat.lt_of_lt_of_le (lt_of_at hx) hlen)
    refine hs i x H _ (fun H3 => Same H1 H3 ∧ H3 D = some (.lst ((xs.mapIdx f).take (i + 1)))) hx sm ⟨_, eD, hl, same_upd sm hD _, ?_⟩
    rw [upd_same, tk1 hm]
  · rintro H ⟨sm, eD⟩
    refine hd H sm ?_
    rw [eD, List.take_of_length_le (by rw [List.length_mapIdx]; exact Nat.le_refl _)]
theorem lc_mapT (f : Nat → V → V) (hlen : xs.length ≤ 1000) (hS : SqT K H1 a xs) (hD : H1 D = none)
    (hs : ∀ i x H (k : V → Hp → Prop) (n : Hp → Prop), xs[i]? = some x → Same H1 H → k (f i x) H → g x (wipe σ vs) H fun σ2 H2 => wipe σ2 vs = wipe σ vs ∧ tt σ2 H2 fun b H3 => if b = true then te σ2 H3 k else n H3)
    (hd : ∀ H', Same H1 H' → H' D = some (.lst (xs.mapIdx f)) → Qd H') :
    ∃ W : Nat → Nat → Hp → Prop, (∃ m, W 0 m (upd H1 D (.lst []))) ∧ ∀ i m H, W i m H →
      ((Itt K a).stop i H ∧ Qd H) ∨ ((Itt K a).go i H ∧ ∃ Nx : Hp → Prop, (∀ H', Nx H' → ∃ m', m' < m ∧ W (i + 1) m' H') ∧ ∀ x H', (Itt K a).yld i H x H' → g x (wipe σ vs) H' fun σ2 H2 => wipe σ2 vs = wipe σ vs ∧ tt σ2 H2 fun b H3 =>
        if b = true then te σ2 H3 fun y H4 => ∃ acc, H4 D = some (.lst acc) ∧ acc.length < sizeLine ∧ Nx (upd H4 D (.lst (acc ++ [y]))) else Nx H3) := by
  refine lc_tup (xs := xs) (fun i H => Same H1 H ∧ H D = some (.lst ((xs.mapIdx f).take i))) ⟨same_new hD _, upd_same⟩ (fun i H _ z => seqT_same z.1 hS) ?_ ?_
  · rintro i x H hx ⟨sm, eD⟩
    have hm : (xs.mapIdx f)[i]? = some (f i x) := by rw [List.getElem?_mapIdx, hx]; rfl
    have hl : ((xs.mapIdx f).take i).length < sizeLine := by
      refine lt_line (Nat.le_trans (List.length_take_le _ _) ?_)
      exact Nat.le_of_lt (Nat.lt_of_lt_of_le (lt_of_at hx) hlen)
    refine hs i x H _ (fun H3 => Same H1 H3 ∧ H3 D = some (.lst ((xs.mapIdx f).take (i + 1)))) hx sm ⟨_, eD, hl, same_upd sm hD _, ?_⟩
    rw [upd_same, tk1 hm]
  · rintro H ⟨sm, eD⟩
    refine hd H sm ?_
    rw [eD, List.take_of_length_le (by rw [List.length_mapIdx]; exact Nat.le_refl _)]
theorem range_at {n i : Nat} (h : i < n) : (List.range n)[i]? = some i := by rw [List.getElem?_range h]
theorem lc_mapR {n : Nat} (f : Nat → V) (hlen : n ≤ 1000) (hD : H1 D = none)
    (hs : ∀ i H (k : V → Hp → Prop) (nn : Hp → Prop), i < n → Same H1 H → k (f i) H → g (.int (0 + i)) (wipe σ vs) H fun σ2 H2 => wipe σ2 vs = wipe σ vs ∧ tt σ2 H2 fun b H3 => if b = true then te σ2 H3 k else nn H3)
    (hd : ∀ H', Same H1 H' → H' D = some (.lst ((List.range n).map f)) → Qd H') :
    ∃ W : Nat → Nat → Hp → Prop, (∃ m, W 0 m (upd H1 D (.lst []))) ∧ ∀ i m H, W i m H →
      ((Itr 0 n).stop i H ∧ Qd H) ∨ ((Itr 0 n).go i H ∧ ∃ Nx : Hp → Prop, (∀ H', Nx H' → ∃ m', m' < m ∧ W (i + 1) m' H') ∧ ∀ x H', (Itr 0 n).yld i H x H' → g x (wipe σ vs) H' fun σ2 H2 => wipe σ2 vs = wipe σ vs ∧ tt σ2 H2 fun b H3 =>
        if b = true then te σ2 H3 fun y H4 => ∃ acc, H4 D = some (.lst acc) ∧ acc.length < sizeLine ∧ Nx (upd H4 D (.lst (acc ++ [y]))) else Nx H3) := by
  refine lc_range (lo := 0) (n := n) (fun i H => i ≤ n ∧ Same H1 H ∧ H D = some (.lst ((List.range i).map f))) ⟨Nat.zero_le _, same_new hD _, upd_same⟩ ?_ ?_
  · rintro i H hi ⟨_, sm, eD⟩
    have hl : ((List.range i).map f).length < sizeLine := by
      rw [List.length_map, List.length_range]
      exact lt_line (by omega)
    refine hs i H _ (fun H3 => i + 1 ≤ n ∧ Same H1 H3 ∧ H3 D = some (.lst ((List.range (i + 1)).map f))) hi sm ⟨_, eD, hl, by omega, same_upd sm hD _, ?_⟩
    rw [upd_same, List.range_succ, List.map_append]
    rfl
  · rintro H ⟨_, sm, eD⟩
    exact hd H sm eD
/-- items that are new objects, over a range -/
theorem lc_newR {n : Nat} (c : Nat → HO) (hlen : n ≤ 1000) (hD : H1 D = none)
    (hs : ∀ i H (k : V → Hp → Prop) (nn : Hp → Prop), i < n → Same H1 H → (∀ p H', Same H H' → H p = none → H' p = some (c i) → k (.ref p) H') → g (.int (0 + i)) (wipe σ vs) H fun σ2 H2 => wipe σ2 vs = wipe σ vs ∧ tt σ2 H2 fun b H3 => if b = true then te σ2 H3 k else nn H3)
    (hd : ∀ H' ps, Same H1 H' → H' D = some (.lst (ps.map V.ref)) → Paired (fun p i => H1 p = none ∧ p ≠ D ∧ H' p = some (c i)) ps (List.range n) → Qd H') :
    ∃ W : Nat → Nat → Hp → Prop, (∃ m, W 0 m (upd H1 D (.lst []))) ∧ ∀ i m H, W i m H →
      ((Itr 0 n).stop i H ∧ Qd H) ∨ ((Itr 0 n).go i H ∧ ∃ Nx : Hp → Prop, (∀ H', Nx H' → ∃ m', m' < m ∧ W (i + 1) m' H') ∧ ∀ x H', (Itr 0 n).yld i H x H' → g x (wipe σ vs) H' fun σ2 H2 => wipe σ2 vs = wipe σ vs ∧ tt σ2 H2 fun b H3 =>
        if b = true then te σ2 H3 fun y H4 => ∃ acc, H4 D = some (.lst acc) ∧ acc.length < sizeLine ∧ Nx (upd H4 D (.lst (acc ++ [y]))) else Nx H3) := by
  refine lc_range (lo := 0) (n := n) (fun i H => i ≤ n ∧ Same H1 H ∧ ∃ ps : List Addr, H D = some (.lst (ps.map V.ref)) ∧ Paired (fun p i => H1 p = none ∧ p ≠ D ∧ H p = some (c i)) ps (List.range i)) ⟨Nat.zero_le _, same_new hD _, [], upd_same, .nil⟩ ?_ ?_
  · rintro i H hi ⟨_, sm, ps, eD, pw⟩
    have lp : ps.length = i := by rw [pw.length, List.length_range]
    refine hs i H _ (fun H3 => i + 1 ≤ n ∧ Same H1 H3 ∧ ∃ ps : List Addr, H3 D = some (.lst (ps.map V.ref)) ∧ Paired (fun p i => H1 p = none ∧ p ≠ D ∧ H3 p = some (c i)) ps (List.range (i + 1))) hi sm fun p H' s' hp e' => ⟨_, s' _ _ eD, ?_, by omega, same_upd (sm.trans s') hD _, ps ++ [p], ?_, ?_⟩
    · rw [List.length_map, lp]; exact lt_line (by omega)
    · rw [upd_same, List.map_append]; rfl
    · rw [List.range_succ]
      have hpD : p ≠ D := fun z => by rw [z, eD] at hp; cases hp
      refine (L2.Paired.mapP pw fun b j z => ⟨z.1, z.2.1, by rw [upd_ne z.2.1]; exact s' _ _ z.2.2⟩).snoc ⟨sm.free hp, hpD, by rw [upd_ne hpD]; exact e'⟩
  · rintro H ⟨_, sm, ps, eD, pw⟩
    exact hd H ps sm eD pw
/-- items that are new objects, over a list -/
theorem lc_newL (R : Nat → V → HO → Prop) (hlen : xs.length ≤ 1000) (hS : SqL K H1 a xs) (hD : H1 D = none)
    (hs : ∀ i x H (k : V → Hp → Prop) (nn : Hp → Prop), xs[i]? = some x → Same H1 H → (∀ p o H', Same H H' → H p = none → H' p = some o → R i x o → k (.ref p) H') → g x (wipe σ vs) H fun σ2 H2 => wipe σ2 vs = wipe σ vs ∧ tt σ2 H2 fun b H3 => if b = true then te σ2 H3 k else nn H3)
    (hd : ∀ H' (ps : List Addr), Same H1 H' → H' D = some (.lst (ps.map V.ref)) → ps.length = xs.length → (∀ i p x, ps[i]? = some p → xs[i]? = some x → ∃ o, H1 p = none ∧ p ≠ D ∧ H' p = some o ∧ R i x o) → Qd H') :
    ∃ W : Nat → Nat → Hp → Prop, (∃ m, W 0 m (upd H1 D (.lst []))) ∧ ∀ i m H, W i m H →
      ((Itl K a).stop i H ∧ Qd H) ∨ ((Itl K a).go i H ∧ ∃ Nx : Hp → Prop, (∀ H', Nx H' → ∃ m', m' < m ∧ W (i + 1) m' H') ∧ ∀ x H', (Itl K a).yld i H x H' → g x (wipe σ vs) H' fun σ2 H2 => wipe σ2 vs = wipe σ vs ∧ tt σ2 H2 fun b H3 =>
        if b = true then te σ2 H3 fun y H4 => ∃ acc, H4 D = some (.lst acc) ∧ acc.length < sizeLine ∧ Nx (upd H4 D (.lst (acc ++ [y]))) else Nx H3) := by
  refine lc_list (xs := xs) (fun i H => Same H1 H ∧ ∃ ps : List Addr, H D = some (.lst (ps.map V.ref)) ∧ ps.length = i ∧ ∀ j p x, ps[j]? = some p → xs[j]? = some x → ∃ o, H1 p = none ∧ p ≠ D ∧ H p = some o ∧ R j x o) ⟨same_new hD _, [], upd_same, rfl, fun j p x e => by simp at e⟩ (fun i H _ z => z.1.seq hS) ?_ ?_
  · rintro i x H hx ⟨sm, ps, eD, lp, pw⟩
    refine hs i x H _ (fun H3 => Same H1 H3 ∧ ∃ ps : List Addr, H3 D = some (.lst (ps.map V.ref)) ∧ ps.length = i + 1 ∧ ∀ j p x, ps[j]? = some p → xs[j]? = some x → ∃ o, H1 p = none ∧ p ≠ D ∧ H3 p = some o ∧ R j x o) hx sm fun p o H' s' hp e' r => ⟨_, s' _ _ eD, ?_, same_upd (sm.trans s') hD _, ps ++ [p], ?_, ?_, ?_⟩
    · rw [List.length_map, lp]; exact lt_line (Nat.le_of_lt (Nat.lt_of_lt_of_le (lt_of_at hx) hlen))
    · rw [upd_same, List.map_append]; rfl
    · rw [List.length_append, lp]; rfl
    · intro j q y hq hy
      have hpD : p ≠ D := fun z => by rw [z, eD] at hp; cases hp
      by_cases hj : j < i
      · rw [List.getElem?_append_left (by omega)] at hq
        obtain ⟨o2, z1, z2, z3, z4⟩ := pw j q y hq hy
        exact ⟨o2, z1, z2, by rw [upd_ne z2]; exact s' _ _ z3, z4⟩
      · have hji : j = i := by
          have := lt_of_at hq
          rw [List.length_append, lp] at this
          simp only [List.length_cons, List.length_nil] at this
          omega
        subst hji
        rw [List.getElem?_append_right (by omega), lp, Nat.sub_self] at hq
        simp at hq
        subst hq
        rw [hx] at hy
        cases hy
        exact ⟨o, sm.free hp, hpD, by rw [upd_ne hpD]; exact e', r⟩
  · rintro H ⟨sm, ps, eD, lp, pw⟩
    exact hd H ps sm eD lp pw
end
/-! ### max(t, default=d) of a tuple of ints -/
section
variable {X : Cx}
theorem depth_ints : ∀ ns : List Int, PyData.depthAll (ns.map PyData.int) = 0
  | [] => rfl
  | n :: ns => by
    rw [List.map_cons]
    show max (PyData.depth (.int n)) (PyData.depthAll (ns.map PyData.int)) = 0
    rw [depth_ints ns]
    rfl
theorem dp_ints {K : PySem.W.Frag} {H : Hp} : ∀ ns : List Int, DpAll K H (ns.map V.int) (ns.map PyData.int)
  | [] => .nil
  | n :: ns => .cons (.int n) (dp_ints ns)
theorem alike_ints (ns : List Int) : PySem.W.AlikeAll (ns.map PyData.int) := by
  constructor
  · intro x hx y hy
    obtain ⟨i, _, rfl⟩ := List.mem_map.mp hx
    obtain ⟨j, _, rfl⟩ := List.mem_map.mp hy
    rfl
  · intro x hx e
    obtain ⟨i, _, rfl⟩ := List.mem_map.mp hx
    cases e
theorem foldl_max_ge (l : List Int) : ∀ a : Int, a ≤ l.foldl max a ∧ (∀ y ∈ l, y ≤ l.foldl max a) ∧ (l.foldl max a = a ∨ l.foldl max a ∈ l) := by
  induction l with
  | nil => exact fun a => ⟨Int.le_refl _, fun y h => (nomatch h), .inl rfl⟩
  | cons b l ih =>
    intro a
    obtain ⟨h1, h2, h3⟩ := ih (max a b)
    have e : (b :: l).foldl max a = l.foldl max (max a b) := rfl
    rw [e]
    refine ⟨by omega, fun y hy => ?_, ?_⟩
    · rcases List.mem_cons.mp hy with rfl | hy
      · omega
      · exact h2 y hy
    · rcases h3 with h3 | h3
      · by_cases c : a ≤ b
        · right; rw [h3, Int.max_eq_right c]; exact List.mem_cons_self
        · left; rw [h3, Int.max_eq_left (by omega)]
      · right; exact List.mem_cons_of_mem _ h3
def rMaxDef (K : PySem.W.Frag) : List V → List V → Hp → VK → Prop := fun vs zs H Q => ∃ (a : Addr) (ns : List Int) (d : Int), vs = [.ref a] ∧ zs = [.int d] ∧ SqT K H a (ns.map V.int) ∧
  (ns = [] → Q (.int d) H) ∧ ∀ m, m ∈ ns → (∀ y ∈ ns, y ≤ m) → Q (.int m) H
theorem cr_maxDef (hc : X.calm = true) (hu : X.A.units + 2 < cLine) : CallRK X (.builtin "max") [Str.ofString "default"] (rMaxDef X.K) := by
  intro pins s σ H vs zs us ws Q I r rz h
  obtain ⟨a, ns, d, rfl, rfl, hT, q0, q⟩ := h
  obtain ⟨its, rv, hl, hz⟩ := I.tuple hT
  obtain ⟨as, ra⟩ := Dp.readsAll I (ns.map PyData.int) (ns.map V.int) its (dp_ints ns) rv
  rw [Vals.ref1 r]
  obtain ⟨u0, e0, r0⟩ : ∃ u0, ws = [u0] ∧ RelV (.int d) u0 := by
    cases rz with
    | cons h t =>
      cases t
      exact ⟨_, rfl, h⟩
  subst e0
  show wpAny (model X.prog X.w) X.A (call (.builtin "max") [.ref a] [(Str.ofString "default", u0)]) (EP X pins σ Q) X.xe s
  refine PySem.W.max_tuple_default (I.ok.hd hc) hl ra (alike_ints ns) (by rw [depth_ints]; omega) (fun e h' tk hk => ?_) (fun y ys i v h' tk bs e hi hr hk => ?_)
  · exact ⟨.int d, H, I.kept hk, r0, q0 (List.map_eq_nil_iff.mp e)⟩
  · cases ns with
    | nil => cases e
    | cons n ns =>
      rw [List.map_cons] at e
      injection e with e1 e2
      subst e1
      subst e2
      rw [PySem.W.maxD_ints] at hr
      cases hr with
      | int j t =>
        obtain ⟨h1, h2, h3⟩ := foldl_max_ge ns n
        refine ⟨.int _, H, I.kept hk, ⟨_, rfl⟩, q _ ?_ ?_⟩
        · rcases h3 with h3 | h3
          · rw [h3]; exact List.mem_cons_self
          · exact List.mem_cons_of_mem _ h3
        · intro y hy
          rcases List.mem_cons.mp hy with rfl | hy
          · exact h1
          · exact h2 y hy
end
end GM
set_option Elab.async false
set_option linter.all false
set_option maxRecDepth 100000
set_option maxHeartbeats 4000000
namespace GM
open PySem PySem.Spec PyProof.Rows L2
theorem tuple_mul1 (l : Addr) (items : Array Value) (n : Nat) (dd : Option Addr) (sl : Array (Option Value)) (u : Tok) :
    Meets (Builtin.«tuple.__mul__» ⟨[.ref l, .int 1 u], []⟩) (fun _ R s => s.heap.get? l = some { cls := .type "tuple", dict := dd, data := .seq items n, slots := sl } ∧
      R (.ok (.ret (Value.ref l))) s) :=
  .of_wp fun prog w A R s h => by
    obtain ⟨hp, g, d, tk, os⟩ := s
    obtain ⟨hl, h⟩ := h
    have f1 := AutoSeq1.idx_int
    wp_walk using wpAny_loadPart' hl
    repeat (first
      | (refine wpAny_ite_false (by decide) ?_; wp_walk using wpAny_loadPart' hl)
      | (refine wpAny_ite_true (by cases items.isEmpty <;> rfl) ?_; wp_walk using wpAny_loadPart' hl))
    exact ⟨_, rfl, h⟩
/-- a tuple once: itself -/
def rRepT1 (K : PySem.W.Frag) : R2 := fun x y H Q => ∃ l xs, x = .ref l ∧ y = .int 1 ∧ SqT K H l xs ∧ Q (.ref l) H
section
variable {X : Cx}
theorem op_repT1 : OpR X (binaryOp .Mult) (rRepT1 X.K) := by
  intro pins s σ H x y v u Q I rx ry h
  obtain ⟨l, xs, rfl, rfl, hT, q⟩ := h
  cases rx
  obtain ⟨t, rfl⟩ := ry
  obtain ⟨its, r, ⟨⟨cls, dd, data, sl⟩, ho, hc, n, hd⟩, hs⟩ := I.tuple hT
  simp only at hc hd
  subst hc hd
  refine wpAny_binaryOp_repeat_ref (T := "tuple") (U := "int") (by decide) ⟨_, ho, rfl⟩ (fun s' => typeIs_int s' 1 t) noFill_tuple_mul F.fills_int_mul F.slot_int_rmul repeat_tuple F.slot_int_index.lookup
    (call_meets F.slot_int_rmul (typeIs_int s 1 t) F.entry_int_rmul (F.args_int_rmul_2 _ _) (int_rmul_tuple 1 t l its.toArray n dd sl)
      ⟨ho, rfl, ⟨_, ho, rfl⟩, call_meets F.slot_tuple_mul ⟨_, ho, rfl⟩ F.entry_tuple_mul (F.args_tuple_mul_2 _ _) (tuple_mul1 l its.toArray n dd sl t) ⟨ho, ?_⟩⟩)
  exact ⟨.ref l, H, I, rfl, q⟩
end
/-- the built-ins that the module doesn't name anew -/
structure Blt (mg : Str → Option Value) : Prop where
  len : mg "len" = none
  isinstance : mg "isinstance" = none
  int : mg "int" = none
  bool : mg "bool" = none
  range : mg "range" = none
  tuple : mg "tuple" = none
  list : mg "list" = none
  max : mg "max" = none
  min : mg "min" = none
  sorted : mg "sorted" = none
  enumerate : mg "enumerate" = none
  set : mg "set" = none
end GM
set_option Elab.async false
set_option linter.all false
set_option maxRecDepth 100000
set_option maxHeartbeats 4000000
namespace GM
open PySem PySem.Spec PyProof.Rows L2
def topS (i : Nat) : Stmt := PySem.Challenge.pw_holdsalltrees_k57_rows_and_signals.main.body.getD i (.Pass ⟨0, 0, 0, 0⟩)
abbrev s__wall : Stmt := topS 0
abbrev s_start_row : Stmt := topS 2
abbrev s_raised : Stmt := topS 3
abbrev s_emptied : Stmt := topS 4
abbrev s_signal : Stmt := topS 5
abbrev s_as_tuples : Stmt := topS 7
abbrev s_is_whole : Stmt := topS 8
abbrev s_is_number_to : Stmt := topS 9
abbrev s_BadVertex___init__ : Stmt := inClass (topS 12) 0
abbrev s_Game___init__ : Stmt := inClass (topS 15) 0
abbrev s_Game___len__ : Stmt := inClass (topS 15) 1
abbrev s_Game___eq__ : Stmt := inClass (topS 15) 2
abbrev s_Game_turned : Stmt := inClass (topS 15) 3
abbrev s_Game_restricted : Stmt := inClass (topS 15) 4
abbrev s_are_successors : Stmt := topS 16
abbrev s__law_whole : Stmt := topS 18
abbrev s__law_cell : Stmt := topS 19
abbrev s__law_digits : Stmt := topS 20
abbrev s__law_is_row : Stmt := topS 21
abbrev s__law_is_emptied : Stmt := topS 22
abbrev s__law_is_signal : Stmt := topS 23
abbrev s__law_start_good : Stmt := topS 24
abbrev s__law_row_good : Stmt := topS 25
abbrev s_law : Stmt := topS 26
abbrev n_start_row : List Str := ["game", "registers"]
theorem sc_start_row : FnScope n_start_row ["game", "registers"] (defScope s_start_row) := ⟨rfl, rfl, rfl, by decide +kernel, rfl, by decide +kernel, by decide +kernel⟩
abbrev n_raised : List Str := ["row", "priority", "number"]
theorem sc_raised : FnScope n_raised ["row", "priority"] (defScope s_raised) := ⟨rfl, rfl, rfl, by decide +kernel, rfl, by decide +kernel, by decide +kernel⟩
abbrev n_emptied : List Str := ["row", "which", "priority", "numbers"]
theorem sc_emptied : FnScope n_emptied ["row", "which", "priority"] (defScope s_emptied) := ⟨rfl, rfl, rfl, by decide +kernel, rfl, by decide +kernel, by decide +kernel⟩
abbrev n_signal : List Str := ["which", "value"]
theorem sc_signal : FnScope n_signal ["which", "value"] (defScope s_signal) := ⟨rfl, rfl, rfl, by decide +kernel, rfl, by decide +kernel, by decide +kernel⟩
abbrev n_as_tuples : List Str := ["value", "item"]
theorem sc_as_tuples : FnScope n_as_tuples ["value"] (defScope s_as_tuples) := ⟨rfl, rfl, rfl, by decide +kernel, rfl, by decide +kernel, by decide +kernel⟩
abbrev n_is_whole : List Str := ["value"]
theorem sc_is_whole : FnScope n_is_whole ["value"] (defScope s_is_whole) := ⟨rfl, rfl, rfl, by decide +kernel, rfl, by decide +kernel, by decide +kernel⟩
abbrev n_is_number_to : List Str := ["value", "most"]
theorem sc_is_number_to : FnScope n_is_number_to ["value", "most"] (defScope s_is_number_to) := ⟨rfl, rfl, rfl, by decide +kernel, rfl, by decide +kernel, by decide +kernel⟩
abbrev n_BadVertex___init__ : List Str := ["self", "vertex"]
theorem sc_BadVertex___init__ : FnScope n_BadVertex___init__ ["self", "vertex"] (defScope s_BadVertex___init__) := ⟨rfl, rfl, rfl, by decide +kernel, rfl, by decide +kernel, by decide +kernel⟩
abbrev n_Game___init__ : List Str := ["self", "owners", "priorities", "successors", "vertex"]
theorem sc_Game___init__ : FnScope n_Game___init__ ["self", "owners", "priorities", "successors"] (defScope s_Game___init__) := ⟨rfl, rfl, rfl, by decide +kernel, rfl, by decide +kernel, by decide +kernel⟩
abbrev n_Game___len__ : List Str := ["self"]
theorem sc_Game___len__ : FnScope n_Game___len__ ["self"] (defScope s_Game___len__) := ⟨rfl, rfl, rfl, by decide +kernel, rfl, by decide +kernel, by decide +kernel⟩
abbrev n_Game___eq__ : List Str := ["self", "other"]
theorem sc_Game___eq__ : FnScope n_Game___eq__ ["self", "other"] (defScope s_Game___eq__) := ⟨rfl, rfl, rfl, by decide +kernel, rfl, by decide +kernel, by decide +kernel⟩
abbrev n_Game_turned : List Str := ["self"]
theorem sc_Game_turned : FnScope n_Game_turned ["self"] (defScope s_Game_turned) := ⟨rfl, rfl, rfl, by decide +kernel, rfl, by decide +kernel, by decide +kernel⟩
abbrev n_Game_restricted : List Str := ["self", "vertices"]
theorem sc_Game_restricted : FnScope n_Game_restricted ["self", "vertices"] (defScope s_Game_restricted) := ⟨rfl, rfl, rfl, by decide +kernel, rfl, by decide +kernel, by decide +kernel⟩
abbrev n_are_successors : List Str := ["value", "count", "least", "item"]
theorem sc_are_successors : FnScope n_are_successors ["value", "count"] (defScope s_are_successors) := ⟨rfl, rfl, rfl, by decide +kernel, rfl, by decide +kernel, by decide +kernel⟩
abbrev n__law_whole : List Str := ["value"]
theorem sc__law_whole : FnScope n__law_whole ["value"] (defScope s__law_whole) := ⟨rfl, rfl, rfl, by decide +kernel, rfl, by decide +kernel, by decide +kernel⟩
abbrev n__law_cell : List Str := ["script", "k", "seed", "cell"]
theorem sc__law_cell : FnScope n__law_cell ["script", "k"] (defScope s__law_cell) := ⟨rfl, rfl, rfl, by decide +kernel, rfl, by decide +kernel, by decide +kernel⟩
abbrev n__law_digits : List Str := ["cell", "sizes", "row", "rest", "size", "seed", "k", "twice"]
theorem sc__law_digits : FnScope n__law_digits ["cell", "sizes"] (defScope s__law_digits) := ⟨rfl, rfl, rfl, by decide +kernel, rfl, by decide +kernel, by decide +kernel⟩
abbrev n__law_is_row : List Str := ["told", "due", "k"]
theorem sc__law_is_row : FnScope n__law_is_row ["told", "due"] (defScope s__law_is_row) := ⟨rfl, rfl, rfl, by decide +kernel, rfl, by decide +kernel, by decide +kernel⟩
abbrev n__law_is_emptied : List Str := ["told", "row", "which", "priority", "others", "k"]
theorem sc__law_is_emptied : FnScope n__law_is_emptied ["told", "row", "which", "priority"] (defScope s__law_is_emptied) := ⟨rfl, rfl, rfl, by decide +kernel, rfl, by decide +kernel, by decide +kernel⟩
abbrev n__law_is_signal : List Str := ["told", "which", "value", "due"]
theorem sc__law_is_signal : FnScope n__law_is_signal ["told", "which", "value"] (defScope s__law_is_signal) := ⟨rfl, rfl, rfl, by decide +kernel, rfl, by decide +kernel, by decide +kernel⟩
abbrev n__law_start_good : List Str := ["cells", "registers", "count", "priorities", "made", "ceiling", "priority", "many", "v", "k"]
theorem sc__law_start_good : FnScope n__law_start_good ["cells", "registers"] (defScope s__law_start_good) := ⟨rfl, rfl, rfl, by decide +kernel, rfl, by decide +kernel, by decide +kernel⟩
abbrev n__law_row_good : List Str := ["row", "priority", "handed", "high", "number", "copied", "which"]
theorem sc__law_row_good : FnScope n__law_row_good ["row", "priority"] (defScope s__law_row_good) := ⟨rfl, rfl, rfl, by decide +kernel, rfl, by decide +kernel, by decide +kernel⟩
abbrev n_law : List Str := ["script", "head", "count", "width", "row", "near", "priority", "cells", "many", "which", "value", "k", "v", "x"]
theorem sc_law : FnScope n_law ["script"] (defScope s_law) := ⟨rfl, rfl, rfl, by decide +kernel, rfl, by decide +kernel, by decide +kernel⟩
end GM
set_option Elab.async false
set_option linter.all false
set_option maxRecDepth 100000
set_option maxHeartbeats 4000000
namespace GM
open PySem PySem.Spec PyProof.Rows L2
/-! ### cuts, sums of tuples, equal data -/
theorem slA {K : PySem.W.Frag} {H : Hp} {a : Addr} {xs : List V} {lo hi : Option Int} {Q : V → Hp → Prop} (e : H a = some (.tup xs)) (k : ∀ r H', Same H H' → H' r = some (.tup (cutV xs lo hi)) → Q (.ref r) H') : rSlA K (.ref a) lo hi H Q := by
  refine ⟨a, xs, rfl, sqT e, fun h => k a H (.refl _) ?_, fun _ p hp => k p _ (same_new hp _) upd_same⟩
  rw [e]
  unfold cutV
  rw [h.1, h.2, List.drop_zero, Nat.sub_zero, List.take_length]
theorem catA2 {K : PySem.W.Frag} {H : Hp} {a b : Addr} {xs ys : List V} {Q : V → Hp → Prop} (ea : H a = some (.tup xs)) (eb : H b = some (.tup ys)) (hl : xs.length + ys.length ≤ sizeLine) (k : ∀ r H', Same H H' → H' r = some (.tup (xs ++ ys)) → Q (.ref r) H') : rCatA K (.ref a) (.ref b) H Q := by
  refine ⟨a, b, xs, ys, rfl, rfl, sqT ea, sqT eb, hl, fun h => k b H (.refl _) ?_, fun _ h => k a H (.refl _) ?_, fun _ _ p hp => k p _ (same_new hp _) upd_same⟩
  · rw [h]; exact eb
  · rw [h, List.append_nil]; exact ea
theorem cut_hi (xs : List V) (j : Nat) : cutV xs none (some (j : Int)) = xs.take j := by
  unfold cutV
  have e1 : HT.sIx xs.length xs.length (some (j : Int)) = min j xs.length := HT.sIx_nat xs.length xs.length j
  rw [e1, HT.sIx_none, List.drop_zero, Nat.sub_zero]
  by_cases h : j ≤ xs.length
  · rw [Nat.min_eq_left h]
  · rw [Nat.min_eq_right (by omega), List.take_length, List.take_of_length_le (by omega)]
theorem cut_lo (xs : List V) (j : Nat) : cutV xs (some (j : Int)) none = xs.drop j := by
  unfold cutV
  have e1 : HT.sIx xs.length 0 (some (j : Int)) = min j xs.length := HT.sIx_nat xs.length 0 j
  rw [e1, HT.sIx_none]
  by_cases h : j ≤ xs.length
  · rw [Nat.min_eq_left h, ← List.length_drop, List.take_length]
  · rw [Nat.min_eq_right (by omega), Nat.sub_self, List.take_zero, List.drop_of_length_le (by omega)]
theorem cut_mid (xs : List V) (i k : Nat) (h : i + k ≤ xs.length) : cutV xs (some (i : Int)) (some ((i + k : Nat) : Int)) = (xs.drop i).take k := by
  unfold cutV
  have e1 : HT.sIx xs.length 0 (some (i : Int)) = min i xs.length := HT.sIx_nat xs.length 0 i
  have e2 : HT.sIx xs.length xs.length (some ((i + k : Nat) : Int)) = min (i + k) xs.length := HT.sIx_nat xs.length xs.length (i + k)
  rw [e1, e2, Nat.min_eq_left h, Nat.min_eq_left (show i ≤ xs.length by omega), Nat.add_sub_cancel_left]
theorem eqv_ints : ∀ ns : List Int, PyData.eqvAll (ns.map PyData.int) (ns.map PyData.int) = true
  | [] => rfl
  | n :: ns => by
    rw [List.map_cons, PyData.eqvAll, eqv_ints ns, Bool.and_true]
    simp [PyData.eqv]
theorem eqv_lst (ns : List Int) : PyData.eqv (.list (ns.map PyData.int)) (.list (ns.map PyData.int)) = true := by
  rw [PyData.eqv]; exact eqv_ints ns
theorem all_list {f : Tr → PyData} {N : Nat} (h : ∀ t, (f t).canLay0 = true ∧ (f t).depth ≤ N) : ∀ l : List Tr, PyData.canLayAll0 (l.map f) = true ∧ PyData.depthAll (l.map f) ≤ N
  | [] => ⟨rfl, Nat.zero_le _⟩
  | t :: l => by
    obtain ⟨i1, i2⟩ := all_list h l
    obtain ⟨h1, h2⟩ := h t
    rw [List.map_cons]
    refine ⟨?_, ?_⟩
    · show ((f t).canLay0 && PyData.canLayAll0 (l.map f)) = true
      rw [h1, i1]; rfl
    · show max (f t).depth (PyData.depthAll (l.map f)) ≤ N
      omega
theorem shape_ints (ns : List Int) : PySem.SeqAt.shaped (.list (ns.map PyData.int)) = true := by
  obtain ⟨i1, i2⟩ := all_list (f := PyData.int) (N := 0) (fun t => ⟨rfl, Nat.le_refl _⟩) ns
  unfold PySem.SeqAt.shaped
  rw [show (PyData.list (ns.map PyData.int)).canLay0 = true from i1, decide_eq_true (show (PyData.list (ns.map PyData.int)).depth ≤ 64 by show PyData.depthAll _ + 1 ≤ _; omega)]
  rfl
theorem dp_lst {K : PySem.W.Frag} {H : Hp} {a : Addr} {ns : List Int} (e : H a = some (.lst (ns.map V.int))) : Dp K H (.ref a) (.list (ns.map PyData.int)) := .lst (SqL.of e) (dp_ints ns)
end GM
set_option Elab.async false
set_option linter.all false
set_option maxRecDepth 100000
set_option maxHeartbeats 4000000
set_option pp.maxSteps 400
set_option pp.deepTerms false
namespace GM
open PySem PySem.Spec PyProof.Rows L2
/-! ### drawn digits -/
def Dg : List Int → List Int → Prop
  | [], [] => True
  | d :: ds, s :: ss => (0 ≤ d ∧ d < s) ∧ Dg ds ss
  | _, _ => False
theorem Dg.len : ∀ {ds ss : List Int}, Dg ds ss → ds.length = ss.length
  | [], [], _ => rfl
  | _ :: _, _ :: _, h => congrArg Nat.succ (Dg.len h.2)
  | [], _ :: _, h => h.elim
  | _ :: _, [], h => h.elim
theorem Dg.snoc : ∀ {ds ss : List Int} {d s : Int}, Dg ds ss → 0 ≤ d → d < s → Dg (ds ++ [d]) (ss ++ [s])
  | [], [], _, _, _, a, b => ⟨⟨a, b⟩, True.intro⟩
  | _ :: _, _ :: _, _, _, h, a, b => ⟨h.1, Dg.snoc h.2 a b⟩
  | [], _ :: _, _, _, h, _, _ => h.elim
  | _ :: _, [], _, _, h, _, _ => h.elim
theorem Dg.cons {ds ss : List Int} {s : Int} (h : Dg ds (s :: ss)) : ∃ d r, ds = d :: r ∧ (0 ≤ d ∧ d < s) ∧ Dg r ss := by
  cases ds with
  | nil => exact h.elim
  | cons d r => exact ⟨d, r, rfl, h.1, h.2⟩
theorem Dg.nil {ds : List Int} (h : Dg ds []) : ds = [] := by
  cases ds with
  | nil => rfl
  | cons d r => exact h.elim
theorem Dg.at : ∀ {ds ss : List Int} {i : Nat} {s : Int}, Dg ds ss → ss[i]? = some s → ∃ d, ds[i]? = some d ∧ 0 ≤ d ∧ d < s
  | [], [], _, _, _, e => by simp at e
  | d :: ds, t :: ss, 0, _, h, e => by simp at e; subst e; exact ⟨d, rfl, h.1⟩
  | d :: ds, t :: ss, i + 1, s, h, e => by
    have e' : ss[i]? = some s := by simpa using e
    obtain ⟨x, h1, h2⟩ := Dg.at h.2 e'
    exact ⟨x, by simpa using h1, h2⟩
  | [], _ :: _, _, _, h, _ => h.elim
  | _ :: _, [], _, _, h, _ => h.elim
section
variable {P : Program} {w : World} {K : PySem.W.Frag} {mg : Str → Option Value} {base : Heap} (M : Blt mg)
include M
/-- of an int -/
def spWhole : Sp := fun vs H Q _ => ∃ i : Int, vs = [.int i] ∧ Q (.bl true) H
theorem ok_lwhole {f : Addr} {fd : FuncData} (F : Fun K "_law_whole" "_law_whole" s__law_whole f fd) : FnOk P w K mg base CX0 1 f fd ["value"] spWhole := by
  refine F.ok sc__law_whole (fun vs H Q E h => ?_) (fun cdv A outer s H vs Q E hr h => ?_)
  · obtain ⟨i, rfl, _⟩ := h
    rfl
  obtain ⟨i, rfl, q⟩ := h
  have nd := sc__law_whole.nd
  refine ⟨_, pss_one (ps_ret (pe_and (pe_callB call_isi (by rfl) M.isinstance boot_isinstance (pa_cons (pv 0) (pa_cons (pe_bltn (v := .ty "int") (by rfl) M.int PyProof.Rows.boot_int rfl) pa_nil))) (pe_one (pe_not (pe_callB call_isi (by rfl) M.isinstance boot_isinstance (pa_cons (pv 0) (pa_cons (pe_bltn (v := .ty "bool") (by rfl) M.bool PyProof.Rows.boot_bool rfl) pa_nil))))))), ?_⟩
  refine ⟨_, rfl, _, _, _, _, true, rfl, .ty "int", .base (.int i), kit_ty (by decide +kernel), true, rfl, ?_⟩
  refine iteT ⟨_, rfl, _, _, _, _, false, rfl, .ty "bool", .base (.int i), kit_ty (by decide +kernel), false, rfl, q⟩
theorem ok_whole {f : Addr} {fd : FuncData} (F : Fun K "is_whole" "is_whole" s_is_whole f fd) : FnOk P w K mg base CX0 1 f fd ["value"] spWhole := by
  refine F.ok sc_is_whole (fun vs H Q E h => ?_) (fun cdv A outer s H vs Q E hr h => ?_)
  · obtain ⟨i, rfl, _⟩ := h
    rfl
  obtain ⟨i, rfl, q⟩ := h
  have nd := sc_is_whole.nd
  refine ⟨_, pss_one (ps_ret (pe_and (pe_callB call_isi (by rfl) M.isinstance boot_isinstance (pa_cons (pv 0) (pa_cons (pe_bltn (v := .ty "int") (by rfl) M.int PyProof.Rows.boot_int rfl) pa_nil))) (pe_one (pe_not (pe_callB call_isi (by rfl) M.isinstance boot_isinstance (pa_cons (pv 0) (pa_cons (pe_bltn (v := .ty "bool") (by rfl) M.bool PyProof.Rows.boot_bool rfl) pa_nil))))))), ?_⟩
  refine ⟨_, rfl, _, _, _, _, true, rfl, .ty "int", .base (.int i), kit_ty (by decide +kernel), true, rfl, ?_⟩
  refine iteT ⟨_, rfl, _, _, _, _, false, rfl, .ty "bool", .base (.int i), kit_ty (by decide +kernel), false, rfl, q⟩
/-- some int; the heap as it was -/
def spCell (K : PySem.W.Frag) : Sp := fun vs H Q _ => ∃ (a : Addr) (ns : List Int) (k : Nat), vs = [.ref a, .int (k : Int)] ∧ SqL K H a (ns.map V.int) ∧ ns.length ≤ 63 ∧ k ≤ 1000 ∧ ∀ z : Int, Q (.int z) H
theorem ok_cell {f : Addr} {fd : FuncData} (F : Fun K "_law_cell" "_law_cell" s__law_cell f fd) :
    FnOk P w K mg base CX0 1 f fd ["script", "k"] (spCell K) := by
  refine F.ok sc__law_cell (fun vs H Q E h => ?_) (fun cdv A outer s H vs Q E hr h => ?_)
  · obtain ⟨a, ns, k, rfl, _⟩ := h
    rfl
  obtain ⟨a, ns, k, rfl, hS, hl, hk, q⟩ := h
  have nd := sc__law_cell.nd
  refine ⟨_, pss_cons (ps_if (pt_cmpR op_lt (pv 1) (pe_callB call_len_seq (by rfl) M.len PySem.boot_len (pa_cons (pv 0) pa_nil)) (nomark _)) (pss_one (ps_ret (pe_ix ix_list (pv 0) (pv 1) (fun _ _ => rfl)))) pss_nil)
    (pss_cons (ps_set (i := 2) nd rfl (.inl rfl) pe_int)
    (pss_cons (ps_for PassesOwn.never rfl (pi_list (pv 0)) (pg_name (i := 3) nd rfl (.inl rfl)) (pss_one (ps_set (i := 2) nd rfl (.inl rfl) (pe_op op_mod (pe_callTy call_int1 (by rfl) M.int PyProof.Rows.boot_int (pa_cons (pe_op op_add (pe_op op_mul (pv 2) pe_int) (pe_op op_mod (pe_callTy call_int1 (by rfl) M.int PyProof.Rows.boot_int (pa_cons (pv 3) pa_nil)) pe_int)) pa_nil)) pe_int))))
    (pss_one (ps_ret (pe_op op_mod (pe_callTy call_int1 (by rfl) M.int PyProof.Rows.boot_int (pa_cons (pe_op op_mul (pe_op op_mul (pe_op op_add (pv 2) pe_int) (pe_op op_add (pv 1) pe_int)) pe_int) pa_nil)) pe_int))))), ?_⟩
  refine ⟨_, rfl, _, rfl, a, _, rfl, .inl hS, _, _, rfl, rfl, _, rfl, ite2 (fun c => ?_) (fun c => ?_)⟩
  · have c' := of_decide_eq_true c
    rw [List.length_map] at c'
    have hk' : k < ns.length := by omega
    have g : (ns.map V.int)[k]? = some (.int ns[k]) := by rw [List.getElem?_map, List.getElem?_eq_getElem hk']; rfl
    exact ⟨_, rfl, _, rfl, a, _, _, _, rfl, rfl, hS, atI_nat g, q _⟩
  · refine ⟨_, rfl, a, rfl, ⟨_, hS⟩, for_list (xs := ns.map V.int) (fun i σ H' => H' = H ∧ ∃ (z : Int) (y : Option V), σ = [some (.ref a), some (.int (k : Int)), some (.int z), y]) ⟨rfl, 17, Option.none, rfl⟩ (fun i σ H' _ z => by rw [z.1]; exact hS) ?_ ?_⟩
    · rintro i x σ H' hx ⟨rfl, z, y, rfl⟩
      obtain ⟨v, hv, rfl⟩ := map_at hx
      refine ⟨_, rfl, _, _, rfl, rfl, .inr ⟨by decide, by decide⟩, _, rfl, .inl ⟨_, rfl, _, _, rfl, rfl, (by show (0 : Int) < 1000003; decide), _, _, rfl, rfl, .inl ⟨_, rfl, _, _, rfl, rfl, (by show (0 : Int) < 1000003; decide), ?_⟩⟩⟩
      exact ⟨rfl, _, _, rfl⟩
    · rintro σ H' ⟨rfl, z, y, rfl⟩
      refine ⟨_, rfl, _, _, rfl, rfl, _, rfl, _, _, rfl, rfl, _, _, rfl, rfl, .inr ⟨by omega, by omega⟩, _, _, rfl, rfl, .inr ⟨by decide, by decide⟩, .inl ⟨_, rfl, _, _, rfl, rfl, (by show (0 : Int) < 2147483647; decide), ?_⟩⟩
      exact q _
/-- a new list of digits -/
def spDigits (K : PySem.W.Frag) : Sp := fun vs H Q _ => ∃ (c : Int) (l : Addr) (ss : List Int), vs = [.int c, .ref l] ∧ SqL K H l (ss.map V.int) ∧ ss.length ≤ 1000 ∧ (∀ s ∈ ss, 0 < s ∧ s < 1073741824) ∧
  ∀ p ds H', Same H H' → H p = none → H' p = some (.lst (ds.map V.int)) → Dg ds ss → Q (.ref p) H'
theorem ok_digits {f : Addr} {fd : FuncData} (F : Fun K "_law_digits" "_law_digits" s__law_digits f fd) :
    FnOk P w K mg base CX0 1 f fd ["cell", "sizes"] (spDigits K) := by
  refine F.ok sc__law_digits (fun vs H Q E h => ?_) (fun cdv A outer s H vs Q E hr h => ?_)
  · obtain ⟨c, l, ss, rfl, _⟩ := h
    rfl
  obtain ⟨c, l, ss, rfl, hS, hlen, hpos, q⟩ := h
  have nd := sc__law_digits.nd
  refine ⟨_, pss_cons (ps_set (i := 2) nd rfl (.inl rfl) (pe_lst pa_nil))
    (pss_cons (ps_set (i := 3) nd rfl (.inl rfl) (pe_callTy call_int1 (by rfl) M.int PyProof.Rows.boot_int (pa_cons (pv 0) pa_nil)))
    (pss_cons (ps_if (pt_cmpR op_ge (pv 3) (pe_op op_pow pe_int pe_int) (nomark _)) (pss_cons (ps_set (i := 3) nd rfl (.inl rfl) (pe_op op_sub (pv 3) (pe_op op_pow pe_int pe_int)))
      (pss_cons (ps_for PassesOwn.never rfl (pi_list (pv 1)) (pg_name (i := 4) nd rfl (.inl rfl)) (pss_cons (ps_expr (pe_bm PySem.F.plainAttrs_list PySem.F.slot_list_append PySem.F.type_list_append mt_append (pv 2) (pa_cons (pe_op op_mod (pe_callTy call_int1 (by rfl) M.int PyProof.Rows.boot_int (pa_cons (pv 3) pa_nil)) (pv 4)) pa_nil)))
        (pss_one (ps_set (i := 3) nd rfl (.inl rfl) (pe_op op_fdiv (pe_callTy call_int1 (by rfl) M.int PyProof.Rows.boot_int (pa_cons (pv 3) pa_nil)) (pv 4))))))
      (pss_one (ps_ret (pv 2))))) pss_nil)
    (pss_cons (ps_set (i := 5) nd rfl (.inl rfl) (pe_op op_mod (pe_callTy call_int1 (by rfl) M.int PyProof.Rows.boot_int (pa_cons (pv 3) pa_nil)) pe_int))
    (pss_cons (ps_for PassesOwn.never rfl (pi_range1 rfl M.range (pa_cons (pe_callB call_len_seq (by rfl) M.len PySem.boot_len (pa_cons (pv 1) pa_nil)) pa_nil)) (pg_name (i := 6) nd rfl (.inl rfl)) (pss_cons (ps_set (i := 5) nd rfl (.inl rfl) (pe_op op_mod (pe_callTy call_int1 (by rfl) M.int PyProof.Rows.boot_int (pa_cons (pe_op op_add (pe_op op_add (pe_op op_mul (pv 5) pe_int) (pe_op op_mul pe_int (pv 6))) pe_int) pa_nil)) pe_int))
      (pss_cons (ps_set (i := 7) nd rfl (.inl rfl) (pe_op op_mod (pe_callTy call_int1 (by rfl) M.int PyProof.Rows.boot_int (pa_cons (pe_op op_mul (pv 5) (pe_op op_add (pe_op op_fdiv (pv 5) pe_int) pe_int)) pa_nil)) pe_int))
      (pss_one (ps_expr (pe_bm PySem.F.plainAttrs_list PySem.F.slot_list_append PySem.F.type_list_append mt_append (pv 2) (pa_cons (pe_op op_mod (pe_callTy call_int1 (by rfl) M.int PyProof.Rows.boot_int (pa_cons (pe_op op_fdiv (pv 7) pe_int) pa_nil)) (pe_ix ix_list (pv 1) (pv 6) (fun _ _ => rfl))) pa_nil)))))))
    (pss_one (ps_ret (pv 2))))))), ?_⟩
  refine ⟨Nat.zero_le _, fun o no => ?_⟩
  have s1 : Same H (upd H o (.lst [])) := same_new no _
  refine ⟨_, rfl, .inl ⟨_, rfl, ?_⟩⟩
  refine ⟨_, rfl, _, _, rfl, rfl, ⟨by decide, by decide, by decide⟩, _, _, rfl, rfl, _, rfl, ite2 (fun _ => ?_) (fun _ => ?_)⟩
  · refine ⟨_, rfl, _, _, rfl, rfl, ⟨by decide, by decide, by decide⟩, _, _, rfl, rfl, ?_⟩
    refine ⟨_, rfl, l, rfl, ⟨_, s1.seq hS⟩, for_list (xs := ss.map V.int) (fun i σ H' => Same H H' ∧ ∃ (ds : List Int) (r : Int) (y : Option V), H' o = some (.lst (ds.map V.int)) ∧ Dg ds (ss.take i) ∧ σ = [some (.int c), some (.ref l), some (.ref o), some (.int r), y, Option.none, Option.none, Option.none])
      ⟨s1, [], _, Option.none, upd_same, True.intro, rfl⟩ (fun i σ H' _ z => z.1.seq hS) ?_ ?_⟩
    · rintro i x σ H' hx ⟨sm, ds, r, y, eo, hd, rfl⟩
      obtain ⟨v, hv, rfl⟩ := map_at hx
      have hv2 := hpos v (List.mem_of_getElem? hv)
      refine ⟨_, rfl, .inl ⟨rfl, _, SqL.of eo⟩, _, rfl, .inl ⟨_, rfl, _, rfl, _, _, rfl, rfl, hv2.1, o, _, _, rfl, rfl, eo, ?_, ?_⟩⟩
      · rw [List.length_map, hd.len, List.length_take]
        exact Nat.lt_of_le_of_lt (Nat.min_le_right _ _) (small1000 hlen)
      · refine ⟨_, rfl, .inl ⟨_, rfl, _, rfl, _, _, rfl, rfl, hv2, ?_⟩⟩
        refine ⟨fun b u e => ?_, ds ++ [r % v], _, _, ?_, ?_, rfl⟩
        · rw [upd_ne (ne_of_none e no)]
          exact sm _ _ e
        · rw [upd_same, List.map_append]
          rfl
        · rw [tk1 hv]
          exact hd.snoc (Int.emod_nonneg _ (by omega)) (Int.emod_lt_of_pos _ hv2.1)
    · rintro σ H' ⟨sm, ds, r, y, eo, hd, rfl⟩
      rw [List.length_map, List.take_length] at hd
      exact ⟨_, rfl, q o ds H' sm no eo hd⟩
  · refine ⟨_, rfl, .inl ⟨_, rfl, _, _, rfl, rfl, (by show (0 : Int) < 2147483629; decide), ?_⟩⟩
    refine ⟨_, rfl, l, _, rfl, .inl (s1.seq hS), _, rfl, (by rw [List.length_map]; omega), (by rw [List.length_map]; omega), ?_⟩
    have hn : (((ss.map V.int).length : Nat) : Int).toNat = ss.length := by rw [List.length_map]; rfl
    rw [hn]
    refine for_range (n := ss.length) (fun i σ H' => Same H H' ∧ ∃ (ds : List Int) (r z : Int) (y y' : Option V), H' o = some (.lst (ds.map V.int)) ∧ Dg ds (ss.take i) ∧ σ = [some (.int c), some (.ref l), some (.ref o), some (.int r), Option.none, some (.int z), y, y'])
      ⟨s1, [], _, _, Option.none, Option.none, upd_same, True.intro, rfl⟩ ?_ ?_
    · rintro i σ H' hi ⟨sm, ds, r, z, y, y', eo, hd, rfl⟩
      refine ⟨_, rfl, _, _, rfl, rfl, .inr ⟨by decide, by decide⟩, _, rfl, _, _, rfl, rfl, .inl ⟨by decide, by decide⟩, _, _, rfl, rfl, _, _, rfl, rfl, .inl ⟨_, rfl, _, _, rfl, rfl, (by show (0 : Int) < 2147483647; decide), ?_⟩⟩
      have b0 := Int.emod_nonneg (z * 48271 + 974711 * (0 + (i : Int)) + 12345) (show (2147483647 : Int) ≠ 0 by decide)
      have b1 := Int.emod_lt_of_pos (z * 48271 + 974711 * (0 + (i : Int)) + 12345) (show (0 : Int) < 2147483647 by decide)
      refine ⟨_, rfl, _, rfl, _, _, rfl, rfl, ⟨by decide, by decide⟩, _, _, rfl, rfl, _, _, rfl, rfl, .inl ⟨?_, ?_⟩, .inl ⟨_, rfl, _, _, rfl, rfl, (by show (0 : Int) < 2147483629; decide), ?_⟩⟩
      · exact Int.lt_of_lt_of_le (by decide) b0
      · exact Int.lt_trans b1 (by decide)
      have g : (ss.map V.int)[i]? = some (.int ss[i]) := by rw [List.getElem?_map, List.getElem?_eq_getElem hi]; rfl
      have hv2 := hpos ss[i] (List.getElem_mem hi)
      refine ⟨_, rfl, .inl ⟨rfl, _, SqL.of eo⟩, _, rfl, _, _, rfl, rfl, ⟨by decide, by decide⟩, .inl ⟨_, rfl, _, rfl, _, rfl, l, _, _, _, rfl, rfl, sm.seq hS, ?_, _, _, rfl, rfl, hv2.1, o, _, _, rfl, rfl, eo, ?_, ?_⟩⟩
      · rw [Int.zero_add]; exact atI_nat g
      · rw [List.length_map, hd.len, List.length_take]
        exact Nat.lt_of_le_of_lt (Nat.min_le_right _ _) (small1000 hlen)
      · refine ⟨fun b u e => ?_, ds ++ [((z * 48271 + 974711 * (0 + (i : Int)) + 12345) % 2147483647 * ((z * 48271 + 974711 * (0 + (i : Int)) + 12345) % 2147483647 / 65537 + 3)) % 2147483629 / 19 % ss[i]], _, _, _, _, ?_, ?_, rfl⟩
        · rw [upd_ne (ne_of_none e no)]
          exact sm _ _ e
        · rw [upd_same, List.map_append]
          rfl
        · rw [tk1 (List.getElem?_eq_getElem hi)]
          exact hd.snoc (Int.emod_nonneg _ (by omega)) (Int.emod_lt_of_pos _ hv2.1)
    · rintro σ H' ⟨sm, ds, r, z, y, y', eo, hd, rfl⟩
      rw [List.take_length] at hd
      exact ⟨_, rfl, q o ds H' sm no eo hd⟩
end
end GM
set_option Elab.async false
set_option linter.all false
set_option maxRecDepth 100000
set_option maxHeartbeats 4000000
set_option pp.maxSteps 150
set_option pp.deepTerms false
namespace GM
open PySem PySem.Spec PyProof.Rows L2
/-- the moves of a vertex: ascending, each a vertex -/
def Asc (n : Int) (xs : List Int) : Prop := xs.Pairwise (· < ·) ∧ (∀ x ∈ xs, 0 ≤ x ∧ x < n) ∧ xs ≠ [] ∧ xs.length ≤ 1000
theorem asc_step {n : Int} {xs : List Int} (h : Asc n xs) {i : Nat} {x : Int} (hx : xs[i]? = some x) (l : Int) (hl : l = 0 ∨ ∃ j y, j < i ∧ xs[j]? = some y ∧ l = y + 1) : l ≤ x ∧ x < n := by
  have hm := h.2.1 x (List.mem_of_getElem? hx)
  refine ⟨?_, hm.2⟩
  rcases hl with rfl | ⟨j, y, hj, hy, rfl⟩
  · exact hm.1
  · obtain ⟨a1, a2⟩ := List.getElem?_eq_some_iff.mp hx
    obtain ⟨b1, b2⟩ := List.getElem?_eq_some_iff.mp hy
    have := List.pairwise_iff_getElem.mp h.1 j i b1 a1 hj
    rw [a2, b2] at this
    omega
theorem neverOk {P : Program} {w : World} {K : PySem.W.Frag} {mg : Str → Option Value} {base : Heap} {f : Addr} {fd : FuncData} {ps : List Str} {sp : Sp} (no : ∀ vs H Q E, ¬ sp vs H Q E) : FnOk P w K mg base CX0 0 f fd ps sp :=
  ⟨fun vs H Q E h => absurd h (no vs H Q E), fun A outer s H args us vs Q E _ _ _ _ h => absurd h (no vs H Q E)⟩
section
variable {P : Program} {w : World} {K : PySem.W.Frag} {mg : Str → Option Value} {base : Heap} (M : Blt mg)
include M
/-- a whole number within its bounds -/
def spNumTo : Sp := fun vs H Q _ => ∃ i m : Int, vs = [.int i, .int m] ∧ 0 ≤ i ∧ i ≤ m ∧ Q (.bl true) H
theorem ok_numto {f : Addr} {fd : FuncData} (F : Fun K "is_number_to" "is_number_to" s_is_number_to f fd) (Gis_whole : Kn P w K mg base 1 "is_whole" ["value"] spWhole) :
    FnOk P w K mg base CX0 2 f fd ["value", "most"] spNumTo := by
  refine F.ok sc_is_number_to (fun vs H Q E h => ?_) (fun cdv A outer s H vs Q E hr h => ?_)
  · obtain ⟨i, m, rfl, _⟩ := h
    rfl
  obtain ⟨i, m, rfl, h0, h1, q⟩ := h
  have nd := sc_is_number_to.nd
  refine ⟨_, pss_one (ps_ret (pe_and (pe_call Gis_whole.ok (hr.mono (by decide)) (by rfl) Gis_whole.m Gis_whole.kp Gis_whole.b .nil pass0 (pa_cons (pv 0) pa_nil)) (pe_one (pe_chain op_le op_le pe_int (pv 0) (pv 1))))), ?_⟩
  refine ⟨_, rfl, _, rfl, _, rfl, iteT ?_⟩
  refine ⟨_, rfl, _, _, rfl, rfl, _, rfl, ?_⟩
  rw [if_pos (decide_eq_true h0)]
  refine ⟨_, rfl, _, _, rfl, rfl, ?_⟩
  show Q (.bl (decide (i ≤ m))) H
  rw [decide_eq_true h1]
  exact q
def spSucc : Sp := fun vs H Q _ => ∃ (a : Addr) (xs : List Int) (n : Int), vs = [.ref a, .int n] ∧ H a = some (.lst (xs.map V.int)) ∧ Asc n xs ∧ ∀ H', Same H H' → Q (.bl true) H'
theorem ok_succ {f : Addr} {fd : FuncData} (F : Fun K "are_successors" "are_successors" s_are_successors f fd) (Gis_whole : Kn P w K mg base 1 "is_whole" ["value"] spWhole) :
    FnOk P w K mg base CX0 2 f fd ["value", "count"] spSucc := by
  refine F.ok sc_are_successors (fun vs H Q E h => ?_) (fun cdv A outer s H vs Q E hr h => ?_)
  · obtain ⟨a, xs, n, rfl, _⟩ := h
    rfl
  obtain ⟨a, xs, n, rfl, ea, ha, q⟩ := h
  have nd := sc_are_successors.nd
  refine ⟨_, pss_cons (ps_if (pt_not (pt_val (pe_callB call_isiT (by rfl) M.isinstance boot_isinstance (pa_cons (pv 0) (pa_cons (pe_tup (pa_cons (pe_bltn (v := .ty "list") (by rfl) M.list PyProof.Rows.boot_list rfl) (pa_cons (pe_bltn (v := .ty "tuple") (by rfl) M.tuple PyProof.Rows.boot_tuple rfl) pa_nil))) pa_nil))))) (pss_one (ps_ret pe_bl)) pss_nil)
    (pss_cons (ps_set (i := 2) nd rfl (.inl rfl) pe_int)
    (pss_cons (ps_for PassesOwn.never rfl (pi_list (pv 0)) (pg_name (i := 3) nd rfl (.inl rfl)) (pss_cons (ps_if (PW.pt (pw_or (pt_not (pt_val (pe_call Gis_whole.ok (hr.mono (by decide)) (by rfl) Gis_whole.m Gis_whole.kp Gis_whole.b .nil pass0 (pa_cons (pv 3) pa_nil)))) (pw_or1 (pt_not (pt_chain op_le op_lt (pv 2) (pv 3) (pv 1)))))) (pss_one (ps_ret pe_bl)) pss_nil)
      (pss_one (ps_set (i := 2) nd rfl (.inl rfl) (pe_op op_add (pv 3) pe_int)))))
    (pss_one (ps_ret (pe_cmpR op_gt (pe_callB call_len_seq (by rfl) M.len PySem.boot_len (pa_cons (pv 0) pa_nil)) pe_int (nomark _)))))), ?_⟩
  refine ⟨_, rfl, le_line (n := 2) (by decide), fun t ht => ?_⟩
  have st := same_new ht (.tup [.ty "list", .ty "tuple"])
  refine ⟨_, t, _, _, _, true, rfl, upd_same, .cons (.ty "list") (.cons (.ty "tuple") .nil), .base (.lst (st _ _ ea)), kitAny_cons (b := true) (kit_ty (by decide +kernel)) (fun z => nomatch z) (fun _ => rfl), true, rfl, iteF ?_⟩
  have hlen : xs.length ≤ 1000 := ha.2.2.2
  refine ⟨_, rfl, a, rfl, ⟨_, SqL.of (st _ _ ea)⟩, for_list (xs := xs.map V.int) (fun i σ H' => Same H H' ∧ ∃ (l : Int) (y : Option V), (l = 0 ∨ ∃ j z, j < i ∧ xs[j]? = some z ∧ l = z + 1) ∧ σ = [some (.ref a), some (.int n), some (.int l), y]) ⟨st, 0, Option.none, .inl rfl, rfl⟩ (fun i σ H' _ z => SqL.of (z.1 _ _ ea)) ?_ ?_⟩
  · rintro i x σ H' hx ⟨sm, l, y, hl, rfl⟩
    obtain ⟨z, hz, rfl⟩ := map_at hx
    obtain ⟨h1, h2⟩ := asc_step ha hz l hl
    refine ⟨_, rfl, _, rfl, true, rfl, iteF ?_⟩
    refine ⟨_, rfl, _, rfl, _, _, rfl, rfl, _, rfl, ?_⟩
    rw [if_pos (decide_eq_true h1)]
    refine ⟨_, rfl, _, _, rfl, rfl, true, congrArg V.bl (decide_eq_true h2), iteF ?_⟩
    refine ⟨_, rfl, _, _, rfl, rfl, ?_⟩
    exact ⟨sm, z + 1, _, .inr ⟨i, z, Nat.lt_succ_self _, hz, rfl⟩, rfl⟩
  · rintro σ H' ⟨sm, l, y, hl, rfl⟩
    refine ⟨_, rfl, a, _, rfl, .inl (SqL.of (sm _ _ ea)), _, _, rfl, rfl, ?_⟩
    have e : decide ((0 : Int) < (((xs.map V.int).length : Nat) : Int)) = true := decide_eq_true (by
      rw [List.length_map]
      have := List.length_pos_iff.mpr ha.2.2.1
      omega)
    show Q (.bl (decide ((0 : Int) < (((xs.map V.int).length : Nat) : Int)))) H'
    rw [e]
    exact q H' sm
/-! ### as_tuples: of an int, of a list of ints, of a list of such lists -/
def spAs0 : Sp := fun vs H Q _ => ∃ i : Int, vs = [.int i] ∧ ∀ H', Same H H' → Q (.int i) H'
def spAs1 : Sp := fun vs H Q _ => ∃ (a : Addr) (xs : List Int), vs = [.ref a] ∧ H a = some (.lst (xs.map V.int)) ∧ xs.length ≤ 1000 ∧ ∀ p H', Same H H' → H p = none → H' p = some (.tup (xs.map V.int)) → Q (.ref p) H'
def spAs2 : Sp := fun vs H Q _ => ∃ (a : Addr) (rs : List Addr) (xss : List (List Int)), vs = [.ref a] ∧ H a = some (.lst (rs.map V.ref)) ∧ Paired (fun r xs => H r = some (.lst (xs.map V.int))) rs xss ∧ rs.length ≤ 1000 ∧ (∀ xs ∈ xss, xs.length ≤ 1000) ∧
  ∀ p ts H', Same H H' → H p = none → H' p = some (.tup (ts.map V.ref)) → Paired (fun t xs => H' t = some (.tup (xs.map V.int))) ts xss → Q (.ref p) H'
theorem ok_as0 {f : Addr} {fd : FuncData} (F : Fun K "as_tuples" "as_tuples" s_as_tuples f fd) (bA : Binds K fd ["value"] []) (mA : mg "as_tuples" = some (.ref f)) : FnOk P w K mg base CX0 1 f fd ["value"] spAs0 := by
  refine F.ok sc_as_tuples (fun vs H Q E h => ?_) (fun cdv A outer s H vs Q E hr h => ?_)
  · obtain ⟨i, rfl, _⟩ := h
    rfl
  obtain ⟨i, rfl, q⟩ := h
  have Gas_tuples : Kn P w K mg base 0 "as_tuples" ["value"] (fun _ _ _ _ => False) := ⟨f, fd, neverOk fun _ _ _ _ h => h, bA, F.kp, mA⟩
  have nd := sc_as_tuples.nd
  refine ⟨_, pss_cons (ps_if (pt_val (pe_callB call_isiT (by rfl) M.isinstance boot_isinstance (pa_cons (pv 0) (pa_cons (pe_tup (pa_cons (pe_bltn (v := .ty "list") (by rfl) M.list PyProof.Rows.boot_list rfl) (pa_cons (pe_bltn (v := .ty "tuple") (by rfl) M.tuple PyProof.Rows.boot_tuple rfl) pa_nil))) pa_nil)))) (pss_one (ps_ret (pe_tupleOf (by rfl) M.tuple (pe_lc (own := [("item", 1)]) (g := gName 1) (tt := tYes) rfl nd (pi_list (pv 0)) (blkOk_by (N := n_as_tuples) (sc := defScope s_as_tuples) (by decide +kernel)) (fun _ _ _ _ _ => pg_name (i := 1) nd rfl (Or.inl rfl)) (fun _ _ _ _ _ => pts_nil) (fun _ _ _ _ _ => (pe_call Gas_tuples.ok (hr.mono (by decide)) (by rfl) Gas_tuples.m Gas_tuples.kp Gas_tuples.b .nil pass0 (pa_cons (pv 1) pa_nil))))))) pss_nil)
    (pss_one (ps_ret (pv 0))), ?_⟩
  refine ⟨_, rfl, le_line (n := 2) (by decide), fun t ht => ?_⟩
  refine ⟨_, t, _, _, _, false, rfl, upd_same, .cons (.ty "list") (.cons (.ty "tuple") .nil), .base (.int i), kitAny_cons (b := false) (kit_ty (by decide +kernel)) (fun _ => kitAny_cons (b := false) (kit_ty (by decide +kernel)) (fun _ => kitAny_nil) (fun z => nomatch z)) (fun z => nomatch z), false, rfl, iteF ?_⟩
  exact ⟨_, rfl, q _ (same_new ht _)⟩
theorem ok_as1 {f : Addr} {fd : FuncData} (F : Fun K "as_tuples" "as_tuples" s_as_tuples f fd) (Gas_tuples : Kn P w K mg base 1 "as_tuples" ["value"] spAs0) : FnOk P w K mg base CX0 2 f fd ["value"] spAs1 := by
  refine F.ok sc_as_tuples (fun vs H Q E h => ?_) (fun cdv A outer s H vs Q E hr h => ?_)
  · obtain ⟨a, xs, rfl, _⟩ := h
    rfl
  obtain ⟨a, xs, rfl, ea, hl, q⟩ := h
  have nd := sc_as_tuples.nd
  refine ⟨_, pss_cons (ps_if (pt_val (pe_callB call_isiT (by rfl) M.isinstance boot_isinstance (pa_cons (pv 0) (pa_cons (pe_tup (pa_cons (pe_bltn (v := .ty "list") (by rfl) M.list PyProof.Rows.boot_list rfl) (pa_cons (pe_bltn (v := .ty "tuple") (by rfl) M.tuple PyProof.Rows.boot_tuple rfl) pa_nil))) pa_nil)))) (pss_one (ps_ret (pe_tupleOf (by rfl) M.tuple (pe_lc (own := [("item", 1)]) (g := gName 1) (tt := tYes) rfl nd (pi_list (pv 0)) (blkOk_by (N := n_as_tuples) (sc := defScope s_as_tuples) (by decide +kernel)) (fun _ _ _ _ _ => pg_name (i := 1) nd rfl (Or.inl rfl)) (fun _ _ _ _ _ => pts_nil) (fun _ _ _ _ _ => (pe_call Gas_tuples.ok (hr.mono (by decide)) (by rfl) Gas_tuples.m Gas_tuples.kp Gas_tuples.b .nil pass0 (pa_cons (pv 1) pa_nil))))))) pss_nil)
    (pss_one (ps_ret (pv 0))), ?_⟩
  refine ⟨_, rfl, le_line (n := 2) (by decide), fun t ht => ?_⟩
  have st := same_new ht (.tup [.ty "list", .ty "tuple"])
  refine ⟨_, t, _, _, _, true, rfl, upd_same, .cons (.ty "list") (.cons (.ty "tuple") .nil), .base (.lst (st _ _ ea)), kitAny_cons (b := true) (kit_ty (by decide +kernel)) (fun z => nomatch z) (fun _ => rfl), true, rfl, iteT ?_⟩
  refine ⟨_, rfl, a, rfl, ⟨_, SqL.of (st _ _ ea)⟩, fun D hD => ?_⟩
  refine lc_list (xs := xs.map V.int) (fun i H' => Same H H' ∧ H' D = some (.lst ((xs.take i).map V.int))) ⟨st.trans (same_new hD _), upd_same⟩ (fun i H' _ z => SqL.of (z.1 _ _ ea)) ?_ ?_
  · rintro i x H1 hx ⟨sm, eD⟩
    obtain ⟨z, hz, rfl⟩ := map_at hx
    refine ⟨rfl, tYI ?_⟩
    refine ⟨_, rfl, z, rfl, fun H2 s2 => ⟨_, s2 _ _ eD, ?_, same_upd (sm.trans s2) (st.free hD) _, ?_⟩⟩
    · rw [List.length_map]; exact lt_line (Nat.le_trans (List.length_take_le' _ _) hl)
    · rw [upd_same, tk1 hz, List.map_append]; rfl
  · rintro H1 ⟨sm, eD⟩
    rw [List.length_map, List.take_length] at eD
    refine .inl ⟨D, _, rfl, SqL.of eD, fun u hu => ?_⟩
    exact q u _ (sm.trans (same_new hu _)) (sm.free hu) upd_same
theorem ok_as2 {f : Addr} {fd : FuncData} (F : Fun K "as_tuples" "as_tuples" s_as_tuples f fd) (Gas_tuples : Kn P w K mg base 2 "as_tuples" ["value"] spAs1) : FnOk P w K mg base CX0 3 f fd ["value"] spAs2 := by
  refine F.ok sc_as_tuples (fun vs H Q E h => ?_) (fun cdv A outer s H vs Q E hr h => ?_)
  · obtain ⟨a, rs, xss, rfl, _⟩ := h
    rfl
  obtain ⟨a, rs, xss, rfl, ea, pr, hl, hls, q⟩ := h
  have nd := sc_as_tuples.nd
  refine ⟨_, pss_cons (ps_if (pt_val (pe_callB call_isiT (by rfl) M.isinstance boot_isinstance (pa_cons (pv 0) (pa_cons (pe_tup (pa_cons (pe_bltn (v := .ty "list") (by rfl) M.list PyProof.Rows.boot_list rfl) (pa_cons (pe_bltn (v := .ty "tuple") (by rfl) M.tuple PyProof.Rows.boot_tuple rfl) pa_nil))) pa_nil)))) (pss_one (ps_ret (pe_tupleOf (by rfl) M.tuple (pe_lc (own := [("item", 1)]) (g := gName 1) (tt := tYes) rfl nd (pi_list (pv 0)) (blkOk_by (N := n_as_tuples) (sc := defScope s_as_tuples) (by decide +kernel)) (fun _ _ _ _ _ => pg_name (i := 1) nd rfl (Or.inl rfl)) (fun _ _ _ _ _ => pts_nil) (fun _ _ _ _ _ => (pe_call Gas_tuples.ok (hr.mono (by decide)) (by rfl) Gas_tuples.m Gas_tuples.kp Gas_tuples.b .nil pass0 (pa_cons (pv 1) pa_nil))))))) pss_nil)
    (pss_one (ps_ret (pv 0))), ?_⟩
  refine ⟨_, rfl, le_line (n := 2) (by decide), fun t ht => ?_⟩
  have st := same_new ht (.tup [.ty "list", .ty "tuple"])
  refine ⟨_, t, _, _, _, true, rfl, upd_same, .cons (.ty "list") (.cons (.ty "tuple") .nil), .base (.lst (st _ _ ea)), kitAny_cons (b := true) (kit_ty (by decide +kernel)) (fun z => nomatch z) (fun _ => rfl), true, rfl, iteT ?_⟩
  refine ⟨_, rfl, a, rfl, ⟨_, SqL.of (st _ _ ea)⟩, fun D hD => ?_⟩
  refine lc_list (xs := rs.map V.ref) (fun i H' => Same H H' ∧ ∃ ts : List Addr, H' D = some (.lst (ts.map V.ref)) ∧ Paired (fun t xs => t ≠ D ∧ H' t = some (.tup (xs.map V.int))) ts (xss.take i)) ⟨st.trans (same_new hD _), [], upd_same, .nil⟩ (fun i H' _ z => SqL.of (z.1 _ _ ea)) ?_ ?_
  · rintro i x H1 hx ⟨sm, ts, eD, pt⟩
    obtain ⟨r, hr', rfl⟩ := map_atV hx
    obtain ⟨xs, hxs, er⟩ := pr_get pr hr'
    have li := lt_of_at hxs
    have lt : ts.length = i := by rw [pt.length, List.length_take, Nat.min_eq_left (Nat.le_of_lt li)]
    refine ⟨rfl, tYI ?_⟩
    refine ⟨_, rfl, r, xs, rfl, sm _ _ er, hls xs (List.mem_of_getElem? hxs), fun p H2 s2 hp e2 => ⟨_, s2 _ _ eD, ?_, same_upd (sm.trans s2) (st.free hD) _, ts ++ [p], ?_, ?_⟩⟩
    · rw [List.length_map, lt]; exact lt_line (by have := lt_of_at hr'; omega)
    · rw [upd_same, List.map_append]; rfl
    · have hpD : p ≠ D := fun z => by rw [z, eD] at hp; cases hp
      rw [tk1 hxs]
      exact (L2.Paired.mapP pt fun b ys z => ⟨z.1, by rw [upd_ne z.1]; exact s2 _ _ z.2⟩).snoc ⟨hpD, by rw [upd_ne hpD]; exact e2⟩
  · rintro H1 ⟨sm, ts, eD, pt⟩
    rw [List.length_map, pr.length, List.take_length] at pt
    refine .inl ⟨D, _, rfl, SqL.of eD, fun u hu => ?_⟩
    have su := same_new hu (.tup (ts.map V.ref))
    exact q u ts _ (sm.trans su) (sm.free hu) upd_same (L2.Paired.mapP pt fun b ys z => su _ _ z.2)
end
end GM
set_option Elab.async false
set_option linter.all false
set_option maxRecDepth 100000
set_option maxHeartbeats 4000000
set_option pp.maxSteps 150
set_option pp.deepTerms false
namespace GM
open PySem PySem.Spec PyProof.Rows L2
/-! ### games -/
/-- what the walk asks of the class Game as the top has made it -/
structure GTxt (K : PySem.W.Frag) (mg : Str → Option Value) (C : Addr) : Prop where
  cl : Cls K C
  nO : NoAttr K C "owners"
  nP : NoAttr K C "priorities"
  nS : NoAttr K C "successors"
  nT : NoAttr K C "top"
  nH : NoAttr K C "height"
  nC : NoAttr K C "ceiling"
  mgC : mg "Game" = some (.ref C)
  gp : ∃ t, mg "GREATEST_PRIORITY" = some (.int 30 t)
def fl1 (a : Addr) : List (Str × V) := putF "owners" (.ref a) []
def fl2 (a b : Addr) : List (Str × V) := putF "priorities" (.ref b) (fl1 a)
def fl3 (a b c : Addr) : List (Str × V) := putF "successors" (.ref c) (fl2 a b)
def fl4 (a b c : Addr) (m : Int) : List (Str × V) := putF "top" (.int m) (fl3 a b c)
def fl5 (a b c : Addr) (m : Int) : List (Str × V) := putF "height" (.int ((m + 1) / 2)) (fl4 a b c m)
def flds (a b c : Addr) (m : Int) : List (Str × V) := putF "ceiling" (.int (m + 2 - m % 2)) (fl5 a b c m)
theorem putF_len (f : Str) (v : V) : ∀ l : List (Str × V), (putF f v l).length ≤ l.length + 1
  | [] => Nat.le_refl _
  | (g, x) :: r => by
    show (if g = f then (g, v) :: r else (g, x) :: putF f v r).length ≤ _
    by_cases h : g = f
    · rw [if_pos h]; exact Nat.le_succ _
    · rw [if_neg h]; exact Nat.succ_le_succ (putF_len f v r)
theorem fl1_len (a : Addr) : (fl1 a).length ≤ 1 := putF_len _ _ _
theorem fl2_len (a b : Addr) : (fl2 a b).length ≤ 2 := Nat.le_trans (putF_len _ _ _) (Nat.succ_le_succ (fl1_len a))
theorem fl3_len (a b c : Addr) : (fl3 a b c).length ≤ 3 := Nat.le_trans (putF_len _ _ _) (Nat.succ_le_succ (fl2_len a b))
theorem fl4_len (a b c : Addr) (m : Int) : (fl4 a b c m).length ≤ 4 := Nat.le_trans (putF_len _ _ _) (Nat.succ_le_succ (fl3_len a b c))
theorem fl5_len (a b c : Addr) (m : Int) : (fl5 a b c m).length ≤ 5 := Nat.le_trans (putF_len _ _ _) (Nat.succ_le_succ (fl4_len a b c m))
theorem fl3_pri (a b c : Addr) : (fl3 a b c).lookup ("priorities" : Str) = some (.ref b) := by
  unfold fl3 fl2
  rw [lookup_putF, if_neg (by decide +kernel), lookup_putF, if_pos rfl]
theorem fl4_top (a b c : Addr) (m : Int) : (fl4 a b c m).lookup ("top" : Str) = some (.int m) := by
  unfold fl4
  rw [lookup_putF, if_pos rfl]
theorem fl5_top (a b c : Addr) (m : Int) : (fl5 a b c m).lookup ("top" : Str) = some (.int m) := by
  unfold fl5
  rw [lookup_putF, if_neg (by decide +kernel), fl4_top]
theorem fld_own (a b c : Addr) (m : Int) : (flds a b c m).lookup ("owners" : Str) = some (.ref a) := by
  unfold flds fl5 fl4 fl3 fl2 fl1
  rw [lookup_putF, if_neg (by decide +kernel), lookup_putF, if_neg (by decide +kernel), lookup_putF, if_neg (by decide +kernel), lookup_putF, if_neg (by decide +kernel), lookup_putF, if_neg (by decide +kernel), lookup_putF, if_pos rfl]
theorem fld_pri (a b c : Addr) (m : Int) : (flds a b c m).lookup ("priorities" : Str) = some (.ref b) := by
  unfold flds fl5 fl4
  rw [lookup_putF, if_neg (by decide +kernel), lookup_putF, if_neg (by decide +kernel), lookup_putF, if_neg (by decide +kernel), fl3_pri]
theorem fld_suc (a b c : Addr) (m : Int) : (flds a b c m).lookup ("successors" : Str) = some (.ref c) := by
  unfold flds fl5 fl4 fl3
  rw [lookup_putF, if_neg (by decide +kernel), lookup_putF, if_neg (by decide +kernel), lookup_putF, if_neg (by decide +kernel), lookup_putF, if_pos rfl]
theorem fld_top (a b c : Addr) (m : Int) : (flds a b c m).lookup ("top" : Str) = some (.int m) := by
  unfold flds
  rw [lookup_putF, if_neg (by decide +kernel), fl5_top]
theorem fld_hei (a b c : Addr) (m : Int) : (flds a b c m).lookup ("height" : Str) = some (.int ((m + 1) / 2)) := by
  unfold flds fl5
  rw [lookup_putF, if_neg (by decide +kernel), lookup_putF, if_pos rfl]
theorem fld_cei (a b c : Addr) (m : Int) : (flds a b c m).lookup ("ceiling" : Str) = some (.int (m + 2 - m % 2)) := by
  unfold flds
  rw [lookup_putF, if_pos rfl]
theorem fld_no (a b c : Addr) (m : Int) {g : Str} (h1 : ¬ g = "ceiling") (h2 : ¬ g = "height") (h3 : ¬ g = "top") (h4 : ¬ g = "successors") (h5 : ¬ g = "priorities") (h6 : ¬ g = "owners") : (flds a b c m).lookup g = none := by
  unfold flds fl5 fl4 fl3 fl2 fl1
  rw [lookup_putF, if_neg h1, lookup_putF, if_neg h2, lookup_putF, if_neg h3, lookup_putF, if_neg h4, lookup_putF, if_neg h5, lookup_putF, if_neg h6]
  rfl
/-- the greatest of these, 0 if there is none -/
def IsTop (m : Int) (ps : List Int) : Prop := (ps = [] ∧ m = 0) ∨ (m ∈ ps ∧ ∀ y ∈ ps, y ≤ m)
/-- a game stands at p -/
structure GameAt (C : Addr) (H : Hp) (p : Addr) (os ps : List Int) (rows : List (List Int)) (dx a b c : Addr) (ts : List Addr) (m : Int) : Prop where
  ob : H p = some (.ins C dx (flds a b c m))
  oa : H a = some (.tup (os.map V.int))
  ob2 : H b = some (.tup (ps.map V.int))
  oc : H c = some (.tup (ts.map V.ref))
  or : Paired (fun t xs => H t = some (.tup (xs.map V.int))) ts rows
  top : IsTop m ps
theorem GameAt.same {C : Addr} {H H' : Hp} {p : Addr} {os ps : List Int} {rows : List (List Int)} {dx a b c : Addr} {ts : List Addr} {m : Int} (g : GameAt C H p os ps rows dx a b c ts m) (s : Same H H') : GameAt C H' p os ps rows dx a b c ts m :=
  ⟨s _ _ g.ob, s _ _ g.oa, s _ _ g.ob2, s _ _ g.oc, L2.Paired.mapP g.or fun _ _ e => s _ _ e, g.top⟩
/-- what makes a game -/
structure Valid (os ps : List Int) (rows : List (List Int)) : Prop where
  l1 : ps.length = os.length
  l2 : rows.length = os.length
  n : os.length ≤ 1000
  o : ∀ x ∈ os, 0 ≤ x ∧ x ≤ 1
  p : ∀ x ∈ ps, 0 ≤ x ∧ x ≤ 30
  r : ∀ x ∈ rows, Asc (os.length : Nat) x
/-- all but the object at p is kept -/
def Kp (H H' : Hp) (p : Addr) : Prop := ∀ q o, H q = some o → q ≠ p → H' q = some o
theorem Kp.new {H H' : Hp} {p x : Addr} (k : Kp H H' p) (h : H' x = none) (o : HO) : Kp H (upd H' x o) p := fun q u e n => by
  have := k q u e n
  rw [upd_ne (ne_of_none this h)]; exact this
theorem Kp.upd {H H' : Hp} {p : Addr} (k : Kp H H' p) (o : HO) : Kp H (upd H' p o) p := fun q u e n => by
  rw [upd_ne n]; exact k q u e n
theorem Kp.same {H H' H2 : Hp} {p : Addr} (k : Kp H H' p) (s : Same H' H2) : Kp H H2 p := fun q u e n => s _ _ (k q u e n)
theorem pr_kp {H H' : Hp} {p C dx : Addr} {fs : List (Str × V)} {rs : List Addr} {rows : List (List Int)} (er : Paired (fun r xs => H r = some (.lst (xs.map V.int))) rs rows) (k : Kp H H' p) (hp : H p = some (.ins C dx fs)) :
    Paired (fun r xs => H' r = some (.lst (xs.map V.int))) rs rows := L2.Paired.mapP er fun r xs e => k _ _ e (ne_of e hp (fun z => nomatch z))
def spInit (C : Addr) : Sp := fun vs H Q _ => ∃ (p dx a b c : Addr) (os ps : List Int) (rs : List Addr) (rows : List (List Int)), vs = [.ref p, .ref a, .ref b, .ref c] ∧ H p = some (.ins C dx []) ∧ H a = some (.lst (os.map V.int)) ∧ H b = some (.lst (ps.map V.int)) ∧ H c = some (.lst (rs.map V.ref)) ∧
  Paired (fun r xs => H r = some (.lst (xs.map V.int))) rs rows ∧ Valid os ps rows ∧
  ∀ H' a' b' c' ts m, GameAt C H' p os ps rows dx a' b' c' ts m → (∀ q o, H q = some o → q ≠ p → H' q = some o) → Q .non H'
section
variable {P : Program} {w : World} {K : PySem.W.Frag} {mg : Str → Option Value} {base : Heap} {C : Addr} (M : Blt mg) (T : GTxt K mg C)
include M T
theorem ok_init {f : Addr} {fd : FuncData} (F : Fun K "__init__" "Game.__init__" s_Game___init__ f fd) (Gis_number_to : Kn P w K mg base 2 "is_number_to" ["value", "most"] spNumTo) (Gare_successors : Kn P w K mg base 2 "are_successors" ["value", "count"] spSucc)
    (Gas_tuples : Kn P w K mg base 3 "as_tuples" ["value"] spAs2) :
    FnOk P w K mg base CX0 4 f fd ["self", "owners", "priorities", "successors"] (spInit C) := by
  refine F.ok sc_Game___init__ (fun vs H Q E h => ?_) (fun cdv A outer s H vs Q E hr h => ?_)
  · obtain ⟨p, dx, a, b, c, os, ps, rs, rows, rfl, _⟩ := h
    rfl
  obtain ⟨p, dx, a, b, c, os, ps, rs, rows, rfl, hp, ea, eb, ec, er, V0, q⟩ := h
  obtain ⟨tg, egp⟩ := T.gp
  have hu := hr.units
  have nd := sc_Game___init__.nd
  refine ⟨_, pss_cons (ps_for PassesOwn.never rfl (pi_range1 rfl M.range (pa_cons (pe_callB call_len_seq (by rfl) M.len PySem.boot_len (pa_cons (pv 1) pa_nil)) pa_nil)) (pg_name (i := 4) nd rfl (.inl rfl)) (pss_one (ps_if (pt_not (PW.pt (pw_and (pt_val (pe_call Gis_number_to.ok (hr.mono (by decide)) (by rfl) Gis_number_to.m Gis_number_to.kp Gis_number_to.b .nil pass0 (pa_cons (pe_ix ix_list (pv 1) (pv 4) (fun _ _ => rfl)) (pa_cons pe_int pa_nil)))) (pw_and (pt_val (pe_call Gis_number_to.ok (hr.mono (by decide)) (by rfl) Gis_number_to.m Gis_number_to.kp Gis_number_to.b .nil pass0 (pa_cons (pe_ix ix_list (pv 2) (pv 4) (fun _ _ => rfl)) (pa_cons (pe_glob (v := .int 30) (by rfl) egp ⟨_, rfl⟩) pa_nil)))) (pw_and1 (pt_val (pe_call Gare_successors.ok (hr.mono (by decide)) (by rfl) Gare_successors.m Gare_successors.kp Gare_successors.b .nil pass0 (pa_cons (pe_ix ix_list (pv 3) (pv 4) (fun _ _ => rfl)) (pa_cons (pe_callB call_len_seq (by rfl) M.len PySem.boot_len (pa_cons (pv 1) pa_nil)) pa_nil))))))))) (pss_one ps_never) pss_nil)))
    (pss_cons (ps_fld (pv 0) (pe_tupleOf (by rfl) M.tuple (pv 1)) rfl)
    (pss_cons (ps_fld (pv 0) (pe_tupleOf (by rfl) M.tuple (pv 2)) rfl)
    (pss_cons (ps_fld (pv 0) (pe_call Gas_tuples.ok (hr.mono (by decide)) (by rfl) Gas_tuples.m Gas_tuples.kp Gas_tuples.b .nil pass0 (pa_cons (pv 3) pa_nil)) rfl)
    (pss_cons (ps_fld (pv 0) (pe_callBK (cr_maxDef rfl (Nat.lt_of_le_of_lt (Nat.add_le_add_left (by decide) _) hu)) (by rfl) M.max (by decide +kernel) (pa_cons (pe_fld (pv 0) rfl) pa_nil) (pk_cons pe_int pk_nil)) rfl)
    (pss_cons (ps_fld (pv 0) (pe_op op_fdiv (pe_op op_add (pe_fld (pv 0) rfl) pe_int) pe_int) rfl)
    (pss_one (ps_fld (pv 0) (pe_op op_sub (pe_op op_add (pe_fld (pv 0) rfl) pe_int) (pe_op op_mod (pe_fld (pv 0) rfl) pe_int)) rfl))))))), ?_⟩
  have n1 := V0.n
  refine ⟨_, rfl, a, _, rfl, .inl (SqL.of ea), _, rfl, (by rw [List.length_map]; omega), (by rw [List.length_map]; omega), ?_⟩
  have hn : (((os.map V.int).length : Nat) : Int).toNat = os.length := by rw [List.length_map]; rfl
  rw [hn]
  refine for_range (n := os.length) (fun i σ H' => Same H H' ∧ ∃ y : Option V, σ = [some (.ref p), some (.ref a), some (.ref b), some (.ref c), y]) ⟨fun _ _ e => e, Option.none, rfl⟩ ?_ ?_
  · rintro i σ H' hi ⟨sm, y, rfl⟩
    have eo : os[i]? = some os[i] := List.getElem?_eq_getElem hi
    have hip : i < ps.length := by rw [V0.l1]; exact hi
    have hir : i < rows.length := by rw [V0.l2]; exact hi
    have ep : ps[i]? = some ps[i] := List.getElem?_eq_getElem hip
    have erw : rows[i]? = some rows[i] := List.getElem?_eq_getElem hir
    obtain ⟨r, hr', ex⟩ := pr_getR er erw
    have b1 := V0.o _ (List.getElem_mem hi)
    have b2 := V0.p _ (List.getElem_mem hip)
    have b3 := V0.r _ (List.getElem_mem hir)
    refine ⟨_, rfl, _, rfl, a, _, _, _, rfl, rfl, SqL.of (sm _ _ ea), (by rw [Int.zero_add]; exact atI_nat (at_map eo)), os[i], 1, rfl, b1.1, b1.2, true, rfl, iteT ?_⟩
    refine ⟨_, rfl, _, rfl, b, _, _, _, rfl, rfl, SqL.of (sm _ _ eb), (by rw [Int.zero_add]; exact atI_nat (at_map ep)), ps[i], 30, rfl, b2.1, b2.2, true, rfl, iteT ?_⟩
    refine ⟨_, rfl, _, rfl, c, _, _, _, rfl, rfl, SqL.of (sm _ _ ec), (by rw [Int.zero_add]; exact atI_nat (at_map hr')), _, rfl, a, _, rfl, .inl (SqL.of (sm _ _ ea)), r, rows[i], _, rfl, sm _ _ ex, (by rw [List.length_map]; exact b3), fun H2 s2 => ⟨true, rfl, iteF ?_⟩⟩
    exact ⟨sm.trans s2, _, rfl⟩
  · rintro σ H0 ⟨sm0, y, rfl⟩
    have hp0 := sm0 _ _ hp
    have kp0 : Kp H H0 p := fun q o e _ => sm0 _ _ e
    have npa : ∀ {x : Addr} {l : List V}, H x = some (.lst l) → x ≠ p := fun e => ne_of e hp (fun z => nomatch z)
    refine ⟨_, rfl, .inl ⟨a, _, rfl, SqL.of (kp0 _ _ ea (npa ea)), fun a' ha' => ?_⟩⟩
    have s1 := same_new ha' (.tup (os.map V.int))
    refine ⟨_, rfl, p, C, dx, _, rfl, s1 _ _ hp0, T.cl, T.nO, by decide, ?_⟩
    have pa : a' ≠ p := (ne_of_none hp0 ha').symm
    have kp1 : Kp H (upd (upd H0 a' (.tup (os.map V.int))) p (.ins C dx (fl1 a'))) p := (kp0.new ha' _).upd _
    have ga1 : (upd (upd H0 a' (.tup (os.map V.int))) p (.ins C dx (fl1 a'))) a' = some (.tup (os.map V.int)) := by rw [upd_ne pa, upd_same]
    have gp1 : (upd (upd H0 a' (.tup (os.map V.int))) p (.ins C dx (fl1 a'))) p = some (.ins C dx (fl1 a')) := upd_same
    show tSeq _ _ _ [some (.ref p), some (.ref a), some (.ref b), some (.ref c), y] (upd (upd H0 a' (.tup (os.map V.int))) p (.ins C dx (fl1 a')))
    generalize (upd (upd H0 a' (.tup (os.map V.int))) p (.ins C dx (fl1 a'))) = G1 at kp1 ga1 gp1 ⊢
    refine ⟨_, rfl, .inl ⟨b, _, rfl, SqL.of (kp1 _ _ eb (npa eb)), fun b' hb' => ?_⟩⟩
    have s2 := same_new hb' (.tup (ps.map V.int))
    refine ⟨_, rfl, p, C, dx, _, rfl, s2 _ _ gp1, T.cl, T.nP, Nat.lt_of_le_of_lt (fl1_len a') (by decide), ?_⟩
    have pb : b' ≠ p := (ne_of_none gp1 hb').symm
    have kp2 : Kp H (upd (upd G1 b' (.tup (ps.map V.int))) p (.ins C dx (fl2 a' b'))) p := (kp1.new hb' _).upd _
    have ga2 : (upd (upd G1 b' (.tup (ps.map V.int))) p (.ins C dx (fl2 a' b'))) a' = some (.tup (os.map V.int)) := by rw [upd_ne pa]; exact s2 _ _ ga1
    have gb2 : (upd (upd G1 b' (.tup (ps.map V.int))) p (.ins C dx (fl2 a' b'))) b' = some (.tup (ps.map V.int)) := by rw [upd_ne pb, upd_same]
    have gp2 : (upd (upd G1 b' (.tup (ps.map V.int))) p (.ins C dx (fl2 a' b'))) p = some (.ins C dx (fl2 a' b')) := upd_same
    show tSeq _ _ _ [some (.ref p), some (.ref a), some (.ref b), some (.ref c), y] (upd (upd G1 b' (.tup (ps.map V.int))) p (.ins C dx (fl2 a' b')))
    generalize (upd (upd G1 b' (.tup (ps.map V.int))) p (.ins C dx (fl2 a' b'))) = G2 at kp2 ga2 gb2 gp2 ⊢
    refine ⟨_, rfl, c, rs, rows, rfl, kp2 _ _ ec (npa ec), pr_kp er kp2 hp, ?_, fun xs hx => (V0.r xs hx).2.2.2, fun c' ts G3 s3 hc' gc3 gr3 => ?_⟩
    · rw [er.length, V0.l2]; exact V0.n
    refine ⟨_, rfl, p, C, dx, _, rfl, s3 _ _ gp2, T.cl, T.nS, Nat.lt_of_le_of_lt (fl2_len a' b') (by decide), ?_⟩
    have pc : c' ≠ p := (ne_of_none gp2 hc').symm
    have pt : ∀ {x : Addr} {l : List V}, G3 x = some (.tup l) → x ≠ p := fun e => ne_of e (s3 _ _ gp2) (fun z => nomatch z)
    have kp4 : Kp H (upd G3 p (.ins C dx (fl3 a' b' c'))) p := (kp2.same s3).upd _
    have ga4 : (upd G3 p (.ins C dx (fl3 a' b' c'))) a' = some (.tup (os.map V.int)) := by rw [upd_ne pa]; exact s3 _ _ ga2
    have gb4 : (upd G3 p (.ins C dx (fl3 a' b' c'))) b' = some (.tup (ps.map V.int)) := by rw [upd_ne pb]; exact s3 _ _ gb2
    have gc4 : (upd G3 p (.ins C dx (fl3 a' b' c'))) c' = some (.tup (ts.map V.ref)) := by rw [upd_ne pc]; exact gc3
    have gr4 : Paired (fun t xs => (upd G3 p (.ins C dx (fl3 a' b' c'))) t = some (.tup (xs.map V.int))) ts rows := L2.Paired.mapP gr3 fun t xs e => by rw [upd_ne (pt e)]; exact e
    have gp4 : (upd G3 p (.ins C dx (fl3 a' b' c'))) p = some (.ins C dx (fl3 a' b' c')) := upd_same
    show tSeq _ _ _ [some (.ref p), some (.ref a), some (.ref b), some (.ref c), y] (upd G3 p (.ins C dx (fl3 a' b' c')))
    generalize (upd G3 p (.ins C dx (fl3 a' b' c'))) = G4 at kp4 ga4 gb4 gc4 gr4 gp4 ⊢
    -- top
    have fin : ∀ m : Int, IsTop m ps → ∀ (D : Ends), D = { nx := fun x H' => Q V.non H', rt := Q } → sFld K (tVar 0) (tC (.int m)) "top" { D with nx := tSeq (sFld K (tVar 0) (tOp (rI CDiv fun i j => .int (i / j)) (tOp (rI0 fun i j => .int (i + j)) (tFld K (tVar 0) "top") (tC (.int 1))) (tC (.int 2))) "height") (sFld K (tVar 0) (tOp (rI0 fun i j => .int (i - j)) (tOp (rI0 fun i j => .int (i + j)) (tFld K (tVar 0) "top") (tC (.int 2))) (tOp (rI (fun _ j => 0 < j) fun i j => .int (i % j)) (tFld K (tVar 0) "top") (tC (.int 2)))) "ceiling") D } [some (.ref p), some (.ref a), some (.ref b), some (.ref c), y] G4 := by
      rintro m hm D rfl
      refine ⟨_, rfl, p, C, dx, _, rfl, gp4, T.cl, T.nT, Nat.lt_of_le_of_lt (fl3_len a' b' c') (by decide), ?_⟩
      refine ⟨_, rfl, p, C, dx, _, _, rfl, upd_same, T.cl, T.nT, fl4_top a' b' c' m, _, _, rfl, rfl, _, _, rfl, rfl, ⟨by decide, by decide⟩, _, rfl, p, C, dx, _, rfl, upd_same, T.cl, T.nH, Nat.lt_of_le_of_lt (fl4_len a' b' c' m) (by decide), ?_⟩
      refine ⟨_, rfl, p, C, dx, _, _, rfl, upd_same, T.cl, T.nT, fl5_top a' b' c' m, _, _, rfl, rfl, _, rfl, p, C, dx, _, _, rfl, upd_same, T.cl, T.nT, fl5_top a' b' c' m, _, _, rfl, rfl, (by show (0 : Int) < 2; decide), _, _, rfl, rfl, _, rfl, p, C, dx, _, rfl, upd_same, T.cl, T.nC, Nat.lt_of_le_of_lt (fl5_len a' b' c' m) (by decide), ?_⟩
      have pt4 : ∀ {x : Addr} {l : List V}, G4 x = some (.tup l) → x ≠ p := fun e => ne_of e gp4 (fun z => nomatch z)
      refine q _ a' b' c' ts m ⟨upd_same, ?_, ?_, ?_, ?_, hm⟩ (((kp4.upd _).upd _).upd _)
      · rw [upd_ne pa, upd_ne pa, upd_ne pa]; exact ga4
      · rw [upd_ne pb, upd_ne pb, upd_ne pb]; exact gb4
      · rw [upd_ne pc, upd_ne pc, upd_ne pc]; exact gc4
      · exact L2.Paired.mapP gr4 fun t xs e => by rw [upd_ne (pt4 e), upd_ne (pt4 e), upd_ne (pt4 e)]; exact e
    refine ⟨_, rfl, p, C, dx, _, _, rfl, gp4, T.cl, T.nP, fl3_pri a' b' c', b', ps, 0, rfl, rfl, sqT gb4, fun e => ?_, fun m h1 h2 => ?_⟩
    · exact fin 0 (.inl ⟨e, rfl⟩) _ rfl
    · exact fin m (.inr ⟨h1, h2⟩) _ rfl
end
end GM
set_option Elab.async false
set_option linter.all false
set_option maxRecDepth 100000
set_option maxHeartbeats 4000000
set_option pp.maxSteps 150
set_option pp.deepTerms false
namespace GM
open PySem PySem.Spec PyProof.Rows L2
/-! ### rows of registers -/
theorem rep1 (c : V) : ∀ n : Nat, (List.replicate n [c]).flatten = List.replicate n c
  | 0 => rfl
  | n + 1 => by
    rw [List.replicate_succ, List.flatten_cons, rep1 c n, List.replicate_succ]
    rfl
theorem rep_map (c : Int) (n : Nat) : (List.replicate n c).map V.int = List.replicate n (.int c) := by rw [List.map_replicate]
/-- a list or a tuple of ints stands at a -/
def Sq (H : Hp) (a : Addr) (xs : List V) : Prop := H a = some (.lst xs) ∨ H a = some (.tup xs)
theorem Sq.same {H H' : Hp} {a : Addr} {xs : List V} (h : Sq H a xs) (s : Same H H') : Sq H' a xs := h.imp (s _ _) (s _ _)
def high (p : Int) (xs : List Int) : List Int := xs.map fun x => if p > x then p else x
def spStart (C : Addr) : Sp := fun vs H Q _ => ∃ (p : Addr) (k : Int) (os ps : List Int) (rows : List (List Int)) (dx a b c : Addr) (ts : List Addr) (m : Int), vs = [.ref p, .int k] ∧ GameAt C H p os ps rows dx a b c ts m ∧ 1 ≤ k ∧ k ≤ 1000 ∧
  ∀ t H', Same H H' → H' t = some (.tup ((List.replicate k.toNat (m + 2 - m % 2)).map V.int)) → Q (.ref t) H'
def spRaised : Sp := fun vs H Q _ => ∃ (a : Addr) (xs : List Int) (p : Int), vs = [.ref a, .int p] ∧ Sq H a (xs.map V.int) ∧ xs.length ≤ 1000 ∧ ∀ t H', Same H H' → H' t = some (.tup ((high p xs).map V.int)) → Q (.ref t) H'
/-- row k taken out, p put in front -/
def emptyd (xs : List Int) (k : Nat) (p : Int) : List Int := p :: (xs.take k ++ xs.drop (k + 1))
def spEmptied : Sp := fun vs H Q _ => ∃ (a : Addr) (xs : List Int) (k : Nat) (p y : Int), vs = [.ref a, .int ((k : Int) + 1), .int p] ∧ Sq H a (xs.map V.int) ∧ xs.length ≤ 1000 ∧ xs[k]? = some y ∧
  ∀ t u H', Same H H' → H' t = some (.tup [.int y, .ref u]) → H' u = some (.tup ((emptyd xs k p).map V.int)) → Q (.ref t) H'
def spSignal : Sp := fun vs H Q _ => ∃ w v : Int, vs = [.int w, .int v] ∧ 0 ≤ w ∧ w ≤ 1000 ∧ Q (.int (if w = 0 then 1 else 2 * w + v % 2)) H
def spIsRow : Sp := fun vs H Q _ => ∃ (t d : Addr) (xs : List Int), vs = [.ref t, .ref d] ∧ H t = some (.tup (xs.map V.int)) ∧ H d = some (.lst (xs.map V.int)) ∧ xs.length ≤ 1000 ∧ Q (.bl true) H
def spIsEmptied : Sp := fun vs H Q _ => ∃ (t u r : Addr) (xs : List Int) (k : Nat) (p y : Int), vs = [.ref t, .ref r, .int ((k : Int) + 1), .int p] ∧ H r = some (.lst (xs.map V.int)) ∧ xs.length ≤ 999 ∧ xs[k]? = some y ∧
  H t = some (.tup [.int y, .ref u]) ∧ H u = some (.tup ((emptyd xs k p).map V.int)) ∧ ∀ H', Same H H' → Q (.bl true) H'
def spIsSignal : Sp := fun vs H Q _ => ∃ w v : Int, vs = [.int (if w = 0 then 1 else 2 * w + v % 2), .int w, .int v] ∧ 0 ≤ w ∧ w ≤ 1000 ∧ Q (.bl true) H
section
variable {P : Program} {w : World} {K : PySem.W.Frag} {mg : Str → Option Value} {base : Heap} {C : Addr} (M : Blt mg) (T : GTxt K mg C)
include M
theorem ok_start {f : Addr} {fd : FuncData} (T : GTxt K mg C) (F : Fun K "start_row" "start_row" s_start_row f fd) : FnOk P w K mg base CX0 1 f fd ["game", "registers"] (spStart C) := by
  refine F.ok sc_start_row (fun vs H Q E h => ?_) (fun cdv A outer s H vs Q E hr h => ?_)
  · obtain ⟨p, k, os, ps, rows, dx, a, b, c, ts, m, rfl, _⟩ := h
    rfl
  obtain ⟨p, k, os, ps, rows, dx, a, b, c, ts, m, rfl, g, h1, h2, q⟩ := h
  have nd := sc_start_row.nd
  refine ⟨_, pss_one (ps_ret (pe_op (OpR.or op_repT1 op_repT) (pe_tup (pa_cons (pe_fld (pv 0) rfl) pa_nil)) (pv 1))), ?_⟩
  refine ⟨_, rfl, p, C, dx, _, _, rfl, g.ob, T.cl, T.nC, fld_cei a b c m, le_line (n := 1) (by decide), fun t ht => ⟨_, rfl, ?_⟩⟩
  have st := same_new ht (.tup [.int (m + 2 - m % 2)])
  by_cases hk : k = 1
  · subst hk
    exact .inl ⟨t, _, rfl, rfl, sqT upd_same, q t _ st upd_same⟩
  · refine .inr ⟨t, k, _, rfl, rfl, sqT upd_same, (fun z => nomatch z), by omega, h2, (by show 1 ≤ 1000; decide), fun u hu => ?_⟩
    refine q u _ (st.trans (same_new hu _)) ?_
    rw [upd_same, rep1, rep_map]
theorem max2 (i j : Int) : (if j > i then j else i) = (if j > i then j else i) := rfl
theorem ok_raised {f : Addr} {fd : FuncData} (F : Fun K "raised" "raised" s_raised f fd) : FnOk P w K mg base CX0 1 f fd ["row", "priority"] spRaised := by
  refine F.ok sc_raised (fun vs H Q E h => ?_) (fun cdv A outer s H vs Q E hr h => ?_)
  · obtain ⟨a, xs, p, rfl, _⟩ := h
    rfl
  obtain ⟨a, xs, p, rfl, hS, hl, q⟩ := h
  have hi : (xs.map V.int).length ≤ 1000 := by rw [List.length_map]; exact hl
  have fin : ∀ H' D, Same H H' → H' D = some (.lst ((xs.map V.int).mapIdx fun i x => .int (if p > (match x with | .int z => z | _ => 0) then p else (match x with | .int z => z | _ => 0)))) → kTup K (.ref D) H' Q := by
    intro H' D sm eD
    refine .inl ⟨D, _, rfl, SqL.of eD, fun u hu => q u _ (sm.trans (same_new hu _)) ?_⟩
    rw [upd_same]
    congr 2
    rw [high, List.map_map]
    apply List.ext_getElem?
    intro i
    rw [List.getElem?_mapIdx, List.getElem?_map, List.getElem?_map]
    cases xs[i]? <;> rfl
  rcases hS with hS | hS
  · have nd := sc_raised.nd
    refine ⟨_, pss_one (ps_ret (pe_tupleOf (by rfl) M.tuple (pe_lc (own := [("number", 2)]) (g := gName 2) (tt := tYes) rfl nd (pi_list (pv 0)) (blkOk_by (N := n_raised) (sc := defScope s_raised) (by decide +kernel)) (fun _ _ _ _ _ => pg_name (i := 2) nd rfl (Or.inl rfl)) (fun _ _ _ _ _ => pts_nil) (fun _ _ _ _ _ => (pe_callB (call_max2 rfl) (by rfl) M.max (by decide +kernel) (pa_cons (pv 2) (pa_cons (pv 1) pa_nil))))))), ?_⟩
    refine ⟨_, rfl, a, rfl, ⟨_, SqL.of hS⟩, fun D hD => ?_⟩
    refine lc_mapL (fun i x => .int (if p > (match x with | .int z => z | _ => 0) then p else (match x with | .int z => z | _ => 0))) hi (SqL.of hS) hD (fun i x H1 k n hx sm h => ?_) (fun H' sm eD => fin H' D sm eD)
    obtain ⟨z, hz, rfl⟩ := map_at hx
    exact ⟨rfl, tYI ⟨_, rfl, _, rfl, _, _, rfl, h⟩⟩
  · have nd := sc_raised.nd
    refine ⟨_, pss_one (ps_ret (pe_tupleOf (by rfl) M.tuple (pe_lc (own := [("number", 2)]) (g := gName 2) (tt := tYes) rfl nd (pi_tup (pv 0)) (blkOk_by (N := n_raised) (sc := defScope s_raised) (by decide +kernel)) (fun _ _ _ _ _ => pg_name (i := 2) nd rfl (Or.inl rfl)) (fun _ _ _ _ _ => pts_nil) (fun _ _ _ _ _ => (pe_callB (call_max2 rfl) (by rfl) M.max (by decide +kernel) (pa_cons (pv 2) (pa_cons (pv 1) pa_nil))))))), ?_⟩
    refine ⟨_, rfl, a, rfl, ⟨_, sqT hS⟩, fun D hD => ?_⟩
    refine lc_mapT (fun i x => .int (if p > (match x with | .int z => z | _ => 0) then p else (match x with | .int z => z | _ => 0))) hi (sqT hS) hD (fun i x H1 k n hx sm h => ?_) (fun H' sm eD => fin H' D sm eD)
    obtain ⟨z, hz, rfl⟩ := map_at hx
    exact ⟨rfl, tYI ⟨_, rfl, _, rfl, _, _, rfl, h⟩⟩
theorem ok_signal {f : Addr} {fd : FuncData} (F : Fun K "signal" "signal" s_signal f fd) : FnOk P w K mg base CX0 1 f fd ["which", "value"] spSignal := by
  refine F.ok sc_signal (fun vs H Q E h => ?_) (fun cdv A outer s H vs Q E hr h => ?_)
  · obtain ⟨w, v, rfl, _⟩ := h
    rfl
  obtain ⟨w, v, rfl, h0, h1, q⟩ := h
  have nd := sc_signal.nd
  refine ⟨_, pss_cons (ps_if (pt_cmpR op_eq (pv 0) pe_int (nomark _)) (pss_one (ps_ret pe_int)) pss_nil)
    (pss_one (ps_ret (pe_op op_add (pe_op op_mul pe_int (pv 0)) (pe_op op_mod (pv 1) pe_int)))), ?_⟩
  refine ⟨_, rfl, rfl, _, rfl, ite2 (fun z => ?_) (fun z => ?_)⟩
  · have z' : w = 0 := V.int.inj (of_decide_eq_true z)
    rw [if_pos z'] at q
    exact q
  · have z' : ¬ w = 0 := fun y => z (decide_eq_true (congrArg V.int y))
    rw [if_neg z'] at q
    exact ⟨_, rfl, _, _, rfl, rfl, .inl ⟨by decide, by decide⟩, _, rfl, _, _, rfl, rfl, (by show (0 : Int) < 2; decide), _, _, rfl, rfl, q⟩
theorem ok_issignal {f : Addr} {fd : FuncData} (F : Fun K "_law_is_signal" "_law_is_signal" s__law_is_signal f fd) (G_law_whole : Kn P w K mg base 1 "_law_whole" ["value"] spWhole) : FnOk P w K mg base CX0 2 f fd ["told", "which", "value"] spIsSignal := by
  refine F.ok sc__law_is_signal (fun vs H Q E h => ?_) (fun cdv A outer s H vs Q E hr h => ?_)
  · obtain ⟨w, v, rfl, _⟩ := h
    rfl
  obtain ⟨w, v, rfl, h0, h1, q⟩ := h
  have nd := sc__law_is_signal.nd
  refine ⟨_, pss_cons (ps_set (i := 3) nd rfl (.inl rfl) pe_int)
    (pss_cons (ps_if (pt_cmpR op_gt (pv 1) pe_int (nomark _)) (pss_one (ps_set (i := 3) nd rfl (.inl rfl) (pe_op op_add (pe_op op_add (pv 1) (pv 1)) (pe_callTy call_int1 (by rfl) M.int PyProof.Rows.boot_int (pa_cons (pe_op op_sub (pv 2) (pe_op op_mul (pe_op op_fdiv (pv 2) pe_int) pe_int)) pa_nil))))) pss_nil)
    (pss_one (ps_ret (pe_and (pe_call G_law_whole.ok (hr.mono (by decide)) (by rfl) G_law_whole.m G_law_whole.kp G_law_whole.b .nil pass0 (pa_cons (pv 0) pa_nil)) (pe_one (pe_cmpR op_eq (pv 0) (pv 3) (nomark _))))))), ?_⟩
  refine ⟨_, rfl, _, _, rfl, rfl, _, rfl, ite2 (fun z => ?_) (fun z => ?_)⟩
  · have z' : (0 : Int) < w := of_decide_eq_true z
    refine ⟨_, rfl, _, rfl, _, _, rfl, rfl, _, rfl, _, rfl, _, _, rfl, rfl, ⟨by decide, by decide⟩, _, _, rfl, rfl, .inr ⟨by decide, by decide⟩, _, _, rfl, rfl, .inl ⟨_, rfl, _, _, rfl, rfl, ?_⟩⟩
    refine ⟨_, rfl, _, rfl, true, rfl, iteT ⟨_, rfl, _, rfl, rfl, ?_⟩⟩
    have e : V.int (if w = 0 then 1 else 2 * w + v % 2) = V.int (w + w + (v - v / 2 * 2)) := by
      rw [if_neg (by omega)]
      congr 1
      omega
    show Q (.bl (decide (V.int (if w = 0 then 1 else 2 * w + v % 2) = V.int (w + w + (v - v / 2 * 2))))) H
    rw [decide_eq_true e]
    exact q
  · have z' : ¬ (0 : Int) < w := of_decide_eq_false (Bool.eq_false_iff.mpr z)
    refine ⟨_, rfl, _, rfl, true, rfl, iteT ⟨_, rfl, _, rfl, rfl, ?_⟩⟩
    have e : V.int (if w = 0 then 1 else 2 * w + v % 2) = V.int 1 := by rw [if_pos (by omega)]
    show Q (.bl (decide (V.int (if w = 0 then 1 else 2 * w + v % 2) = V.int 1))) H
    rw [decide_eq_true e]
    exact q
theorem ok_isrow {f : Addr} {fd : FuncData} (F : Fun K "_law_is_row" "_law_is_row" s__law_is_row f fd) (G_law_whole : Kn P w K mg base 1 "_law_whole" ["value"] spWhole) : FnOk P w K mg base CX0 2 f fd ["told", "due"] spIsRow := by
  refine F.ok sc__law_is_row (fun vs H Q E h => ?_) (fun cdv A outer s H vs Q E hr h => ?_)
  · obtain ⟨t, d, xs, rfl, _⟩ := h
    rfl
  obtain ⟨t, d, xs, rfl, et, ed, hl, q⟩ := h
  have nd := sc__law_is_row.nd
  refine ⟨_, pss_cons (ps_if (PW.pt (pw_or (pt_not (pt_val (pe_callB call_isi (by rfl) M.isinstance boot_isinstance (pa_cons (pv 0) (pa_cons (pe_bltn (v := .ty "tuple") (by rfl) M.tuple PyProof.Rows.boot_tuple rfl) pa_nil))))) (pw_or1 (pt_cmpR op_ne (pe_callB call_len_seq (by rfl) M.len PySem.boot_len (pa_cons (pv 0) pa_nil)) (pe_callB call_len_seq (by rfl) M.len PySem.boot_len (pa_cons (pv 1) pa_nil)) (nomark _))))) (pss_one (ps_ret pe_bl)) pss_nil)
    (pss_cons (ps_for PassesOwn.never rfl (pi_range1 rfl M.range (pa_cons (pe_callB call_len_seq (by rfl) M.len PySem.boot_len (pa_cons (pv 1) pa_nil)) pa_nil)) (pg_name (i := 2) nd rfl (.inl rfl)) (pss_one (ps_if (PW.pt (pw_or (pt_not (pt_val (pe_call G_law_whole.ok (hr.mono (by decide)) (by rfl) G_law_whole.m G_law_whole.kp G_law_whole.b .nil pass0 (pa_cons (pe_ix ix_tup (pv 0) (pv 2) (fun _ _ => rfl)) pa_nil)))) (pw_or1 (pt_cmpR op_ne (pe_ix ix_tup (pv 0) (pv 2) (fun _ _ => rfl)) (pe_ix ix_list (pv 1) (pv 2) (fun _ _ => rfl)) (nomark _))))) (pss_one (ps_ret pe_bl)) pss_nil)))
    (pss_one (ps_ret pe_bl))), ?_⟩
  refine ⟨_, rfl, _, _, _, _, true, rfl, .ty "tuple", .base (.tup et), kit_ty (by decide +kernel), true, rfl, iteF ?_⟩
  refine ⟨_, rfl, t, _, rfl, .inr (sqT et), _, rfl, d, _, rfl, .inl (SqL.of ed), rfl, _, rfl, iteNS rfl ?_⟩
  refine ⟨_, rfl, d, _, rfl, .inl (SqL.of ed), _, rfl, (by rw [List.length_map]; omega), (by rw [List.length_map]; omega), ?_⟩
  have hn : (((xs.map V.int).length : Nat) : Int).toNat = xs.length := by rw [List.length_map]; rfl
  rw [hn]
  refine for_range (n := xs.length) (fun i σ H' => H' = H ∧ ∃ y : Option V, σ = [some (.ref t), some (.ref d), y]) ⟨rfl, Option.none, rfl⟩ ?_ ?_
  · rintro i σ H' hi ⟨rfl, y, rfl⟩
    have ex : xs[i]? = some xs[i] := List.getElem?_eq_getElem hi
    refine ⟨_, rfl, _, rfl, t, _, _, _, rfl, rfl, sqT et, (by rw [Int.zero_add]; exact atI_nat (at_map ex)), _, rfl, true, rfl, iteF ?_⟩
    refine ⟨_, rfl, _, rfl, t, _, _, _, rfl, rfl, sqT et, (by rw [Int.zero_add]; exact atI_nat (at_map ex)), _, rfl, _, rfl, d, _, _, _, rfl, rfl, SqL.of ed, (by rw [Int.zero_add]; exact atI_nat (at_map ex)), rfl, _, rfl, iteNS rfl ?_⟩
    exact ⟨rfl, _, rfl⟩
  · rintro σ H' ⟨rfl, y, rfl⟩
    exact q
end
end GM
set_option Elab.async false
set_option linter.all false
set_option maxRecDepth 100000
set_option maxHeartbeats 4000000
set_option pp.maxSteps 150
set_option pp.deepTerms false
namespace GM
open PySem PySem.Spec PyProof.Rows L2
theorem emptyd_erase (xs : List Int) (k : Nat) (p : Int) : emptyd xs k p = p :: xs.eraseIdx k := by
  unfold emptyd
  rw [List.eraseIdx_eq_take_drop_succ]
theorem erase_step {xs : List Int} {i k : Nat} {x : Int} (h : xs[i]? = some x) : (xs.take (i + 1)).eraseIdx k = if i = k then (xs.take i).eraseIdx k else (xs.take i).eraseIdx k ++ [x] := by
  have li := lt_of_at h
  have lt : (xs.take i).length = i := by rw [List.length_take, Nat.min_eq_left (Nat.le_of_lt li)]
  rw [tk1 h]
  by_cases c : k < i
  · rw [List.eraseIdx_append_of_lt_length (by omega), if_neg (by omega)]
  · rw [List.eraseIdx_append_of_length_le (by omega), lt]
    by_cases d : i = k
    · subst d
      rw [if_pos rfl, Nat.sub_self, List.eraseIdx_of_length_le (l := xs.take i) (by omega)]
      show xs.take i ++ [] = _
      rw [List.append_nil]
    · rw [if_neg d, List.eraseIdx_of_length_le (l := xs.take i) (by omega), List.eraseIdx_of_length_le (l := [x]) (by show 1 ≤ k - i; omega)]
section
variable {P : Program} {w : World} {K : PySem.W.Frag} {mg : Str → Option Value} {base : Heap} {C : Addr} (M : Blt mg)
include M
theorem ok_emptied {f : Addr} {fd : FuncData} (F : Fun K "emptied" "emptied" s_emptied f fd) : FnOk P w K mg base CX0 1 f fd ["row", "which", "priority"] spEmptied := by
  refine F.ok sc_emptied (fun vs H Q E h => ?_) (fun cdv A outer s H vs Q E hr h => ?_)
  · obtain ⟨a, xs, k, p, y, rfl, _⟩ := h
    rfl
  obtain ⟨a, xs, k, p, y, rfl, hS, hl, hy, q⟩ := h
  have nd := sc_emptied.nd
  refine ⟨_, pss_cons (ps_set (i := 3) nd rfl (.inl rfl) (pe_tupleOf (by rfl) M.tuple (pv 0)))
    (pss_one (ps_ret (pe_tup (pa_cons (pe_ix ix_tup (pv 3) (pe_op op_sub (pv 1) pe_int) (fun _ _ => rfl)) (pa_cons (pe_op op_catA (pe_op op_catA (pe_tup (pa_cons (pv 2) pa_nil)) (pe_slice sl_tupA (pv 3) po_none (po_some (pe_op op_sub (pv 1) pe_int)))) (pe_slice sl_tupA (pv 3) (po_some (pv 1)) po_none)) pa_nil))))), ?_⟩
  have lk := lt_of_at hy
  have fin : ∀ H1 t, Same H H1 → H1 t = some (.tup (xs.map V.int)) → ∀ D : Ends, D = { nx := fun x H' => Q V.non H', rt := Q } → tRet (tTup (tCons (tOp (rIxT K) (tVar 3) (tOp (rI0 fun i j => .int (i - j)) (tVar 1) (tC (.int 1)))) (tCons (tOp (rCatA K) (tOp (rCatA K) (tTup (tCons (tVar 2) tNil)) (tSl (rSlA K) (tVar 3) tNoPart (tPart (tOp (rI0 fun i j => .int (i - j)) (tVar 1) (tC (.int 1)))))) (tSl (rSlA K) (tVar 3) (tPart (tVar 1)) tNoPart)) tNil))) D [some (.ref a), some (.int ((k : Int) + 1)), some (.int p), some (.ref t)] H1 := by
    rintro H1 t sm et D rfl
    have ek : (k : Int) + 1 - 1 = (k : Int) := by omega
    refine ⟨_, rfl, _, rfl, _, _, rfl, rfl, t, _, _, _, rfl, rfl, sqT et, (by rw [ek]; exact atI_nat (at_map hy)), ?_⟩
    refine ⟨_, rfl, le_line (n := 1) (by decide), fun u hu => ?_⟩
    have su := same_new hu (.tup [.int p])
    have eu : upd H1 u (.tup [.int p]) u = some (.tup ([p].map V.int)) := upd_same
    generalize upd H1 u (.tup [.int p]) = H2 at su eu
    refine ⟨_, rfl, ?_⟩
    unfold tNoPart
    refine ⟨_, rfl, _, _, rfl, rfl, _, rfl, slA (su _ _ et) fun r1 H3 s3 e3 => ?_⟩
    rw [ek, cut_hi, ← List.map_take] at e3
    refine catA2 (s3 _ _ eu) e3 (by rw [List.length_map, List.length_map, List.length_take]; show 1 + min k xs.length ≤ _; exact le_line (by omega)) fun r2 H4 s4 e4 => ?_
    rw [← List.map_append] at e4
    have et4 := s4 _ _ (s3 _ _ (su _ _ et))
    refine ⟨_, rfl, _, rfl, _, rfl, slA et4 fun r3 H5 s5 e5 => ?_⟩
    rw [show ((k : Int) + 1) = ((k + 1 : Nat) : Int) by omega, cut_lo, ← List.map_drop] at e5
    refine catA2 (s5 _ _ e4) e5 (by rw [List.length_map, List.length_map, List.length_append, List.length_take, List.length_drop]; show 1 + min k xs.length + (xs.length - (k + 1)) ≤ _; exact le_line (by omega)) fun r4 H6 s6 e6 => ?_
    rw [← List.map_append] at e6
    refine ⟨le_line (n := 2) (by decide), fun z hz => ?_⟩
    have sz := same_new hz (.tup [.int y, .ref r4])
    refine q z r4 _ ((((((sm.trans su).trans s3).trans s4).trans s5).trans s6).trans sz) upd_same (sz _ _ ?_)
    rw [e6]
    show some (HO.tup (((p :: xs.take k) ++ xs.drop (k + 1)).map V.int)) = some (HO.tup ((p :: (xs.take k ++ xs.drop (k + 1))).map V.int))
    rw [List.cons_append]
  rcases hS with hS | hS
  · exact ⟨_, rfl, .inl ⟨a, _, rfl, SqL.of hS, fun t ht => fin _ t (same_new ht _) upd_same _ rfl⟩⟩
  · exact ⟨_, rfl, .inr ⟨a, _, rfl, sqT hS, fin H a (.refl _) hS _ rfl⟩⟩
theorem ok_isemptied {f : Addr} {fd : FuncData} (F : Fun K "_law_is_emptied" "_law_is_emptied" s__law_is_emptied f fd) (G_law_whole : Kn P w K mg base 1 "_law_whole" ["value"] spWhole) (G_law_is_row : Kn P w K mg base 2 "_law_is_row" ["told", "due"] spIsRow) :
    FnOk P w K mg base CX0 3 f fd ["told", "row", "which", "priority"] spIsEmptied := by
  refine F.ok sc__law_is_emptied (fun vs H Q E h => ?_) (fun cdv A outer s H vs Q E hr h => ?_)
  · obtain ⟨t, u, r, xs, k, p, y, rfl, _⟩ := h
    rfl
  obtain ⟨t, u, r, xs, k, p, y, rfl, er, hl, hy, et, eu, q⟩ := h
  have nd := sc__law_is_emptied.nd
  refine ⟨_, pss_cons (ps_set (i := 4) nd rfl (.inl rfl) (pe_lst (pa_cons (pv 3) pa_nil)))
    (pss_cons (ps_for PassesOwn.never rfl (pi_range1 rfl M.range (pa_cons (pe_callB call_len_seq (by rfl) M.len PySem.boot_len (pa_cons (pv 1) pa_nil)) pa_nil)) (pg_name (i := 5) nd rfl (.inl rfl)) (pss_one (ps_if (pt_cmpR op_ne (pv 5) (pe_op op_sub (pv 2) pe_int) (nomark _)) (pss_one (ps_expr (pe_bm PySem.F.plainAttrs_list PySem.F.slot_list_append PySem.F.type_list_append mt_append (pv 4) (pa_cons (pe_ix ix_list (pv 1) (pv 5) (fun _ _ => rfl)) pa_nil)))) pss_nil)))
    (pss_cons (ps_if (PW.pt (pw_or (pt_not (pt_val (pe_callB call_isi (by rfl) M.isinstance boot_isinstance (pa_cons (pv 0) (pa_cons (pe_bltn (v := .ty "tuple") (by rfl) M.tuple PyProof.Rows.boot_tuple rfl) pa_nil))))) (pw_or1 (pt_cmpR op_ne (pe_callB call_len_seq (by rfl) M.len PySem.boot_len (pa_cons (pv 0) pa_nil)) pe_int (nomark _))))) (pss_one (ps_ret pe_bl)) pss_nil)
    (pss_one (ps_ret (pe_and (pe_call G_law_whole.ok (hr.mono (by decide)) (by rfl) G_law_whole.m G_law_whole.kp G_law_whole.b .nil pass0 (pa_cons (pe_ix ix_tup (pv 0) pe_int (fun _ _ => rfl)) pa_nil)) (pe_and (pe_cmpR op_eq (pe_ix ix_tup (pv 0) pe_int (fun _ _ => rfl)) (pe_ix ix_list (pv 1) (pe_op op_sub (pv 2) pe_int) (fun _ _ => rfl)) (nomark _)) (pe_one (pe_call G_law_is_row.ok (hr.mono (by decide)) (by rfl) G_law_is_row.m G_law_is_row.kp G_law_is_row.b .nil pass0 (pa_cons (pe_ix ix_tup (pv 0) pe_int (fun _ _ => rfl)) (pa_cons (pv 4) pa_nil)))))))))), ?_⟩
  have ek : (k : Int) + 1 - 1 = (k : Int) := by omega
  have lk := lt_of_at hy
  refine ⟨_, rfl, le_line (n := 1) (by decide), fun o no => ?_⟩
  refine ⟨_, rfl, r, _, rfl, .inl (SqL.of (same_new no _ _ _ er)), _, rfl, (by rw [List.length_map]; omega), (by rw [List.length_map]; omega), ?_⟩
  have hn : (((xs.map V.int).length : Nat) : Int).toNat = xs.length := by rw [List.length_map]; rfl
  rw [hn]
  refine for_range (n := xs.length) (fun i σ H' => Same H H' ∧ ∃ z : Option V, H' o = some (.lst ((p :: (xs.take i).eraseIdx k).map V.int)) ∧ σ = [some (.ref t), some (.ref r), some (.int ((k : Int) + 1)), some (.int p), some (.ref o), z]) ⟨same_new no _, Option.none, upd_same, rfl⟩ ?_ ?_
  · rintro i σ H' hi ⟨sm, z, eo, rfl⟩
    have ex : xs[i]? = some xs[i] := List.getElem?_eq_getElem hi
    refine ⟨_, rfl, _, rfl, _, _, rfl, rfl, rfl, _, rfl, ite2 (fun c => ?_) (fun c => ?_)⟩
    · refine ⟨_, rfl, .inl ⟨rfl, _, SqL.of eo⟩, _, rfl, _, rfl, r, _, _, _, rfl, rfl, SqL.of (sm _ _ er), (by rw [Int.zero_add]; exact atI_nat (at_map ex)), o, _, _, rfl, rfl, eo, ?_, ?_⟩
      · rw [List.length_map, List.length_cons]
        have := List.length_eraseIdx_le (xs.take i) k
        rw [List.length_take] at this
        exact lt_line (by omega)
      · refine ⟨same_upd sm no _, _, ?_, rfl⟩
        have hik : ¬ i = k := fun e => by
          subst e
          rw [show (0 : Int) + (i : Int) = (i : Int) + 1 - 1 by omega, decide_eq_true rfl] at c
          exact nomatch c
        rw [upd_same, erase_step ex, if_neg hik, List.map_cons, List.map_cons, List.map_append]
        rfl
    · refine ⟨sm, _, ?_, rfl⟩
      have hik : i = k := by
        have c' : (!decide (V.int (0 + (i : Int)) = V.int ((k : Int) + 1 - 1))) = false := Bool.eq_false_iff.mpr c
        have c2 : decide (V.int (0 + (i : Int)) = V.int ((k : Int) + 1 - 1)) = true := by
          cases hb : decide (V.int (0 + (i : Int)) = V.int ((k : Int) + 1 - 1)) with
          | true => rfl
          | false => rw [hb] at c'; exact nomatch c'
        have := V.int.inj (of_decide_eq_true c2)
        omega
      rw [erase_step ex, if_pos hik]
      exact eo
  · rintro σ H' ⟨sm, z, eo, rfl⟩
    rw [List.take_length, ← emptyd_erase] at eo
    refine ⟨_, rfl, _, _, _, _, true, rfl, .ty "tuple", .base (.tup (sm _ _ et)), kit_ty (by decide +kernel), true, rfl, iteF ?_⟩
    refine ⟨_, rfl, t, _, rfl, .inr (sqT (sm _ _ et)), rfl, _, rfl, iteNS rfl ?_⟩
    refine ⟨_, rfl, t, _, 0, _, rfl, rfl, sqT (sm _ _ et), rfl, _, rfl, true, rfl, iteT ?_⟩
    refine ⟨_, rfl, t, _, 0, _, rfl, rfl, sqT (sm _ _ et), rfl, _, rfl, _, rfl, _, _, rfl, rfl, r, _, _, _, rfl, rfl, SqL.of (sm _ _ er), (by rw [ek]; exact atI_nat (at_map hy)), rfl, _, rfl, ?_⟩
    rw [if_pos (decide_eq_true rfl)]
    refine ⟨_, rfl, t, _, 1, _, rfl, rfl, sqT (sm _ _ et), rfl, _, rfl, u, o, _, rfl, sm _ _ eu, eo, ?_, q H' sm⟩
    rw [emptyd_erase, List.length_cons]
    have := List.length_eraseIdx_le xs k
    omega
end
end GM
set_option Elab.async false
set_option linter.all false
set_option maxRecDepth 100000
set_option maxHeartbeats 4000000
set_option pp.maxSteps 150
set_option pp.deepTerms false
namespace GM
open PySem PySem.Spec PyProof.Rows L2
theorem high_step {p : Int} {xs : List Int} {i : Nat} {x : Int} (h : xs[i]? = some x) : high p (xs.take (i + 1)) = high p (xs.take i) ++ [if p > x then p else x] := by
  rw [tk1 h, high, List.map_append]
  rfl
theorem high_len (p : Int) (xs : List Int) : (high p xs).length = xs.length := List.length_map _
theorem const_range (c : V) : ∀ n : Nat, (List.range n).map (fun _ => c) = List.replicate n c
  | 0 => rfl
  | n + 1 => by rw [List.range_succ, List.map_append, const_range c n, List.replicate_succ']; rfl
theorem neD_eq {ns : List Int} : (!PyData.eqv (.list (ns.map PyData.int)) (.list (ns.map PyData.int))) = false := by rw [eqv_lst]; rfl
def spRowGood : Sp := fun vs H Q _ => ∃ (r : Addr) (xs : List Int) (p : Int), vs = [.ref r, .int p] ∧ H r = some (.lst (xs.map V.int)) ∧ xs.length ≤ 900 ∧ ∀ H', Same H H' → Q (.bl true) H'
section
variable {P : Program} {w : World} {K : PySem.W.Frag} {mg : Str → Option Value} {base : Heap} {C : Addr} (M : Blt mg)
include M
theorem ok_rowgood {f : Addr} {fd : FuncData} (F : Fun K "_law_row_good" "_law_row_good" s__law_row_good f fd) (Graised : Kn P w K mg base 1 "raised" ["row", "priority"] spRaised) (Gemptied : Kn P w K mg base 1 "emptied" ["row", "which", "priority"] spEmptied)
    (G_law_is_row : Kn P w K mg base 2 "_law_is_row" ["told", "due"] spIsRow) (G_law_is_emptied : Kn P w K mg base 3 "_law_is_emptied" ["told", "row", "which", "priority"] spIsEmptied) :
    FnOk P w K mg base CX0 4 f fd ["row", "priority"] spRowGood := by
  refine F.ok sc__law_row_good (fun vs H Q E h => ?_) (fun cdv A outer s H vs Q E hr h => ?_)
  · obtain ⟨r, xs, p, rfl, _⟩ := h
    rfl
  obtain ⟨r, xs, p, rfl, er, hl, q⟩ := h
  have hu := hr.units
  have nd := sc__law_row_good.nd
  refine ⟨_, pss_cons (ps_set (i := 2) nd rfl (.inl rfl) (pe_callTy call_list_of (by rfl) M.list PyProof.Rows.boot_list (pa_cons (pv 0) pa_nil)))
    (pss_cons (ps_set (i := 3) nd rfl (.inl rfl) (pe_lst pa_nil))
    (pss_cons (ps_for PassesOwn.never rfl (pi_list (pv 0)) (pg_name (i := 4) nd rfl (.inl rfl)) (pss_one (ps_if (pt_cmpR op_lt (pv 4) (pv 1) (nomark _)) (pss_one (ps_expr (pe_bm PySem.F.plainAttrs_list PySem.F.slot_list_append PySem.F.type_list_append mt_append (pv 3) (pa_cons (pv 1) pa_nil)))) (pss_one (ps_expr (pe_bm PySem.F.plainAttrs_list PySem.F.slot_list_append PySem.F.type_list_append mt_append (pv 3) (pa_cons (pv 4) pa_nil)))))))
    (pss_cons (ps_if (PW.pt (pw_or (pt_not (pt_val (pe_call G_law_is_row.ok (hr.mono (by decide)) (by rfl) G_law_is_row.m G_law_is_row.kp G_law_is_row.b .nil pass0 (pa_cons (pe_call Graised.ok (hr.mono (by decide)) (by rfl) Graised.m Graised.kp Graised.b .nil pass0 (pa_cons (pv 2) (pa_cons (pv 1) pa_nil))) (pa_cons (pv 3) pa_nil))))) (pw_or1 (pt_cmpR (op_neD hu) (pv 2) (pv 0) (nomark _))))) (pss_one (ps_ret pe_bl)) pss_nil)
    (pss_cons (ps_set (i := 5) nd rfl (.inl rfl) (pe_callTy call_list_of (by rfl) M.list PyProof.Rows.boot_list (pa_cons (pv 3) pa_nil)))
    (pss_cons (ps_for PassesOwn.never rfl (pi_range2 rfl M.range (pa_cons pe_int (pa_cons (pe_op op_add (pe_callB call_len_seq (by rfl) M.len PySem.boot_len (pa_cons (pv 3) pa_nil)) pe_int) pa_nil))) (pg_name (i := 6) nd rfl (.inl rfl)) (pss_cons (ps_if (PW.pt (pw_or (pt_not (pt_val (pe_call G_law_is_emptied.ok (hr.mono (by decide)) (by rfl) G_law_is_emptied.m G_law_is_emptied.kp G_law_is_emptied.b .nil pass0 (pa_cons (pe_call Gemptied.ok (hr.mono (by decide)) (by rfl) Gemptied.m Gemptied.kp Gemptied.b .nil pass0 (pa_cons (pv 5) (pa_cons (pv 6) (pa_cons (pv 1) pa_nil)))) (pa_cons (pv 3) (pa_cons (pv 6) (pa_cons (pv 1) pa_nil))))))) (pw_or1 (pt_cmpR (op_neD hu) (pv 5) (pv 3) (nomark _))))) (pss_one (ps_ret pe_bl)) pss_nil)
      (pss_one (ps_if (pt_not (pt_val (pe_call G_law_is_emptied.ok (hr.mono (by decide)) (by rfl) G_law_is_emptied.m G_law_is_emptied.kp G_law_is_emptied.b .nil pass0 (pa_cons (pe_call Gemptied.ok (hr.mono (by decide)) (by rfl) Gemptied.m Gemptied.kp Gemptied.b .nil pass0 (pa_cons (pe_tupleOf (by rfl) M.tuple (pv 3)) (pa_cons (pv 6) (pa_cons (pv 1) pa_nil)))) (pa_cons (pv 3) (pa_cons (pv 6) (pa_cons (pv 1) pa_nil))))))) (pss_one (ps_ret pe_bl)) pss_nil))))
    (pss_one (ps_ret (pe_call G_law_is_row.ok (hr.mono (by decide)) (by rfl) G_law_is_row.m G_law_is_row.kp G_law_is_row.b .nil pass0 (pa_cons (pe_call Graised.ok (hr.mono (by decide)) (by rfl) Graised.m Graised.kp Graised.b .nil pass0 (pa_cons (pe_tupleOf (by rfl) M.tuple (pv 0)) (pa_cons (pv 1) pa_nil))) (pa_cons (pv 3) pa_nil)))))))))), ?_⟩
  refine ⟨_, rfl, r, _, rfl, .inl (SqL.of er), fun hd hhd => ?_⟩
  have s1 := same_new hhd (.lst (xs.map V.int))
  have ehd : upd H hd (.lst (xs.map V.int)) hd = some (.lst (xs.map V.int)) := upd_same
  show tSeq _ _ _ [some (.ref r), some (.int p), some (.ref hd), Option.none, Option.none, Option.none, Option.none] (upd H hd (.lst (xs.map V.int)))
  generalize upd H hd (.lst (xs.map V.int)) = H1 at s1 ehd ⊢
  refine ⟨Nat.zero_le _, fun o no => ?_⟩
  have er1 := s1 _ _ er
  refine ⟨_, rfl, r, rfl, ⟨_, SqL.of (same_new no _ _ _ er1)⟩, for_list (xs := xs.map V.int) (fun i σ H' => Same H1 H' ∧ ∃ y : Option V, H' o = some (.lst ((high p (xs.take i)).map V.int)) ∧ σ = [some (.ref r), some (.int p), some (.ref hd), some (.ref o), y, Option.none, Option.none]) ⟨same_new no _, Option.none, upd_same, rfl⟩ (fun i σ H' _ z => SqL.of (z.1 _ _ er1)) ?_ ?_⟩
  · rintro i x σ H' hx ⟨sm, y, eo, rfl⟩
    obtain ⟨z, hz, rfl⟩ := map_at hx
    have hb : ((high p (xs.take i)).map V.int).length < sizeLine := by
      rw [List.length_map, high_len, List.length_take]
      exact lt_line (by omega)
    refine ⟨_, rfl, _, rfl, _, _, rfl, rfl, _, rfl, ite2 (fun c => ?_) (fun c => ?_)⟩
    · have c' : z < p := of_decide_eq_true c
      refine ⟨_, rfl, .inl ⟨rfl, _, SqL.of eo⟩, _, rfl, o, _, _, rfl, rfl, eo, hb, same_upd sm no _, _, ?_, rfl⟩
      rw [upd_same, high_step hz, if_pos (by omega), List.map_append]
      rfl
    · have c' : ¬ z < p := of_decide_eq_false (Bool.eq_false_iff.mpr c)
      refine ⟨_, rfl, .inl ⟨rfl, _, SqL.of eo⟩, _, rfl, o, _, _, rfl, rfl, eo, hb, same_upd sm no _, _, ?_, rfl⟩
      rw [upd_same, high_step hz, if_neg (by omega), List.map_append]
      rfl
  · rintro σ H3 ⟨sm3, y, eo, rfl⟩
    rw [List.length_map, List.take_length] at eo
    have hh : (high p xs).length ≤ 900 := by rw [high_len]; exact hl
    refine ⟨_, rfl, _, rfl, hd, xs, p, rfl, .inl (sm3 _ _ ehd), by omega, fun t H4 s4 et => ⟨_, rfl, t, o, high p xs, rfl, et, s4 _ _ eo, by omega, true, rfl, iteF ?_⟩⟩
    refine ⟨_, rfl, _, rfl, _, _, dp_lst (s4 _ _ (sm3 _ _ ehd)), dp_lst (s4 _ _ (sm3 _ _ er1)), shape_ints _, shape_ints _, _, rfl, ?_⟩
    rw [neD_eq]
    refine iteF ?_
    refine ⟨_, rfl, o, _, rfl, .inl (SqL.of (s4 _ _ eo)), fun cp hcp => ?_⟩
    have s5 := same_new hcp (.lst ((high p xs).map V.int))
    have ecp : upd H4 cp (.lst ((high p xs).map V.int)) cp = some (.lst ((high p xs).map V.int)) := upd_same
    have eo5 := s5 _ _ (s4 _ _ eo)
    have er5 := s5 _ _ (s4 _ _ (sm3 _ _ er1))
    have sm5 : Same H (upd H4 cp (.lst ((high p xs).map V.int))) := ((s1.trans sm3).trans s4).trans s5
    show tSeq _ _ _ [some (.ref r), some (.int p), some (.ref hd), some (.ref o), y, some (.ref cp), Option.none] (upd H4 cp (.lst ((high p xs).map V.int)))
    generalize upd H4 cp (.lst ((high p xs).map V.int)) = H5 at s5 ecp eo5 er5 sm5 ⊢
    refine ⟨_, rfl, o, _, rfl, .inl (SqL.of eo5), _, _, rfl, rfl, 1, _, rfl, ⟨by decide, by decide, by rw [List.length_map]; omega, by rw [List.length_map]; omega⟩, ?_⟩
    have hn : ((((high p xs).map V.int).length : Nat) + (1 : Int) - 1).toNat = (high p xs).length := by rw [List.length_map]; omega
    rw [hn]
    refine for_range (lo := 1) (n := (high p xs).length) (fun i σ H' => Same H5 H' ∧ ∃ z : Option V, σ = [some (.ref r), some (.int p), some (.ref hd), some (.ref o), y, some (.ref cp), z]) ⟨.refl _, Option.none, rfl⟩ ?_ ?_
    · rintro i σ H6 hi ⟨sm6, z, rfl⟩
      have ex : (high p xs)[i]? = some (high p xs)[i] := List.getElem?_eq_getElem hi
      refine ⟨_, rfl, _, rfl, _, rfl, cp, high p xs, i, p, _, (by rw [Int.add_comm 1]; rfl), .inl (sm6 _ _ ecp), by omega, ex, fun t1 u1 H7 s7 et1 eu1 => ?_⟩
      refine ⟨_, rfl, _, rfl, _, rfl, t1, u1, o, high p xs, i, p, _, (by rw [Int.add_comm 1]; rfl), s7 _ _ (sm6 _ _ eo5), by omega, ex, et1, eu1, fun H8 s8 => ⟨true, rfl, iteF ?_⟩⟩
      have s68 := (sm6.trans s7).trans s8
      refine ⟨_, rfl, _, rfl, _, _, dp_lst (s68 _ _ ecp), dp_lst (s68 _ _ eo5), shape_ints _, shape_ints _, _, rfl, ?_⟩
      rw [neD_eq]
      refine iteF ?_
      refine ⟨_, rfl, .inl ⟨o, _, rfl, SqL.of (s68 _ _ eo5), fun tp htp => ?_⟩⟩
      have s9 := same_new htp (.tup ((high p xs).map V.int))
      refine ⟨_, rfl, _, rfl, tp, high p xs, i, p, _, (by rw [Int.add_comm 1]; rfl), .inr upd_same, by omega, ex, fun t2 u2 H10 s10 et2 eu2 => ?_⟩
      refine ⟨_, rfl, _, rfl, _, rfl, t2, u2, o, high p xs, i, p, _, (by rw [Int.add_comm 1]; rfl), s10 _ _ (s9 _ _ (s68 _ _ eo5)), by omega, ex, et2, eu2, fun H11 s11 => ⟨true, rfl, iteF ?_⟩⟩
      exact ⟨((s68.trans s9).trans s10).trans s11, _, rfl⟩
    · rintro σ H6 ⟨sm6, z, rfl⟩
      refine ⟨_, rfl, .inl ⟨r, _, rfl, SqL.of (sm6 _ _ er5), fun tp htp => ?_⟩⟩
      have s9 := same_new htp (.tup (xs.map V.int))
      refine ⟨_, rfl, tp, xs, p, rfl, .inr upd_same, by omega, fun t H7 s7 et => ⟨_, rfl, t, o, high p xs, rfl, et, s7 _ _ (s9 _ _ (sm6 _ _ eo5)), by omega, ?_⟩⟩
      exact q _ (((sm5.trans sm6).trans s9).trans s7)
end
end GM
set_option Elab.async false
set_option linter.all false
set_option maxRecDepth 100000
set_option maxHeartbeats 4000000
set_option pp.maxSteps 150
set_option pp.deepTerms false
namespace GM
open PySem PySem.Spec PyProof.Rows L2
/-- the class Game, made -/
structure KG (P : Program) (w : World) (K : PySem.W.Frag) (mg : Str → Option Value) (base : Heap) (C : Addr) where
  f : Addr
  fd : FuncData
  cm : Mk K C f
  ok : FnOk P w K mg base CX0 4 f fd ["self", "owners", "priorities", "successors"] (spInit C)
  b : Binds K fd ["self", "owners", "priorities", "successors"] []
/-- the ceiling of those that were seen -/
def Cg (c : Int) (l : List Int) : Prop := c % 2 = 0 ∧ 2 ≤ c ∧ (∀ x ∈ l, x < c) ∧ (c = 2 ∨ ∃ x ∈ l, c = x + 2 - x % 2)
theorem Cg.step {c : Int} {l : List Int} (h : Cg c l) (z : Int) : Cg (if z ≥ c then z + 2 - z % 2 else c) (l ++ [z]) := by
  obtain ⟨h1, h2, h3, h4⟩ := h
  by_cases g : z ≥ c
  · rw [if_pos g]
    refine ⟨by omega, by omega, fun x hx => ?_, .inr ⟨z, by simp, rfl⟩⟩
    rcases List.mem_append.mp hx with hx | hx
    · have := h3 x hx; omega
    · rw [List.mem_singleton.mp hx]; omega
  · rw [if_neg g]
    refine ⟨h1, h2, fun x hx => ?_, ?_⟩
    · rcases List.mem_append.mp hx with hx | hx
      · exact h3 x hx
      · rw [List.mem_singleton.mp hx]; omega
    · rcases h4 with h4 | ⟨x, hx, e⟩
      · exact .inl h4
      · exact .inr ⟨x, List.mem_append_left _ hx, e⟩
theorem Cg.top {c m : Int} {l : List Int} (h : Cg c l) (t : IsTop m l) (pos : ∀ x ∈ l, 0 ≤ x) : c = m + 2 - m % 2 := by
  obtain ⟨h1, h2, h3, h4⟩ := h
  rcases t with ⟨rfl, rfl⟩ | ⟨hm, hle⟩
  · rcases h4 with h4 | ⟨x, hx, e⟩
    · omega
    · exact nomatch hx
  · have a1 := h3 m hm
    have a2 := pos m hm
    rcases h4 with h4 | ⟨x, hx, e⟩
    · omega
    · have := hle x hx
      omega
theorem pr_mapR {α β γ : Type} {F : α → β → Prop} {G : α → γ → Prop} {f : β → γ} {as : List α} {bs : List β} (h : Paired F as bs) (k : ∀ a b, F a b → G a (f b)) : Paired G as (bs.map f) := by
  induction h with
  | nil => exact .nil
  | cons r _ ih => exact .cons (k _ _ r) ih
def spStartGood : Sp := fun vs H Q _ => ∃ (a : Addr) (n : Nat) (cs : List Int) (k : Int), vs = [.ref a, .int k] ∧ H a = some (.lst (((n : Int) :: cs).map V.int)) ∧ n ≤ cs.length ∧ (∀ x ∈ cs.take n, 0 ≤ x ∧ x ≤ 30) ∧ n ≤ 100 ∧ 1 ≤ k ∧ k ≤ 6 ∧ ∀ H', Same H H' → Q (.bl true) H'
section
variable {P : Program} {w : World} {K : PySem.W.Frag} {mg : Str → Option Value} {base : Heap} {C : Addr} (M : Blt mg) (T : GTxt K mg C)
include M T
theorem ok_startgood {f : Addr} {fd : FuncData} (F : Fun K "_law_start_good" "_law_start_good" s__law_start_good f fd) (GG : KG P w K mg base C) (Gstart_row : Kn P w K mg base 1 "start_row" ["game", "registers"] (spStart C))
    (G_law_is_row : Kn P w K mg base 2 "_law_is_row" ["told", "due"] spIsRow) : FnOk P w K mg base CX0 6 f fd ["cells", "registers"] spStartGood := by
  refine F.ok sc__law_start_good (fun vs H Q E h => ?_) (fun cdv A outer s H vs Q E hr h => ?_)
  · obtain ⟨a, n, cs, k, rfl, _⟩ := h
    rfl
  obtain ⟨a, n, cs, k, rfl, ea, hn, hc, hn1, hk1, hk2, q⟩ := h
  have hu := hr.units
  have nd := sc__law_start_good.nd
  refine ⟨_, pss_cons (ps_set (i := 2) nd rfl (.inr rfl) (pe_ix ix_list (pv 0) pe_int (fun _ _ => rfl)))
    (pss_cons (ps_set (i := 3) nd rfl (.inl rfl) (pe_slice sl_list (pv 0) (po_some pe_int) (po_some (pe_op op_add pe_int (pv 2)))))
    (pss_cons (ps_set (i := 4) nd rfl (.inl rfl) (pe_make GG.cm GG.ok (hr.mono (by decide)) (by rfl) T.mgC GG.b .nil pass0 (pa_cons (pe_lc (own := [("v", 8)]) (g := gName 8) (tt := tYes) rfl nd (pi_range1 rfl M.range (pa_cons (pv 2) pa_nil)) (blkOk_by (N := n__law_start_good) (sc := defScope s__law_start_good) (by decide +kernel)) (fun _ _ _ _ _ => pg_name (i := 8) nd rfl (Or.inl rfl)) (fun _ _ _ _ _ => pts_nil) (fun _ _ _ _ _ => pe_int)) (pa_cons (pe_callTy call_list_of (by rfl) M.list PyProof.Rows.boot_list (pa_cons (pv 3) pa_nil)) (pa_cons (pe_lc (own := [("v", 8)]) (g := gName 8) (tt := tYes) rfl nd (pi_range1 rfl M.range (pa_cons (pv 2) pa_nil)) (blkOk_by (N := n__law_start_good) (sc := defScope s__law_start_good) (by decide +kernel)) (fun _ _ _ _ _ => pg_name (i := 8) nd rfl (Or.inl rfl)) (fun _ _ _ _ _ => pts_nil) (fun _ _ _ _ _ => (pe_lst (pa_cons (pe_op op_mod (pe_callTy call_int1 (by rfl) M.int PyProof.Rows.boot_int (pa_cons (pe_op op_add (pv 8) pe_int) pa_nil)) (pv 2)) pa_nil)))) pa_nil)))))
    (pss_cons (ps_set (i := 5) nd rfl (.inr rfl) pe_int)
    (pss_cons (ps_for PassesOwn.never rfl (pi_list (pv 3)) (pg_name (i := 6) nd rfl (.inl rfl)) (pss_one (ps_if (pt_cmpR op_ge (pv 6) (pv 5) (nomark _)) (pss_one (ps_set (i := 5) nd rfl (.inr rfl) (pe_op op_sub (pe_op op_add (pv 6) pe_int) (pe_op op_mod (pe_callTy call_int1 (by rfl) M.int PyProof.Rows.boot_int (pa_cons (pv 6) pa_nil)) pe_int)))) pss_nil)))
    (pss_cons (ps_for PassesOwn.never rfl (pi_list (pe_lst (pa_cons (pv 1) (pa_cons (pe_op op_sub pe_int (pv 1)) (pa_cons (pv 1) (pa_cons (pv 1) pa_nil)))))) (pg_name (i := 7) nd rfl (.inl rfl)) (pss_one (ps_if (pt_not (pt_val (pe_call G_law_is_row.ok (hr.mono (by decide)) (by rfl) G_law_is_row.m G_law_is_row.kp G_law_is_row.b .nil pass0 (pa_cons (pe_call Gstart_row.ok (hr.mono (by decide)) (by rfl) Gstart_row.m Gstart_row.kp Gstart_row.b .nil pass0 (pa_cons (pv 4) (pa_cons (pv 7) pa_nil))) (pa_cons (pe_lc (own := [("k", 9)]) (g := gName 9) (tt := tYes) rfl nd (pi_range1 rfl M.range (pa_cons (pv 7) pa_nil)) (blkOk_by (N := n__law_start_good) (sc := defScope s__law_start_good) (by decide +kernel)) (fun _ _ _ _ _ => pg_name (i := 9) nd rfl (Or.inl rfl)) (fun _ _ _ _ _ => pts_nil) (fun _ _ _ _ _ => (pv 5))) pa_nil))))) (pss_one (ps_ret pe_bl)) pss_nil)))
    (pss_one (ps_ret pe_bl))))))), ?_⟩
  refine ⟨_, rfl, a, _, 0, .int (n : Int), rfl, rfl, SqL.of ea, (show atI (((n : Int) :: cs).map V.int) ((0 : Nat) : Int) = some (.int (n : Int)) from atI_nat rfl), ?_⟩
  refine ⟨_, rfl, _, rfl, _, rfl, _, _, rfl, rfl, _, rfl, a, _, rfl, SqL.of ea, fun pr hpr => ?_⟩
  have ecut : cutV (((n : Int) :: cs).map V.int) (some 1) (some (1 + (n : Int))) = (cs.take n).map V.int := by
    have e := cut_mid (((n : Int) :: cs).map V.int) 1 n (by rw [List.length_map, List.length_cons]; omega)
    rw [show (1 : Int) + (n : Int) = ((1 + n : Nat) : Int) by omega, show (some (1 : Int)) = some ((1 : Nat) : Int) from rfl, e, List.map_cons, List.map_take]
    rfl
  rw [ecut]
  have s1 := same_new hpr (.lst ((cs.take n).map V.int))
  have epr : upd H pr (.lst ((cs.take n).map V.int)) pr = some (.lst ((cs.take n).map V.int)) := upd_same
  show tSeq _ _ _ [some (.ref a), some (.int k), some (.int (n : Int)), some (.ref pr), Option.none, Option.none, Option.none, Option.none, Option.none, Option.none] (upd H pr (.lst ((cs.take n).map V.int)))
  generalize upd H pr (.lst ((cs.take n).map V.int)) = H1 at s1 epr ⊢
  have ln : (cs.take n).length = n := by rw [List.length_take, Nat.min_eq_left hn]
  refine ⟨_, rfl, (n : Int), rfl, by omega, by omega, fun D1 hD1 => ?_⟩
  refine lc_mapR (n := n) (fun _ => .int 0) (by omega) hD1 (fun i H' k' nn hi sm h => ⟨rfl, tYI h⟩) (fun H2 s2 eD1 => ?_)
  rw [const_range] at eD1
  refine ⟨_, rfl, pr, _, rfl, .inl (SqL.of (s2 _ _ epr)), fun l2 hl2 => ?_⟩
  have s3 := same_new hl2 (.lst ((cs.take n).map V.int))
  have el2 : upd H2 l2 (.lst ((cs.take n).map V.int)) l2 = some (.lst ((cs.take n).map V.int)) := upd_same
  have eD13 := s3 _ _ eD1
  have epr3 := s3 _ _ (s2 _ _ epr)
  have sm3 := (s1.trans s2).trans s3
  generalize upd H2 l2 (.lst ((cs.take n).map V.int)) = H3 at s3 el2 eD13 epr3 sm3 ⊢
  refine ⟨_, rfl, (n : Int), rfl, by omega, by omega, fun D2 hD2 => ?_⟩
  refine lc_newR (n := n) (fun i => .lst [.int ((0 + (i : Int) + 1) % (n : Int))]) (by omega) hD2 (fun i H' k' nn hi sm h => ⟨rfl, tYI ?_⟩) (fun H4 rs s4 eD2 pw => ?_)
  · refine ⟨_, rfl, _, _, rfl, rfl, .inl ⟨_, rfl, _, rfl, _, _, rfl, rfl, (by omega), le_line (n := 1) (by decide), fun p hp => h p _ (same_new hp _) hp upd_same⟩⟩
  have el24 := s4 _ _ el2
  have eD14 := s4 _ _ eD13
  have epr4 := s4 _ _ epr3
  have sm4 := sm3.trans s4
  intro x dx nx ndx nex
  have sx : Same H4 (upd (upd H4 dx (.own x)) x (.ins C dx [])) := fun b o e => by
    rw [upd_ne (ne_of_none e nx), upd_ne (ne_of_none e ndx)]
    exact e
  refine ⟨x, dx, D1, l2, D2, List.replicate n 0, cs.take n, rs, (List.range n).map fun i : Nat => [(0 + (i : Int) + 1) % (n : Int)], rfl, upd_same, ?_, sx _ _ el24, sx _ _ eD2, ?_, ?_, fun H5 a' b' c' ts m g kp => ⟨rfl, ?_⟩⟩
  · rw [rep_map]; exact sx _ _ eD14
  · refine pr_mapR pw fun r i z => sx _ _ ?_
    rw [z.2.2]
    rfl
  · refine ⟨by rw [ln, List.length_replicate], by rw [List.length_map, List.length_range, List.length_replicate], by rw [List.length_replicate]; omega, fun y hy => ?_, hc, fun y hy => ?_⟩
    · rw [List.eq_of_mem_replicate hy]; exact ⟨by decide, by decide⟩
    · obtain ⟨i, hi, rfl⟩ := List.mem_map.mp hy
      have hi' := List.mem_range.mp hi
      rw [List.length_replicate]
      refine ⟨List.pairwise_singleton _ _, fun z hz => ?_, (fun z => nomatch z), by show 1 ≤ 1000; decide⟩
      rw [List.mem_singleton.mp hz]
      exact ⟨Int.emod_nonneg _ (by omega), Int.emod_lt_of_pos _ (by omega)⟩
  have s45 : Same H4 H5 := fun b o e => kp b o (sx _ _ e) (ne_of_none e nx)
  have epr5 := s45 _ _ epr4
  have sm5 := sm4.trans s45
  refine ⟨_, rfl, pr, rfl, ⟨_, SqL.of epr5⟩, for_list (xs := (cs.take n).map V.int) (fun i σ H' => H' = H5 ∧ ∃ (c : Int) (y : Option V), Cg c ((cs.take n).take i) ∧ σ = [some (.ref a), some (.int k), some (.int (n : Int)), some (.ref pr), some (.ref x), some (.int c), y, Option.none, Option.none, Option.none]) ⟨rfl, 2, Option.none, ⟨rfl, by decide, fun x hx => (nomatch hx), .inl rfl⟩, rfl⟩ (fun i σ H' _ z => by rw [z.1]; exact SqL.of epr5) ?_ ?_⟩
  · rintro i v σ H' hx ⟨rfl, c, y, hcg, rfl⟩
    obtain ⟨z, hz, rfl⟩ := map_at hx
    have st := hcg.step z
    rw [← tk1 hz] at st
    refine ⟨_, rfl, _, rfl, _, _, rfl, rfl, _, rfl, ite2 (fun e => ?_) (fun e => ?_)⟩
    · have e' : c ≤ z := of_decide_eq_true e
      rw [if_pos e'] at st
      refine ⟨_, rfl, _, _, rfl, rfl, _, rfl, .inl ⟨_, rfl, _, _, rfl, rfl, (by show (0 : Int) < 2; decide), _, _, rfl, rfl, ?_⟩⟩
      exact ⟨rfl, _, _, st, rfl⟩
    · have e' : ¬ c ≤ z := of_decide_eq_false (Bool.eq_false_iff.mpr e)
      rw [if_neg e'] at st
      exact ⟨rfl, _, _, st, rfl⟩
  · rintro σ H5 ⟨rfl, c, y, hcg, rfl⟩
    rw [List.length_map, List.take_length] at hcg
    have ec : c = m + 2 - m % 2 := hcg.top g.top fun z hz => (hc z hz).1
    refine ⟨_, rfl, _, rfl, _, _, rfl, rfl, _, rfl, _, rfl, le_line (n := 4) (by decide), fun l hl => ?_⟩
    refine ⟨l, rfl, ⟨_, SqL.of upd_same⟩, for_list (xs := [.int k, .int (7 - k), .int k, .int k]) (fun i σ H' => Same H5 H' ∧ H' l = some (.lst [.int k, .int (7 - k), .int k, .int k]) ∧ ∃ y' : Option V, σ = [some (.ref a), some (.int k), some (.int (n : Int)), some (.ref pr), some (.ref x), some (.int c), y, y', Option.none, Option.none]) ⟨same_new hl _, upd_same, Option.none, rfl⟩ (fun i σ H' _ z => SqL.of z.2.1) ?_ ?_⟩
    · rintro i v σ H' hx ⟨sm, el, y', rfl⟩
      obtain ⟨z, rfl, hz1, hz2⟩ : ∃ z, v = .int z ∧ 1 ≤ z ∧ z ≤ 6 := by
        have hm := List.mem_of_getElem? hx
        simp only [List.mem_cons, List.not_mem_nil, or_false] at hm
        rcases hm with rfl | rfl | rfl | rfl
        · exact ⟨_, rfl, hk1, hk2⟩
        · exact ⟨_, rfl, by omega, by omega⟩
        · exact ⟨_, rfl, hk1, hk2⟩
        · exact ⟨_, rfl, hk1, hk2⟩
      refine ⟨_, rfl, _, rfl, x, z, _, _, _, dx, a', b', c', ts, m, rfl, g.same sm, hz1, by omega, fun t H6 s6 et => ?_⟩
      refine ⟨_, rfl, z, rfl, by omega, by omega, fun D hD => ?_⟩
      refine lc_mapR (n := z.toNat) (fun _ => .int c) (by omega) hD (fun i H' k' nn hi sm h => ⟨rfl, tYI ⟨_, rfl, h⟩⟩) (fun H7 s7 eD => ?_)
      rw [const_range, ← rep_map, ec] at eD
      refine ⟨t, D, _, rfl, s7 _ _ et, eD, (by rw [List.length_replicate]; omega), true, rfl, iteF ?_⟩
      exact ⟨(sm.trans s6).trans s7, s7 _ _ (s6 _ _ el), _, rfl⟩
    · rintro σ H' ⟨sm, el, y', rfl⟩
      exact q _ (sm5.trans sm)
end
end GM
set_option Elab.async false
set_option linter.all false
set_option maxRecDepth 100000
set_option maxHeartbeats 4000000
set_option pp.maxSteps 150
set_option pp.deepTerms false
namespace GM
open PySem PySem.Spec PyProof.Rows L2
theorem at_int {xs : List Int} {j : Int} (h0 : 0 ≤ j) (h1 : j < (xs.length : Nat)) : ∃ x, atI (xs.map V.int) j = some (.int x) ∧ x ∈ xs := by
  obtain ⟨n, rfl⟩ : ∃ n : Nat, j = (n : Int) := ⟨j.toNat, by omega⟩
  have hn : n < xs.length := by omega
  exact ⟨xs[n], atI_nat (at_map (List.getElem?_eq_getElem hn)), List.getElem_mem hn⟩
theorem ixNn {n j : Nat} (hj : j < n) : ixN n (j : Int) = some j := by
  unfold ixN
  rw [if_pos (by omega), if_pos (by omega), Int.toNat_natCast]
theorem Dg.all : ∀ {ds ss : List Int}, Dg ds ss → ∀ {m : Int}, (∀ s ∈ ss, s ≤ m) → ∀ d ∈ ds, 0 ≤ d ∧ d < m
  | [], [], _, _, _, d, h => nomatch h
  | d :: ds, s :: ss, h, m, k, e, he => by
    rcases List.mem_cons.mp he with rfl | he
    · have := k s List.mem_cons_self
      have h2 := h.1.2
      exact ⟨h.1.1, by omega⟩
    · exact Dg.all h.2 (fun s hs => k s (List.mem_cons_of_mem _ hs)) e he
  | [], _ :: _, h, _, _, _, _ => h.elim
  | _ :: _, [], h, _, _, _, _ => h.elim
def spLaw (K : PySem.W.Frag) : Sp := fun vs H Q _ => ∃ (a : Addr) (ns : List Int), vs = [.ref a] ∧ SqL K H a (ns.map V.int) ∧ ns.length ≤ 63 ∧ ∀ H', Q (.bl true) H'
section
variable {P : Program} {w : World} {K : PySem.W.Frag} {mg : Str → Option Value} {base : Heap} {C : Addr} (M : Blt mg)
include M
theorem ok_law {f : Addr} {fd : FuncData} (F : Fun K "law" "law" s_law f fd) (G_law_cell : Kn P w K mg base 1 "_law_cell" ["script", "k"] (spCell K)) (G_law_digits : Kn P w K mg base 1 "_law_digits" ["cell", "sizes"] (spDigits K))
    (Gsignal : Kn P w K mg base 1 "signal" ["which", "value"] spSignal) (G_law_is_signal : Kn P w K mg base 2 "_law_is_signal" ["told", "which", "value"] spIsSignal) (G_law_row_good : Kn P w K mg base 4 "_law_row_good" ["row", "priority"] spRowGood)
    (G_law_start_good : Kn P w K mg base 6 "_law_start_good" ["cells", "registers"] spStartGood) : FnOk P w K mg base CX0 7 f fd ["script"] (spLaw K) := by
  refine F.ok sc_law (fun vs H Q E h => ?_) (fun cdv A outer s H vs Q E hr h => ?_)
  · obtain ⟨a, ns, rfl, _⟩ := h
    rfl
  obtain ⟨a, ns, rfl, hS, hl, q⟩ := h
  have nd := sc_law.nd
  refine ⟨_, pss_cons (ps_set (i := 1) nd rfl (.inl rfl) (pe_call G_law_digits.ok (hr.mono (by decide)) (by rfl) G_law_digits.m G_law_digits.kp G_law_digits.b .nil pass0 (pa_cons (pe_call G_law_cell.ok (hr.mono (by decide)) (by rfl) G_law_cell.m G_law_cell.kp G_law_cell.b .nil pass0 (pa_cons (pv 0) (pa_cons pe_int pa_nil))) (pa_cons (pe_lst (pa_cons pe_int (pa_cons pe_int (pa_cons pe_int (pa_cons pe_int (pa_cons pe_int (pa_cons pe_int (pa_cons pe_int pa_nil)))))))) pa_nil))))
    (pss_cons (ps_set (i := 2) nd rfl (.inl rfl) (pe_op op_add pe_int (pe_ix ix_list (pv 1) pe_int (fun _ _ => rfl))))
    (pss_cons (ps_set (i := 3) nd rfl (.inr rfl) (pe_ix ix_list (pe_lst (pa_cons pe_int (pa_cons pe_int (pa_cons pe_int pa_nil)))) (pe_ix ix_list (pv 1) pe_int (fun _ _ => rfl)) (fun _ _ => rfl)))
    (pss_cons (ps_set (i := 4) nd rfl (.inl rfl) (pe_callB cr_sorted (by rfl) M.sorted (by decide +kernel) (pa_cons (pe_call G_law_digits.ok (hr.mono (by decide)) (by rfl) G_law_digits.m G_law_digits.kp G_law_digits.b .nil pass0 (pa_cons (pe_call G_law_cell.ok (hr.mono (by decide)) (by rfl) G_law_cell.m G_law_cell.kp G_law_cell.b .nil pass0 (pa_cons (pv 0) (pa_cons pe_int pa_nil))) (pa_cons (pe_lc (own := [("k", 11)]) (g := gName 11) (tt := tYes) rfl nd (pi_range1 rfl M.range (pa_cons (pv 2) pa_nil)) (blkOk_by (N := n_law) (sc := defScope s_law) (by decide +kernel)) (fun _ _ _ _ _ => pg_name (i := 11) nd rfl (Or.inl rfl)) (fun _ _ _ _ _ => pts_nil) (fun _ _ _ _ _ => (pv 3))) pa_nil))) pa_nil)))
    (pss_cons (ps_set (i := 5) nd rfl (.inl rfl) (pe_ix ix_list (pv 4) (pe_op op_mod (pe_callTy call_int1 (by rfl) M.int PyProof.Rows.boot_int (pa_cons (pe_ix ix_list (pv 1) pe_int (fun _ _ => rfl)) pa_nil)) (pv 2)) (fun _ _ => rfl)))
    (pss_cons (ps_set (i := 6) nd rfl (.inl rfl) (pe_callB (call_max2 rfl) (by rfl) M.max (by decide +kernel) (pa_cons pe_int (pa_cons (pe_callB (call_min2 rfl) (by rfl) M.min (by decide +kernel) (pa_cons pe_int (pa_cons (pe_ix ix_list (pe_lst (pa_cons (pe_ix ix_list (pv 1) pe_int (fun _ _ => rfl)) (pa_cons (pv 5) (pa_cons (pe_op op_add (pv 5) pe_int) (pa_cons (pe_op op_sub (pv 5) pe_int) pa_nil))))) (pe_ix ix_list (pv 1) pe_int (fun _ _ => rfl)) (fun _ _ => rfl)) pa_nil))) pa_nil))))
    (pss_cons (ps_set (i := 7) nd rfl (.inl rfl) (pe_call G_law_digits.ok (hr.mono (by decide)) (by rfl) G_law_digits.m G_law_digits.kp G_law_digits.b .nil pass0 (pa_cons (pe_call G_law_cell.ok (hr.mono (by decide)) (by rfl) G_law_cell.m G_law_cell.kp G_law_cell.b .nil pass0 (pa_cons (pv 0) (pa_cons pe_int pa_nil))) (pa_cons (pe_lst (pa_cons pe_int (pa_cons pe_int (pa_cons pe_int (pa_cons pe_int (pa_cons pe_int (pa_cons pe_int (pa_cons pe_int pa_nil)))))))) pa_nil))))
    (C8.pss_cut (ps_if (pt_cmpR op_eq (pe_ix ix_list (pv 1) pe_int (fun _ _ => rfl)) pe_int (nomark _)) (pss_cons (ps_set (i := 8) nd rfl (.inr rfl) (pe_call G_law_digits.ok (hr.mono (by decide)) (by rfl) G_law_digits.m G_law_digits.kp G_law_digits.b .nil pass0 (pa_cons (pe_call G_law_cell.ok (hr.mono (by decide)) (by rfl) G_law_cell.m G_law_cell.kp G_law_cell.b .nil pass0 (pa_cons (pv 0) (pa_cons pe_int pa_nil))) (pa_cons (pe_op op_cat (pe_lst (pa_cons pe_int (pa_cons pe_int (pa_cons pe_int pa_nil)))) (pe_lc (own := [("v", 12)]) (g := gName 12) (tt := tYes) rfl nd (pi_range1 rfl M.range (pa_cons pe_int pa_nil)) (blkOk_by (N := n_law) (sc := defScope s_law) (by decide +kernel)) (fun _ _ _ _ _ => pg_name (i := 12) nd rfl (Or.inl rfl)) (fun _ _ _ _ _ => pts_nil) (fun _ _ _ _ _ => pe_int))) pa_nil))))
      (pss_cons (ps_set (i := 7) nd rfl (.inl rfl) (pe_op op_cat (pe_lst (pa_cons (pe_op op_add pe_int (pe_ix ix_list (pv 8) pe_int (fun _ _ => rfl))) pa_nil)) (pe_lc (own := [("x", 13)]) (g := gName 13) (tt := tYes) rfl nd (pi_list (pe_slice sl_list (pv 8) (po_some pe_int) po_none)) (blkOk_by (N := n_law) (sc := defScope s_law) (by decide +kernel)) (fun _ _ _ _ _ => pg_name (i := 13) nd rfl (Or.inl rfl)) (fun _ _ _ _ _ => pts_nil) (fun _ _ _ _ _ => (pe_op op_mod (pe_callTy call_int1 (by rfl) M.int PyProof.Rows.boot_int (pa_cons (pv 13) pa_nil)) (pe_callB (call_max2 rfl) (by rfl) M.max (by decide +kernel) (pa_cons pe_int (pa_cons (pe_ix (show IxR _ (rIxL K) from ix_list) (pv 8) pe_int (fun _ _ => rfl)) pa_nil))))))))
      (pss_one (ps_asg (pe_ix ix_list (pv 8) pe_int (fun _ _ => rfl)) (pg_sub (pv 7) (pe_op op_add pe_int (pe_op op_mod (pe_callTy call_int1 (by rfl) M.int PyProof.Rows.boot_int (pa_cons (pe_ix ix_list (pv 8) pe_int (fun _ _ => rfl)) pa_nil)) (pe_ix ix_list (pv 7) pe_int (fun _ _ => rfl)))) set_list))))) pss_nil)
    (pss_cons (ps_for PassesOwn.never rfl (pi_range1 rfl M.range (pa_cons pe_int pa_nil)) (pg_name (i := 9) nd rfl (.inl rfl)) (pss_one (ps_for PassesOwn.never rfl (pi_list (pe_op op_cat (pe_lst (pa_cons pe_int (pa_cons pe_int (pa_cons (pv 6) pa_nil)))) (pv 4))) (pg_name (i := 10) nd rfl (.inl rfl)) (pss_one (ps_if (pt_not (pt_val (pe_call G_law_is_signal.ok (hr.mono (by decide)) (by rfl) G_law_is_signal.m G_law_is_signal.kp G_law_is_signal.b .nil pass0 (pa_cons (pe_call Gsignal.ok (hr.mono (by decide)) (by rfl) Gsignal.m Gsignal.kp Gsignal.b .nil pass0 (pa_cons (pv 9) (pa_cons (pv 10) pa_nil))) (pa_cons (pv 9) (pa_cons (pv 10) pa_nil)))))) (pss_one (ps_ret pe_bl)) pss_nil)))))
    (pss_cons (ps_if (PW.pt (pw_or (pt_not (pt_val (pe_call G_law_row_good.ok (hr.mono (by decide)) (by rfl) G_law_row_good.m G_law_row_good.kp G_law_row_good.b .nil pass0 (pa_cons (pv 4) (pa_cons (pv 6) pa_nil))))) (pw_or1 (pt_not (pt_val (pe_call G_law_start_good.ok (hr.mono (by decide)) (by rfl) G_law_start_good.m G_law_start_good.kp G_law_start_good.b .nil pass0 (pa_cons (pv 7) (pa_cons (pe_op op_add pe_int (pe_ix ix_list (pv 1) pe_int (fun _ _ => rfl))) pa_nil)))))))) (pss_one (ps_ret pe_bl)) pss_nil)
    (pss_one (ps_ret (pe_and (pe_call G_law_row_good.ok (hr.mono (by decide)) (by rfl) G_law_row_good.m G_law_row_good.kp G_law_row_good.b .nil pass0 (pa_cons (pv 4) (pa_cons (pv 6) pa_nil))) (pe_one (pe_call G_law_start_good.ok (hr.mono (by decide)) (by rfl) G_law_start_good.m G_law_start_good.kp G_law_start_good.b .nil pass0 (pa_cons (pv 7) (pa_cons (pv 2) pa_nil)))))))))))))))), ?_⟩
  refine ⟨_, rfl, a, ns, 0, rfl, hS, hl, by decide, fun z0 => ⟨le_line (n := 7) (by decide), fun l0 hl0 => ⟨z0, l0, [6, 3, 41, 6, 4, 6, 12], rfl, SqL.of upd_same, by decide, by decide, fun p0 ds0 H1 s1 hp0 ep0 hd0 => ?_⟩⟩⟩
  have sm1 : Same H H1 := (same_new hl0 _).trans s1
  obtain ⟨d0, r0, rfl, b0, hd0⟩ := hd0.cons
  obtain ⟨d1, r1, rfl, b1, hd0⟩ := hd0.cons
  obtain ⟨d2, r2, rfl, b2, hd0⟩ := hd0.cons
  obtain ⟨d3, r3, rfl, b3, hd0⟩ := hd0.cons
  obtain ⟨d4, r4, rfl, b4, hd0⟩ := hd0.cons
  obtain ⟨d5, r5, rfl, b5, hd0⟩ := hd0.cons
  obtain ⟨d6, r6, rfl, b6, hd0⟩ := hd0.cons
  cases hd0.nil
  refine ⟨_, rfl, p0, _, 0, .int d0, rfl, rfl, SqL.of ep0, rfl, _, _, rfl, rfl, ?_⟩
  obtain ⟨wd, ewd, w1, w2⟩ : ∃ wd : Int, atI [V.int 41, V.int 41, V.int 4] d1 = some (.int wd) ∧ 0 < wd ∧ wd ≤ 41 := by
    rcases (show d1 = 0 ∨ d1 = 1 ∨ d1 = 2 by omega) with rfl | rfl | rfl <;> exact ⟨_, rfl, by decide, by decide⟩
  refine ⟨le_line (n := 3) (by decide), fun l1 hl1 => ⟨_, rfl, p0, _, 1, .int d1, rfl, rfl, SqL.of (same_new hl1 _ _ _ ep0), rfl, l1, _, d1, _, rfl, rfl, SqL.of upd_same, ewd, ?_⟩⟩
  have s2 := same_new hl1 (.lst [V.int 41, V.int 41, V.int 4])
  have sm2 := sm1.trans s2
  have ep02 := s2 _ _ ep0
  show tSeq _ _ _ [some (.ref a), some (.ref p0), some (.int (1 + d0)), some (.int wd), Option.none, Option.none, Option.none, Option.none, Option.none, Option.none, Option.none, Option.none, Option.none, Option.none] (upd H1 l1 (.lst [V.int 41, V.int 41, V.int 4]))
  generalize upd H1 l1 (.lst [V.int 41, V.int 41, V.int 4]) = H2 at s2 sm2 ep02 ⊢
  refine ⟨_, rfl, a, ns, 1, rfl, sm2.seq hS, hl, by decide, fun z1 => ⟨_, rfl, 1 + d0, rfl, by omega, by omega, fun D1 hD1 => ?_⟩⟩
  refine lc_mapR (n := (1 + d0).toNat) (fun _ => .int wd) (by omega) hD1 (fun i H' k' nn hi sm h => ⟨rfl, tYI ⟨_, rfl, h⟩⟩) (fun H3 s3 eD1 => ?_)
  rw [const_range, ← rep_map] at eD1
  have hN : (1 + d0).toNat ≤ 6 := by omega
  refine ⟨z1, D1, List.replicate (1 + d0).toNat wd, rfl, SqL.of eD1, by rw [List.length_replicate]; omega, fun s hs => by rw [List.eq_of_mem_replicate hs]; omega, fun p1 ds1 H4 s4 hp1 ep1 hd1 => ?_⟩
  have ln1 : ds1.length = (1 + d0).toNat := by rw [hd1.len, List.length_replicate]
  refine ⟨p1, ds1, rfl, SqL.of ep1, by omega, fun row p2 hperm _ hp2 => ?_⟩
  have lnr : row.length = (1 + d0).toNat := by rw [hperm.length_eq, ln1]
  have s5 := same_new hp2 (.lst (row.map V.int))
  have er : upd H4 p2 (.lst (row.map V.int)) p2 = some (.lst (row.map V.int)) := upd_same
  have sm5 : Same H (upd H4 p2 (.lst (row.map V.int))) := ((sm2.trans s3).trans s4).trans s5
  have ep05 := s5 _ _ (s4 _ _ (s3 _ _ ep02))
  show tSeq _ _ _ [some (.ref a), some (.ref p0), some (.int (1 + d0)), some (.int wd), some (.ref p2), Option.none, Option.none, Option.none, Option.none, Option.none, Option.none, Option.none, Option.none, Option.none] (upd H4 p2 (.lst (row.map V.int)))
  generalize upd H4 p2 (.lst (row.map V.int)) = H5 at s5 er sm5 ep05 ⊢
  obtain ⟨near, enear, _⟩ := at_int (xs := row) (j := d3 % (1 + d0)) (Int.emod_nonneg _ (by omega)) (by have := Int.emod_lt_of_pos d3 (show 0 < 1 + d0 by omega); omega)
  refine ⟨_, rfl, _, rfl, p0, _, 3, .int d3, rfl, rfl, SqL.of ep05, rfl, .inl ⟨_, rfl, _, rfl, _, _, rfl, rfl, (by omega), p2, _, _, _, rfl, rfl, SqL.of er, enear, ?_⟩⟩
  obtain ⟨x4, ex4⟩ : ∃ x4 : Int, atI [V.int d2, V.int near, V.int (near + 1), V.int (near - 1)] d4 = some (.int x4) := by
    rcases (show d4 = 0 ∨ d4 = 1 ∨ d4 = 2 ∨ d4 = 3 by omega) with rfl | rfl | rfl | rfl <;> exact ⟨_, rfl⟩
  refine ⟨_, rfl, p0, _, 2, .int d2, rfl, rfl, SqL.of ep05, rfl, _, rfl, _, rfl, _, _, rfl, rfl, _, rfl, _, _, rfl, rfl, le_line (n := 4) (by decide), fun l2 hl2 => ⟨_, rfl, p0, _, 4, .int d4, rfl, rfl, SqL.of (same_new hl2 _ _ _ ep05), rfl, l2, _, d4, _, rfl, rfl, SqL.of upd_same, ex4, _, _, rfl, _, _, rfl, ?_⟩⟩
  have s6 := same_new hl2 (.lst [V.int d2, V.int near, V.int (near + 1), V.int (near - 1)])
  have sm6 := sm5.trans s6
  have ep06 := s6 _ _ ep05
  have er6 := s6 _ _ er
  show tSeq _ _ _ [some (.ref a), some (.ref p0), some (.int (1 + d0)), some (.int wd), some (.ref p2), some (.int near), some (.int (if (if x4 < 40 then x4 else 40) > 0 then (if x4 < 40 then x4 else 40) else 0)), Option.none, Option.none, Option.none, Option.none, Option.none, Option.none, Option.none] (upd H5 l2 (.lst [V.int d2, V.int near, V.int (near + 1), V.int (near - 1)]))
  generalize (if (if x4 < 40 then x4 else 40) > 0 then (if x4 < 40 then x4 else 40) else 0) = pr
  generalize upd H5 l2 (.lst [V.int d2, V.int near, V.int (near + 1), V.int (near - 1)]) = H6 at s6 sm6 ep06 er6 ⊢
  refine ⟨_, rfl, a, ns, 2, rfl, sm6.seq hS, hl, by decide, fun z2 => ⟨le_line (n := 7) (by decide), fun l3 hl3 => ⟨z2, l3, [7, 31, 31, 31, 31, 31, 31], rfl, SqL.of upd_same, by decide, by decide, fun p3 ds3 H7 s7 hp3 ep3 hd3 => ?_⟩⟩⟩
  have s67 := (same_new hl3 (.lst [V.int 7, V.int 31, V.int 31, V.int 31, V.int 31, V.int 31, V.int 31])).trans s7
  have sm7 := sm6.trans s67
  have ep07 := s67 _ _ ep06
  have er7 := s67 _ _ er6
  obtain ⟨c0, t0, rfl, e0, hd3⟩ := hd3.cons
  have lt0 : t0.length = 6 := hd3.len
  have at0 := hd3.all (m := 31) (by decide)
  refine ⟨fun σ H' => Same H H' ∧ H' p0 = some (.lst ([d0, d1, d2, d3, d4, d5, d6].map V.int)) ∧ H' p2 = some (.lst (row.map V.int)) ∧ ∃ (qq : Addr) (n : Nat) (cs : List Int) (y : Option V), H' qq = some (.lst (((n : Int) :: cs).map V.int)) ∧ n ≤ cs.length ∧ (∀ x ∈ cs.take n, 0 ≤ x ∧ x ≤ 30) ∧ n ≤ 100 ∧
    σ = [some (.ref a), some (.ref p0), some (.int (1 + d0)), some (.int wd), some (.ref p2), some (.int near), some (.int pr), some (.ref qq), y, Option.none, Option.none, Option.none, Option.none, Option.none], ?_, ?_⟩
  · refine ⟨_, rfl, p0, _, 6, .int d6, rfl, rfl, SqL.of ep07, rfl, rfl, _, rfl, ite2 (fun _ => ?_) (fun _ => ?_)⟩
    · refine ⟨_, rfl, a, ns, 3, rfl, sm7.seq hS, hl, by decide, fun z3 => ⟨le_line (n := 3) (by decide), fun l4 hl4 => ⟨40, rfl, by decide, by decide, fun D2 hD2 => ?_⟩⟩⟩
      refine lc_mapR (n := 40) (fun _ => .int 31) (by decide) hD2 (fun i H' k' nn hi sm h => ⟨rfl, tYI h⟩) (fun H8 s8 eD2 => ?_)
      rw [const_range] at eD2
      refine ⟨l4, D2, _, _, rfl, rfl, s8 _ _ upd_same, eD2, le_line (by show 3 + (List.replicate 40 (V.int 31)).length ≤ 1000; rw [List.length_replicate]; decide), fun p4 hp4 => ?_⟩
      refine ⟨z3, p4, [2, 40, 31] ++ List.replicate 40 31, rfl, SqL.of (by rw [upd_same]; rfl), by decide, by decide, fun p5 ds5 H9 s9 hp5 ep5 hd5 => ?_⟩
      have s79 : Same H7 H9 := ((same_new hl4 _).trans s8).trans ((same_new hp4 _).trans s9)
      have sm9 := sm7.trans s79
      have ep09 := s79 _ _ ep07
      have er9 := s79 _ _ er7
      obtain ⟨m0, u0, rfl, g0, hd5⟩ := hd5.cons
      obtain ⟨m1, u1, rfl, g1, hd5⟩ := hd5.cons
      obtain ⟨m2, rest, rfl, g2, hd5⟩ := hd5.cons
      have lr : rest.length = 40 := by rw [Dg.len hd5]; rfl
      have at5 : ∀ {j : Nat} {z : Int}, (m0 :: m1 :: m2 :: rest)[j]? = some z → atI ((m0 :: m1 :: m2 :: rest).map V.int) (j : Int) = some (.int z) := fun e => atI_nat (at_map e)
      refine ⟨_, rfl, p5, _, 0, .int m0, rfl, rfl, SqL.of ep5, at5 (j := 0) rfl, _, _, rfl, rfl, le_line (n := 1) (by decide), fun l6 hl6 => ?_⟩
      have s10 := same_new hl6 (.lst [V.int (39 + m0)])
      have e6 : upd H9 l6 (.lst [V.int (39 + m0)]) l6 = some (.lst [V.int (39 + m0)]) := upd_same
      have ep510 := s10 _ _ ep5
      generalize upd H9 l6 (.lst [V.int (39 + m0)]) = H10 at s10 e6 ep510 ⊢
      refine ⟨_, rfl, _, rfl, ?_⟩
      unfold tNoPart
      refine ⟨p5, _, rfl, SqL.of ep510, fun sl hsl => ?_⟩
      have ecut : cutV ((m0 :: m1 :: m2 :: rest).map V.int) (some 3) none = rest.map V.int := cut_lo ((m0 :: m1 :: m2 :: rest).map V.int) 3
      rw [ecut]
      have s11 := same_new hsl (.lst (rest.map V.int))
      have esl : upd H10 sl (.lst (rest.map V.int)) sl = some (.lst (rest.map V.int)) := upd_same
      generalize upd H10 sl (.lst (rest.map V.int)) = H11 at s11 esl ⊢
      refine ⟨sl, rfl, ⟨_, SqL.of esl⟩, fun D3 hD3 => ?_⟩
      refine lc_mapL (fun _ x => .int ((match x with | .int z => z | _ => 0) % (if m2 > 1 then m2 else 1))) (by rw [List.length_map]; omega) (SqL.of esl) hD3 (fun i x H' k' nn hx sm h => ?_) (fun H12 s12 eD3 => ?_)
      · obtain ⟨z, hz, rfl⟩ := map_at hx
        refine ⟨rfl, tYI ⟨_, rfl, .inl ⟨_, rfl, _, rfl, p5, _, 2, .int m2, rfl, rfl, SqL.of (sm _ _ (s11 _ _ ep510)), at5 (j := 2) rfl, _, _, rfl, _, _, rfl, rfl, ?_, h⟩⟩⟩
        show (0 : Int) < if m2 > 1 then m2 else 1
        split <;> omega
      have eD3' : H12 D3 = some (.lst ((rest.map fun z => z % (if m2 > 1 then m2 else 1)).map V.int)) := by
        rw [eD3]
        congr 2
        rw [List.map_map]
        apply List.ext_getElem?
        intro j
        rw [List.getElem?_mapIdx, List.getElem?_map, List.getElem?_map]
        cases rest[j]? <;> rfl
      refine ⟨l6, D3, _, _, rfl, rfl, s12 _ _ (s11 _ _ e6), eD3', le_line (by rw [List.length_map, List.length_map]; show 1 + rest.length ≤ 1000; omega), fun p6 hp6 => ?_⟩
      have s13 := same_new hp6 (.lst ([V.int (39 + m0)] ++ (rest.map fun z => z % (if m2 > 1 then m2 else 1)).map V.int))
      have e7 : upd H12 p6 (.lst ([V.int (39 + m0)] ++ (rest.map fun z => z % (if m2 > 1 then m2 else 1)).map V.int)) p6 = some (.lst (((39 + m0) :: rest.map fun z => z % (if m2 > 1 then m2 else 1)).map V.int)) := upd_same
      have s9d := (((s10.trans s11).trans s12).trans s13)
      have hp6' : H9 p6 = none := ((s10.trans s11).trans s12).free hp6
      show tSeq _ _ _ [some (.ref a), some (.ref p0), some (.int (1 + d0)), some (.int wd), some (.ref p2), some (.int near), some (.int pr), some (.ref p6), some (.ref p5), Option.none, Option.none, Option.none, Option.none, Option.none] (upd H12 p6 (.lst ([V.int (39 + m0)] ++ (rest.map fun z => z % (if m2 > 1 then m2 else 1)).map V.int)))
      generalize upd H12 p6 (.lst ([V.int (39 + m0)] ++ (rest.map fun z => z % (if m2 > 1 then m2 else 1)).map V.int)) = H13 at s13 e7 s9d ⊢
      have ep513 := s9d _ _ ep5
      have hj0 := Int.emod_nonneg m1 (show 39 + m0 ≠ 0 by omega)
      have hj1 := Int.emod_lt_of_pos m1 (show 0 < 39 + m0 by omega)
      obtain ⟨j, hj⟩ : ∃ j : Nat, m1 % (39 + m0) = (j : Int) := ⟨(m1 % (39 + m0)).toNat, by omega⟩
      refine ⟨_, rfl, p5, _, 2, .int m2, rfl, rfl, SqL.of ep513, at5 (j := 2) rfl, _, rfl, _, rfl, p5, _, 1, .int m1, rfl, rfl, SqL.of ep513, at5 (j := 1) rfl, .inl ⟨_, rfl, _, rfl, p6, _, 0, .int (39 + m0), rfl, rfl, SqL.of e7, atI_nat (j := 0) rfl, _, _, rfl, rfl, (by omega), _, _, rfl, rfl, p6, _, _, j + 1, rfl, rfl, e7, ?_, ?_⟩⟩
      · have e : (1 + m1 % (39 + m0) : Int) = ((j + 1 : Nat) : Int) := by omega
        rw [e]
        exact ixNn (by rw [List.length_map, List.length_cons, List.length_map]; omega)
      · refine ⟨sm9.trans (same_upd s9d hp6' _), same_upd s9d hp6' _ _ _ ep09, same_upd s9d hp6' _ _ _ er9, p6, (39 + m0).toNat, (rest.map fun z => z % (if m2 > 1 then m2 else 1)).set j m2, _, ?_, ?_, fun x hx => ?_, by omega, rfl⟩
        · rw [upd_same, show (((39 + m0).toNat : Nat) : Int) = 39 + m0 by omega, ← List.map_set]
          rfl
        · rw [List.length_set, List.length_map]; omega
        · have hx' := List.mem_of_mem_take hx
          rcases List.mem_or_eq_of_mem_set hx' with hx' | hx'
          · obtain ⟨z, _, rfl⟩ := List.mem_map.mp hx'
            have q0 := Int.emod_nonneg z (show (if m2 > 1 then m2 else 1) ≠ 0 by split <;> omega)
            have q1 := Int.emod_lt_of_pos z (show 0 < (if m2 > 1 then m2 else 1) by split <;> omega)
            have q2 : (if m2 > 1 then m2 else 1) ≤ 30 := by split <;> omega
            omega
          · omega
    · have e : ((c0.toNat : Nat) : Int) = c0 := by omega
      refine ⟨sm7, ep07, er7, p3, c0.toNat, t0, Option.none, by rw [e]; exact ep3, by omega, fun x hx => ?_, by omega, rfl⟩
      have := at0 x (List.mem_of_mem_take hx)
      omega
  · rintro σ H8 ⟨sm8, ep08, er8, qq, n, cs, y, eq8, hn1, hn2, hn3, rfl⟩
    refine ⟨7, rfl, by decide, by decide, for_range (n := 7) (fun i σ H' => Same H8 H' ∧ ∃ y1 y2 : Option V, σ = [some (.ref a), some (.ref p0), some (.int (1 + d0)), some (.int wd), some (.ref p2), some (.int near), some (.int pr), some (.ref qq), y, y1, y2, Option.none, Option.none, Option.none]) ⟨.refl _, Option.none, Option.none, rfl⟩ ?_ ?_⟩
    · rintro i σ H9 hi ⟨sm9, y1, y2, rfl⟩
      refine ⟨_, rfl, le_line (n := 3) (by decide), fun l5 hl5 => ⟨_, rfl, l5, p2, _, _, rfl, rfl, upd_same, same_new hl5 _ _ _ (sm9 _ _ er8), le_line (by rw [List.length_map]; show 3 + row.length ≤ 1000; omega), fun p5 hp5 => ?_⟩⟩
      have s9 := (same_new hl5 (.lst [V.int 0, V.int 1, V.int pr])).trans (same_new hp5 (.lst ([V.int 0, V.int 1, V.int pr] ++ row.map V.int)))
      have e5 : upd (upd H9 l5 (.lst [V.int 0, V.int 1, V.int pr])) p5 (.lst ([V.int 0, V.int 1, V.int pr] ++ row.map V.int)) p5 = some (.lst ((0 :: 1 :: pr :: row).map V.int)) := upd_same
      generalize upd (upd H9 l5 (.lst [V.int 0, V.int 1, V.int pr])) p5 (.lst ([V.int 0, V.int 1, V.int pr] ++ row.map V.int)) = H10 at s9 e5 ⊢
      refine ⟨p5, rfl, ⟨_, SqL.of e5⟩, for_list (xs := (0 :: 1 :: pr :: row).map V.int) (fun j σ H' => H' = H10 ∧ ∃ y2 : Option V, σ = [some (.ref a), some (.ref p0), some (.int (1 + d0)), some (.int wd), some (.ref p2), some (.int near), some (.int pr), some (.ref qq), y, some (.int (0 + (i : Int))), y2, Option.none, Option.none, Option.none]) ⟨rfl, _, rfl⟩ (fun j σ H' _ z => by rw [z.1]; exact SqL.of e5) ?_ ?_⟩
      · rintro j x σ H' hx ⟨rfl, y3, rfl⟩
        obtain ⟨v, hv, rfl⟩ := map_at hx
        refine ⟨_, rfl, _, rfl, 0 + (i : Int), v, rfl, by omega, by omega, _, rfl, _, rfl, 0 + (i : Int), v, rfl, by omega, by omega, true, rfl, iteF ?_⟩
        exact ⟨rfl, _, rfl⟩
      · rintro σ H' ⟨rfl, y3, rfl⟩
        exact ⟨sm9.trans s9, _, _, rfl⟩
    · rintro σ H9 ⟨sm9, y1, y2, rfl⟩
      refine ⟨_, rfl, _, rfl, p2, row, pr, rfl, sm9 _ _ er8, by omega, fun H10 s10 => ⟨true, rfl, iteF ?_⟩⟩
      refine ⟨_, rfl, _, rfl, p0, _, 5, .int d5, rfl, rfl, SqL.of (s10 _ _ (sm9 _ _ ep08)), rfl, _, _, rfl, rfl, qq, n, cs, 1 + d5, rfl, s10 _ _ (sm9 _ _ eq8), hn1, hn2, hn3, by omega, by omega, fun H11 s11 => ⟨true, rfl, iteF ?_⟩⟩
      refine ⟨_, rfl, _, rfl, p2, row, pr, rfl, s11 _ _ (s10 _ _ (sm9 _ _ er8)), by omega, fun H12 s12 => ⟨true, rfl, iteT ?_⟩⟩
      exact ⟨_, rfl, _, rfl, qq, n, cs, 1 + d0, rfl, s12 _ _ (s11 _ _ (s10 _ _ (sm9 _ _ eq8))), hn1, hn2, hn3, by omega, by omega, fun H13 _ => q H13⟩
end
end GM
set_option Elab.async false
set_option linter.all false
set_option maxRecDepth 100000
set_option maxHeartbeats 4000000
namespace GM
open PySem PySem.Spec PyProof.Rows L2
/-! ### what the top has left -/
theorem all_mk {l : PySem.W.OpenLaw} {w : World} {K : PySem.W.Frag} {h : Heap} {mg : Str → Option Value} {fa : Addr} (X : K.In h) (G : h.Ns mainGlobals mg) (hfa : mg "law" = some (.ref fa))
    {C_Game : Addr}
    {tk_GREATEST_PRIORITY : Tok}
    {f1 f2 f3 f4 f5 f6 f7 f8 f9 f10 f11 f12 f13 f14 f15 f16 f17 f18 : Addr}
    {od1 an1 od2 an2 od3 an3 od4 an4 od5 an5 od6 an6 od7 an7 od8 an8 od9 an9 od10 an10 od11 an11 od12 an12 od13 an13 od14 an14 od15 an15 od16 an16 od17 an17 od18 an18 : Option Addr} {sl1 sl2 sl3 sl4 sl5 sl6 sl7 sl8 sl9 sl10 sl11 sl12 sl13 sl14 sl15 sl16 sl17 sl18 : Array (Option Value)}
    {oc1 dc1 pm1 cd1 ct1 kV1 oc2 dc2 pm2 cd2 ct2 kV2 oc3 dc3 pm3 cd3 ct3 kV3 oc4 dc4 pm4 cd4 ct4 kV4 oc5 dc5 pm5 cd5 ct5 kV5 oc6 dc6 pm6 cd6 ct6 kV6 oc7 dc7 pm7 cd7 ct7 kV7 oc8 dc8 pm8 cd8 ct8 kV8 oc9 dc9 pm9 cd9 ct9 kV9 oc10 dc10 pm10 cd10 ct10 kV10 oc11 dc11 pm11 cd11 ct11 kV11 oc12 dc12 pm12 cd12 ct12 kV12 oc13 dc13 pm13 cd13 ct13 kV13 oc14 dc14 pm14 cd14 ct14 kV14 oc15 dc15 pm15 cd15 ct15 kV15 oc16 dc16 pm16 cd16 ct16 kV16 oc17 dc17 pm17 cd17 ct17 kV17 oc18 dc18 pm18 cd18 ct18 kV18 : Value}
    (a1 : PySem.W.nsIn K mainGlobals "start_row" = some (some (.ref f1)))
    (l1 : K.lookup f1 = some ⟨oc1, od1, .func (PySem.W.fnOf "start_row" "start_row" (defArgs s_start_row) (defBody s_start_row) (defScope s_start_row) .none kV1 dc1 pm1 an1 cd1 ct1), sl1⟩)
    (c1 : PySem.W.codeIn K cd1 "start_row" = true) (k1 : PySem.W.keepIn K (.ref f1) = true)
    (a2 : PySem.W.nsIn K mainGlobals "raised" = some (some (.ref f2)))
    (l2 : K.lookup f2 = some ⟨oc2, od2, .func (PySem.W.fnOf "raised" "raised" (defArgs s_raised) (defBody s_raised) (defScope s_raised) .none kV2 dc2 pm2 an2 cd2 ct2), sl2⟩)
    (c2 : PySem.W.codeIn K cd2 "raised" = true) (k2 : PySem.W.keepIn K (.ref f2) = true)
    (a3 : PySem.W.nsIn K mainGlobals "emptied" = some (some (.ref f3)))
    (l3 : K.lookup f3 = some ⟨oc3, od3, .func (PySem.W.fnOf "emptied" "emptied" (defArgs s_emptied) (defBody s_emptied) (defScope s_emptied) .none kV3 dc3 pm3 an3 cd3 ct3), sl3⟩)
    (c3 : PySem.W.codeIn K cd3 "emptied" = true) (k3 : PySem.W.keepIn K (.ref f3) = true)
    (a4 : PySem.W.nsIn K mainGlobals "signal" = some (some (.ref f4)))
    (l4 : K.lookup f4 = some ⟨oc4, od4, .func (PySem.W.fnOf "signal" "signal" (defArgs s_signal) (defBody s_signal) (defScope s_signal) .none kV4 dc4 pm4 an4 cd4 ct4), sl4⟩)
    (c4 : PySem.W.codeIn K cd4 "signal" = true) (k4 : PySem.W.keepIn K (.ref f4) = true)
    (a5 : PySem.W.nsIn K mainGlobals "as_tuples" = some (some (.ref f5)))
    (l5 : K.lookup f5 = some ⟨oc5, od5, .func (PySem.W.fnOf "as_tuples" "as_tuples" (defArgs s_as_tuples) (defBody s_as_tuples) (defScope s_as_tuples) .none kV5 dc5 pm5 an5 cd5 ct5), sl5⟩)
    (c5 : PySem.W.codeIn K cd5 "as_tuples" = true) (k5 : PySem.W.keepIn K (.ref f5) = true)
    (a6 : PySem.W.nsIn K mainGlobals "is_whole" = some (some (.ref f6)))
    (l6 : K.lookup f6 = some ⟨oc6, od6, .func (PySem.W.fnOf "is_whole" "is_whole" (defArgs s_is_whole) (defBody s_is_whole) (defScope s_is_whole) .none kV6 dc6 pm6 an6 cd6 ct6), sl6⟩)
    (c6 : PySem.W.codeIn K cd6 "is_whole" = true) (k6 : PySem.W.keepIn K (.ref f6) = true)
    (a7 : PySem.W.findIn K (.ref C_Game) "__init__" = some (some (.ref f7))) (i7 : PySem.W.isFn K (.ref f7) = true)
    (l7 : K.lookup f7 = some ⟨oc7, od7, .func (PySem.W.fnOf "__init__" "Game.__init__" (defArgs s_Game___init__) (defBody s_Game___init__) (defScope s_Game___init__) .none kV7 dc7 pm7 an7 cd7 ct7), sl7⟩)
    (c7 : PySem.W.codeIn K cd7 "Game.__init__" = true) (k7 : PySem.W.keepIn K (.ref f7) = true)
    (a8 : PySem.W.nsIn K mainGlobals "is_number_to" = some (some (.ref f8)))
    (l8 : K.lookup f8 = some ⟨oc8, od8, .func (PySem.W.fnOf "is_number_to" "is_number_to" (defArgs s_is_number_to) (defBody s_is_number_to) (defScope s_is_number_to) .none kV8 dc8 pm8 an8 cd8 ct8), sl8⟩)
    (c8 : PySem.W.codeIn K cd8 "is_number_to" = true) (k8 : PySem.W.keepIn K (.ref f8) = true)
    (a9 : PySem.W.nsIn K mainGlobals "are_successors" = some (some (.ref f9)))
    (l9 : K.lookup f9 = some ⟨oc9, od9, .func (PySem.W.fnOf "are_successors" "are_successors" (defArgs s_are_successors) (defBody s_are_successors) (defScope s_are_successors) .none kV9 dc9 pm9 an9 cd9 ct9), sl9⟩)
    (c9 : PySem.W.codeIn K cd9 "are_successors" = true) (k9 : PySem.W.keepIn K (.ref f9) = true)
    (a10 : PySem.W.nsIn K mainGlobals "_law_whole" = some (some (.ref f10)))
    (l10 : K.lookup f10 = some ⟨oc10, od10, .func (PySem.W.fnOf "_law_whole" "_law_whole" (defArgs s__law_whole) (defBody s__law_whole) (defScope s__law_whole) .none kV10 dc10 pm10 an10 cd10 ct10), sl10⟩)
    (c10 : PySem.W.codeIn K cd10 "_law_whole" = true) (k10 : PySem.W.keepIn K (.ref f10) = true)
    (a11 : PySem.W.nsIn K mainGlobals "_law_cell" = some (some (.ref f11)))
    (l11 : K.lookup f11 = some ⟨oc11, od11, .func (PySem.W.fnOf "_law_cell" "_law_cell" (defArgs s__law_cell) (defBody s__law_cell) (defScope s__law_cell) .none kV11 dc11 pm11 an11 cd11 ct11), sl11⟩)
    (c11 : PySem.W.codeIn K cd11 "_law_cell" = true) (k11 : PySem.W.keepIn K (.ref f11) = true)
    (a12 : PySem.W.nsIn K mainGlobals "_law_digits" = some (some (.ref f12)))
    (l12 : K.lookup f12 = some ⟨oc12, od12, .func (PySem.W.fnOf "_law_digits" "_law_digits" (defArgs s__law_digits) (defBody s__law_digits) (defScope s__law_digits) .none kV12 dc12 pm12 an12 cd12 ct12), sl12⟩)
    (c12 : PySem.W.codeIn K cd12 "_law_digits" = true) (k12 : PySem.W.keepIn K (.ref f12) = true)
    (a13 : PySem.W.nsIn K mainGlobals "_law_is_row" = some (some (.ref f13)))
    (l13 : K.lookup f13 = some ⟨oc13, od13, .func (PySem.W.fnOf "_law_is_row" "_law_is_row" (defArgs s__law_is_row) (defBody s__law_is_row) (defScope s__law_is_row) .none kV13 dc13 pm13 an13 cd13 ct13), sl13⟩)
    (c13 : PySem.W.codeIn K cd13 "_law_is_row" = true) (k13 : PySem.W.keepIn K (.ref f13) = true)
    (a14 : PySem.W.nsIn K mainGlobals "_law_is_emptied" = some (some (.ref f14)))
    (l14 : K.lookup f14 = some ⟨oc14, od14, .func (PySem.W.fnOf "_law_is_emptied" "_law_is_emptied" (defArgs s__law_is_emptied) (defBody s__law_is_emptied) (defScope s__law_is_emptied) .none kV14 dc14 pm14 an14 cd14 ct14), sl14⟩)
    (c14 : PySem.W.codeIn K cd14 "_law_is_emptied" = true) (k14 : PySem.W.keepIn K (.ref f14) = true)
    (a15 : PySem.W.nsIn K mainGlobals "_law_is_signal" = some (some (.ref f15)))
    (l15 : K.lookup f15 = some ⟨oc15, od15, .func (PySem.W.fnOf "_law_is_signal" "_law_is_signal" (defArgs s__law_is_signal) (defBody s__law_is_signal) (defScope s__law_is_signal) .none kV15 dc15 pm15 an15 cd15 ct15), sl15⟩)
    (c15 : PySem.W.codeIn K cd15 "_law_is_signal" = true) (k15 : PySem.W.keepIn K (.ref f15) = true)
    (a16 : PySem.W.nsIn K mainGlobals "_law_start_good" = some (some (.ref f16)))
    (l16 : K.lookup f16 = some ⟨oc16, od16, .func (PySem.W.fnOf "_law_start_good" "_law_start_good" (defArgs s__law_start_good) (defBody s__law_start_good) (defScope s__law_start_good) .none kV16 dc16 pm16 an16 cd16 ct16), sl16⟩)
    (c16 : PySem.W.codeIn K cd16 "_law_start_good" = true) (k16 : PySem.W.keepIn K (.ref f16) = true)
    (a17 : PySem.W.nsIn K mainGlobals "_law_row_good" = some (some (.ref f17)))
    (l17 : K.lookup f17 = some ⟨oc17, od17, .func (PySem.W.fnOf "_law_row_good" "_law_row_good" (defArgs s__law_row_good) (defBody s__law_row_good) (defScope s__law_row_good) .none kV17 dc17 pm17 an17 cd17 ct17), sl17⟩)
    (c17 : PySem.W.codeIn K cd17 "_law_row_good" = true) (k17 : PySem.W.keepIn K (.ref f17) = true)
    (a18 : PySem.W.nsIn K mainGlobals "law" = some (some (.ref f18)))
    (l18 : K.lookup f18 = some ⟨oc18, od18, .func (PySem.W.fnOf "law" "law" (defArgs s_law) (defBody s_law) (defScope s_law) .none kV18 dc18 pm18 an18 cd18 ct18), sl18⟩)
    (c18 : PySem.W.codeIn K cd18 "law" = true) (k18 : PySem.W.keepIn K (.ref f18) = true)
    (aC_Game : PySem.W.nsIn K mainGlobals "Game" = some (some (.ref C_Game)))
    (pg_Game : PySem.W.plainGet K C_Game Str.empty = true) (hd_Game : PySem.W.hasDictIn K C_Game = true) (po_Game : PySem.W.plainOver K C_Game = true) (sa_Game : PySem.W.findIn K (.ref C_Game) "__setattr__" = some (some (.builtin "object.__setattr__"))) (mk_Game : PySem.W.makesIn K C_Game = true) (kc_Game : PySem.W.keepIn K (.ref C_Game) = true)
    (n_Game_owners : PySem.W.findIn K (.ref C_Game) "owners" = some none)
    (n_Game_priorities : PySem.W.findIn K (.ref C_Game) "priorities" = some none)
    (n_Game_successors : PySem.W.findIn K (.ref C_Game) "successors" = some none)
    (n_Game_top : PySem.W.findIn K (.ref C_Game) "top" = some none)
    (n_Game_height : PySem.W.findIn K (.ref C_Game) "height" = some none)
    (n_Game_ceiling : PySem.W.findIn K (.ref C_Game) "ceiling" = some none)
    (g_GREATEST_PRIORITY : PySem.W.nsIn K mainGlobals "GREATEST_PRIORITY" = some (some (.int 30 tk_GREATEST_PRIORITY)))
    (z1 : PySem.W.nsIn K mainGlobals "len" = some none)
    (z2 : PySem.W.nsIn K mainGlobals "isinstance" = some none)
    (z3 : PySem.W.nsIn K mainGlobals "int" = some none)
    (z4 : PySem.W.nsIn K mainGlobals "bool" = some none)
    (z5 : PySem.W.nsIn K mainGlobals "range" = some none)
    (z6 : PySem.W.nsIn K mainGlobals "tuple" = some none)
    (z7 : PySem.W.nsIn K mainGlobals "list" = some none)
    (z8 : PySem.W.nsIn K mainGlobals "max" = some none)
    (z9 : PySem.W.nsIn K mainGlobals "min" = some none)
    (z10 : PySem.W.nsIn K mainGlobals "sorted" = some none)
    (z11 : PySem.W.nsIn K mainGlobals "enumerate" = some none)
    (z12 : PySem.W.nsIn K mainGlobals "set" = some none) :
    ∃ fd : FuncData, (∀ (s : Shared) (v : Value), BindsTo s fd ⟨[v], []⟩ [("script", v)]) ∧ ∀ base : Heap, K.In base → base.Ns mainGlobals mg → FnOk l.prog w K mg base CX0 7 fa fd ["script"] (spLaw K) := by
  have e := hfa.symm.trans (PySem.W.mg_of X G a18)
  cases e
  have F1 := fun_mk (st := s_start_row) l1 c1 k1
  have b1 : Binds K _ ["game", "registers"] [] := F1.binds (ps := ["game", "registers"]) fun _ _ _ _ _ _ us hl => match us, hl with | [_, _], _ => rfl
  have m1 := PySem.W.mg_of X G a1
  have F2 := fun_mk (st := s_raised) l2 c2 k2
  have b2 : Binds K _ ["row", "priority"] [] := F2.binds (ps := ["row", "priority"]) fun _ _ _ _ _ _ us hl => match us, hl with | [_, _], _ => rfl
  have m2 := PySem.W.mg_of X G a2
  have F3 := fun_mk (st := s_emptied) l3 c3 k3
  have b3 : Binds K _ ["row", "which", "priority"] [] := F3.binds (ps := ["row", "which", "priority"]) fun _ _ _ _ _ _ us hl => match us, hl with | [_, _, _], _ => rfl
  have m3 := PySem.W.mg_of X G a3
  have F4 := fun_mk (st := s_signal) l4 c4 k4
  have b4 : Binds K _ ["which", "value"] [] := F4.binds (ps := ["which", "value"]) fun _ _ _ _ _ _ us hl => match us, hl with | [_, _], _ => rfl
  have m4 := PySem.W.mg_of X G a4
  have F5 := fun_mk (st := s_as_tuples) l5 c5 k5
  have b5 : Binds K _ ["value"] [] := F5.binds (ps := ["value"]) fun _ _ _ _ _ _ us hl => match us, hl with | [_], _ => rfl
  have m5 := PySem.W.mg_of X G a5
  have F6 := fun_mk (st := s_is_whole) l6 c6 k6
  have b6 : Binds K _ ["value"] [] := F6.binds (ps := ["value"]) fun _ _ _ _ _ _ us hl => match us, hl with | [_], _ => rfl
  have m6 := PySem.W.mg_of X G a6
  have F7 := fun_mk (st := s_Game___init__) l7 c7 k7
  have b7 : Binds K _ ["self", "owners", "priorities", "successors"] [] := F7.binds (ps := ["self", "owners", "priorities", "successors"]) fun _ _ _ _ _ _ us hl => match us, hl with | [_, _, _, _], _ => rfl
  have F8 := fun_mk (st := s_is_number_to) l8 c8 k8
  have b8 : Binds K _ ["value", "most"] [] := F8.binds (ps := ["value", "most"]) fun _ _ _ _ _ _ us hl => match us, hl with | [_, _], _ => rfl
  have m8 := PySem.W.mg_of X G a8
  have F9 := fun_mk (st := s_are_successors) l9 c9 k9
  have b9 : Binds K _ ["value", "count"] [] := F9.binds (ps := ["value", "count"]) fun _ _ _ _ _ _ us hl => match us, hl with | [_, _], _ => rfl
  have m9 := PySem.W.mg_of X G a9
  have F10 := fun_mk (st := s__law_whole) l10 c10 k10
  have b10 : Binds K _ ["value"] [] := F10.binds (ps := ["value"]) fun _ _ _ _ _ _ us hl => match us, hl with | [_], _ => rfl
  have m10 := PySem.W.mg_of X G a10
  have F11 := fun_mk (st := s__law_cell) l11 c11 k11
  have b11 : Binds K _ ["script", "k"] [] := F11.binds (ps := ["script", "k"]) fun _ _ _ _ _ _ us hl => match us, hl with | [_, _], _ => rfl
  have m11 := PySem.W.mg_of X G a11
  have F12 := fun_mk (st := s__law_digits) l12 c12 k12
  have b12 : Binds K _ ["cell", "sizes"] [] := F12.binds (ps := ["cell", "sizes"]) fun _ _ _ _ _ _ us hl => match us, hl with | [_, _], _ => rfl
  have m12 := PySem.W.mg_of X G a12
  have F13 := fun_mk (st := s__law_is_row) l13 c13 k13
  have b13 : Binds K _ ["told", "due"] [] := F13.binds (ps := ["told", "due"]) fun _ _ _ _ _ _ us hl => match us, hl with | [_, _], _ => rfl
  have m13 := PySem.W.mg_of X G a13
  have F14 := fun_mk (st := s__law_is_emptied) l14 c14 k14
  have b14 : Binds K _ ["told", "row", "which", "priority"] [] := F14.binds (ps := ["told", "row", "which", "priority"]) fun _ _ _ _ _ _ us hl => match us, hl with | [_, _, _, _], _ => rfl
  have m14 := PySem.W.mg_of X G a14
  have F15 := fun_mk (st := s__law_is_signal) l15 c15 k15
  have b15 : Binds K _ ["told", "which", "value"] [] := F15.binds (ps := ["told", "which", "value"]) fun _ _ _ _ _ _ us hl => match us, hl with | [_, _, _], _ => rfl
  have m15 := PySem.W.mg_of X G a15
  have F16 := fun_mk (st := s__law_start_good) l16 c16 k16
  have b16 : Binds K _ ["cells", "registers"] [] := F16.binds (ps := ["cells", "registers"]) fun _ _ _ _ _ _ us hl => match us, hl with | [_, _], _ => rfl
  have m16 := PySem.W.mg_of X G a16
  have F17 := fun_mk (st := s__law_row_good) l17 c17 k17
  have b17 : Binds K _ ["row", "priority"] [] := F17.binds (ps := ["row", "priority"]) fun _ _ _ _ _ _ us hl => match us, hl with | [_, _], _ => rfl
  have m17 := PySem.W.mg_of X G a17
  have F18 := fun_mk (st := s_law) l18 c18 k18
  have m18 := PySem.W.mg_of X G a18
  have mC_Game := PySem.W.mg_of X G aC_Game
  have mg_GREATEST_PRIORITY := PySem.W.mg_of X G g_GREATEST_PRIORITY
  have M : Blt mg := ⟨PySem.W.mg_none_of X G z1, PySem.W.mg_none_of X G z2, PySem.W.mg_none_of X G z3, PySem.W.mg_none_of X G z4, PySem.W.mg_none_of X G z5, PySem.W.mg_none_of X G z6, PySem.W.mg_none_of X G z7, PySem.W.mg_none_of X G z8, PySem.W.mg_none_of X G z9, PySem.W.mg_none_of X G z10, PySem.W.mg_none_of X G z11, PySem.W.mg_none_of X G z12⟩
  refine ⟨PySem.W.fnOf "law" "law" (defArgs s_law) (defBody s_law) (defScope s_law) .none kV18 dc18 pm18 an18 cd18 ct18, fun s v => .of_eq rfl, fun base _ _ => ?_⟩
  have T : GTxt K mg C_Game := ⟨⟨pg_Game, hd_Game, po_Game, sa_Game⟩, n_Game_owners, n_Game_priorities, n_Game_successors, n_Game_top, n_Game_height, n_Game_ceiling, mC_Game, ⟨_, mg_GREATEST_PRIORITY⟩⟩
  have Kwhole : Kn l.prog w K mg base 1 "is_whole" ["value"] spWhole := ⟨_, _, ok_whole M F6, b6, k6, m6⟩
  have Klwhole : Kn l.prog w K mg base 1 "_law_whole" ["value"] spWhole := ⟨_, _, ok_lwhole M F10, b10, k10, m10⟩
  have Kcell : Kn l.prog w K mg base 1 "_law_cell" ["script", "k"] (spCell K) := ⟨_, _, ok_cell M F11, b11, k11, m11⟩
  have Kdig : Kn l.prog w K mg base 1 "_law_digits" ["cell", "sizes"] (spDigits K) := ⟨_, _, ok_digits M F12, b12, k12, m12⟩
  have Knum : Kn l.prog w K mg base 2 "is_number_to" ["value", "most"] spNumTo := ⟨_, _, ok_numto M F8 Kwhole, b8, k8, m8⟩
  have Ksucc : Kn l.prog w K mg base 2 "are_successors" ["value", "count"] spSucc := ⟨_, _, ok_succ M F9 Kwhole, b9, k9, m9⟩
  have Kas0 : Kn l.prog w K mg base 1 "as_tuples" ["value"] spAs0 := ⟨_, _, ok_as0 M F5 b5 m5, b5, k5, m5⟩
  have Kas1 : Kn l.prog w K mg base 2 "as_tuples" ["value"] spAs1 := ⟨_, _, ok_as1 M F5 Kas0, b5, k5, m5⟩
  have Kas2 : Kn l.prog w K mg base 3 "as_tuples" ["value"] spAs2 := ⟨_, _, ok_as2 M F5 Kas1, b5, k5, m5⟩
  have GG : KG l.prog w K mg base C_Game := ⟨_, _, ⟨mk_Game, a7, i7, kc_Game⟩, ok_init M T F7 Knum Ksucc Kas2, b7⟩
  have Kstart : Kn l.prog w K mg base 1 "start_row" ["game", "registers"] (spStart C_Game) := ⟨_, _, ok_start M T F1, b1, k1, m1⟩
  have Kraised : Kn l.prog w K mg base 1 "raised" ["row", "priority"] spRaised := ⟨_, _, ok_raised M F2, b2, k2, m2⟩
  have Kempt : Kn l.prog w K mg base 1 "emptied" ["row", "which", "priority"] spEmptied := ⟨_, _, ok_emptied M F3, b3, k3, m3⟩
  have Ksig : Kn l.prog w K mg base 1 "signal" ["which", "value"] spSignal := ⟨_, _, ok_signal M F4, b4, k4, m4⟩
  have Kisrow : Kn l.prog w K mg base 2 "_law_is_row" ["told", "due"] spIsRow := ⟨_, _, ok_isrow M F13 Klwhole, b13, k13, m13⟩
  have Kisempt : Kn l.prog w K mg base 3 "_law_is_emptied" ["told", "row", "which", "priority"] spIsEmptied := ⟨_, _, ok_isemptied M F14 Klwhole Kisrow, b14, k14, m14⟩
  have Kissig : Kn l.prog w K mg base 2 "_law_is_signal" ["told", "which", "value"] spIsSignal := ⟨_, _, ok_issignal M F15 Klwhole, b15, k15, m15⟩
  have Ksg : Kn l.prog w K mg base 6 "_law_start_good" ["cells", "registers"] spStartGood := ⟨_, _, ok_startgood M T F16 GG Kstart Kisrow, b16, k16, m16⟩
  have Krg : Kn l.prog w K mg base 4 "_law_row_good" ["row", "priority"] spRowGood := ⟨_, _, ok_rowgood M F17 Kraised Kempt Kisrow Kisempt, b17, k17, m17⟩
  exact ok_law M F18 Kcell Kdig Ksig Kissig Krg Ksg
end GM
open PySem PySem.W PyProof.Rows
set_option maxRecDepth 100000 in
set_option pp.maxSteps 100 in
set_option maxHeartbeats 0 in
theorem PySem.Challenge.cw_holdsalltrees_k57_rows_and_signals_holds : PySem.Challenge.rw_holdsalltrees_k57_rows_and_signals.Holds := by
  w_on; o_law; k_head; (case hw => w_witness2)
  k_fill
  refine L2.walk_of (l := PySem.Challenge.rw_holdsalltrees_k57_rows_and_signals) (n := 63) (k := 7) (x := "script") (CX := fun _ => L2.CX0) (sp := fun w => GM.spLaw _) rfl (by decide) rfl ⟨rfl, by decide, by decide⟩ (fun w h Y => PySem.W.kIn_of Y) ?F (fun _ _ a ns hl _ hS => ⟨a, ns, rfl, hS, hl, fun _ => rfl⟩) (fun _ _ _ _ _ h => h)
  case F =>
    intro w mg fa h KX G hmg
    refine' GM.all_mk KX G hmg ?a1 ?l1 ?c1 ?k1 ?a2 ?l2 ?c2 ?k2 ?a3 ?l3 ?c3 ?k3 ?a4 ?l4 ?c4 ?k4 ?a5 ?l5 ?c5 ?k5 ?a6 ?l6 ?c6 ?k6 ?a7 ?i7 ?l7 ?c7 ?k7 ?a8 ?l8 ?c8 ?k8 ?a9 ?l9 ?c9 ?k9 ?a10 ?l10 ?c10 ?k10 ?a11 ?l11 ?c11 ?k11 ?a12 ?l12 ?c12 ?k12 ?a13 ?l13 ?c13 ?k13 ?a14 ?l14 ?c14 ?k14 ?a15 ?l15 ?c15 ?k15 ?a16 ?l16 ?c16 ?k16 ?a17 ?l17 ?c17 ?k17 ?a18 ?l18 ?c18 ?k18 ?aC_Game ?pg_Game ?hd_Game ?po_Game ?sa_Game ?mk_Game ?kc_Game ?n_Game_owners ?n_Game_priorities ?n_Game_successors ?n_Game_top ?n_Game_height ?n_Game_ceiling ?g_GREATEST_PRIORITY ?z1 ?z2 ?z3 ?z4 ?z5 ?z6 ?z7 ?z8 ?z9 ?z10 ?z11 ?z12
    (case aC_Game => k_is)
    (case a1 => k_is)
    (case l1 => k_is)
    (case c1 => k_is)
    (case k1 => k_is)
    (case a2 => k_is)
    (case l2 => k_is)
    (case c2 => k_is)
    (case k2 => k_is)
    (case a3 => k_is)
    (case l3 => k_is)
    (case c3 => k_is)
    (case k3 => k_is)
    (case a4 => k_is)
    (case l4 => k_is)
    (case c4 => k_is)
    (case k4 => k_is)
    (case a5 => k_is)
    (case l5 => k_is)
    (case c5 => k_is)
    (case k5 => k_is)
    (case a6 => k_is)
    (case l6 => k_is)
    (case c6 => k_is)
    (case k6 => k_is)
    (case a7 => k_is)
    (case i7 => k_is)
    (case l7 => k_is)
    (case c7 => k_is)
    (case k7 => k_is)
    (case a8 => k_is)
    (case l8 => k_is)
    (case c8 => k_is)
    (case k8 => k_is)
    (case a9 => k_is)
    (case l9 => k_is)
    (case c9 => k_is)
    (case k9 => k_is)
    (case a10 => k_is)
    (case l10 => k_is)
    (case c10 => k_is)
    (case k10 => k_is)
    (case a11 => k_is)
    (case l11 => k_is)
    (case c11 => k_is)
    (case k11 => k_is)
    (case a12 => k_is)
    (case l12 => k_is)
    (case c12 => k_is)
    (case k12 => k_is)
    (case a13 => k_is)
    (case l13 => k_is)
    (case c13 => k_is)
    (case k13 => k_is)
    (case a14 => k_is)
    (case l14 => k_is)
    (case c14 => k_is)
    (case k14 => k_is)
    (case a15 => k_is)
    (case l15 => k_is)
    (case c15 => k_is)
    (case k15 => k_is)
    (case a16 => k_is)
    (case l16 => k_is)
    (case c16 => k_is)
    (case k16 => k_is)
    (case a17 => k_is)
    (case l17 => k_is)
    (case c17 => k_is)
    (case k17 => k_is)
    (case a18 => k_is)
    (case l18 => k_is)
    (case c18 => k_is)
    (case k18 => k_is)
    (case pg_Game => k_is)
    (case hd_Game => k_is)
    (case po_Game => k_is)
    (case sa_Game => k_is)
    (case mk_Game => k_is)
    (case kc_Game => k_is)
    (case n_Game_owners => k_is)
    (case n_Game_priorities => k_is)
    (case n_Game_successors => k_is)
    (case n_Game_top => k_is)
    (case n_Game_height => k_is)
    (case n_Game_ceiling => k_is)
    (case g_GREATEST_PRIORITY => k_is)
    (case z1 => k_is)
    (case z2 => k_is)
    (case z3 => k_is)
    (case z4 => k_is)
    (case z5 => k_is)
    (case z6 => k_is)
    (case z7 => k_is)
    (case z8 => k_is)
    (case z9 => k_is)
    (case z10 => k_is)
    (case z11 => k_is)
    (case z12 => k_is)
