import PyProof.Rows.All
import Wide.All
import OpenK.AllK
import Wide.FinOn
import HandS.ForMost
import HandS.ForExc
import HandS.Defaults
import HandS.IsInst
import HandS.Flow
import HandS.Conv
import HandS.TupAny
import HandS.TupMul
import HandS.More
import HandS.Strs
import HandS.SortKw
import HandS.MakeKwOnly
import KE.DataMinMax
import KE.GoesEnum
import HandS.Iter
import HandS.SetFor
import HandS.Star
import HandS.Codes
import OpenK.KOps
import PyProof.ReprRoads
import PyProof.ReprBulk
import HandS.Rev
import KE.KDictList
import PySem.Challenge.RW_holdsalltrees_k38_duels
set_option Elab.async false
set_option linter.all false
set_option maxRecDepth 100000
set_option maxHeartbeats 4000000
namespace GM
open PySem PySem.Spec PyProof.Rows L2
/-! ### a def that is known by its promise -/
structure Kn (P : Program) (w : World) (K : PySem.W.Frag) (mg : Str → Option Value) (base : Heap) (k : Nat) (x : Str) (ps : List Str) (sp : Sp) where
  f : Addr
  fd : FuncData
  ok : FnOk P w K mg base CX0 k f fd ps sp
  b : Binds K fd ps []
  kp : PySem.W.keepIn K (.ref f) = true
  m : mg x = some (.ref f)
/-! ### heaps -/
theorem same_new {H : Hp} {p : Addr} (h : H p = none) (o : HO) : Same H (upd H p o) := fun b u q => by rw [upd_ne (ne_of_none q h)]; exact q
theorem same_upd {H H' : Hp} {p : Addr} (s : Same H H') (h : H p = none) (o : HO) : Same H (upd H' p o) := fun b u q => by
  rw [upd_ne (ne_of_none q h)]
  exact s b u q
theorem lt_line {n : Nat} (h : n ≤ 1000) : n < sizeLine := small1000 h
theorem le_line {n : Nat} (h : n ≤ 1000) : n ≤ sizeLine := Nat.le_of_lt (small1000 h)
theorem pr_get {α β : Type} {F : α → β → Prop} : ∀ {as : List α} {bs : List β} {i : Nat} {a : α}, Paired F as bs → as[i]? = some a → ∃ b, bs[i]? = some b ∧ F a b
  | _, _, _, _, .nil, e => by simp at e
  | _, _, 0, _, .cons r _, e => by simp at e; subst e; exact ⟨_, rfl, r⟩
  | _, _, i + 1, _, .cons _ t, e => by simpa using pr_get (i := i) t (by simpa using e)
theorem pr_getR {α β : Type} {F : α → β → Prop} : ∀ {as : List α} {bs : List β} {i : Nat} {b : β}, Paired F as bs → bs[i]? = some b → ∃ a, as[i]? = some a ∧ F a b
  | _, _, _, _, .nil, e => by simp at e
  | _, _, 0, _, .cons r _, e => by simp at e; subst e; exact ⟨_, rfl, r⟩
  | _, _, i + 1, _, .cons _ t, e => by simpa using pr_getR (i := i) t (by simpa using e)
theorem map_atV {α : Type} {f : α → V} {l : List α} {i : Nat} {x : V} (h : (l.map f)[i]? = some x) : ∃ s, l[i]? = some s ∧ x = f s := by
  rw [List.getElem?_map] at h
  obtain ⟨s, hs, rfl⟩ := Option.map_eq_some_iff.mp h
  exact ⟨s, hs, rfl⟩
theorem map_at {l : List Int} {i : Nat} {x : V} (h : (l.map V.int)[i]? = some x) : ∃ s, l[i]? = some s ∧ x = .int s := map_atV h
theorem at_map {α : Type} {f : α → V} {l : List α} {i : Nat} {s : α} (h : l[i]? = some s) : (l.map f)[i]? = some (f s) := by
  rw [List.getElem?_map, h]
  rfl
theorem tk1 {α : Type} {l : List α} {i : Nat} {s : α} (h : l[i]? = some s) : l.take (i + 1) = l.take i ++ [s] := by
  rw [List.take_add_one, h]
  rfl
theorem lt_of_at {α : Type} {l : List α} {i : Nat} {s : α} (h : l[i]? = some s) : i < l.length := (List.getElem?_eq_some_iff.mp h).1
theorem seqT_same {K : PySem.W.Frag} {H H' : Hp} {a : Addr} {xs : List V} (e : Same H H') (h : SqT K H a xs) : SqT K H' a xs := by
  rcases h with (h | ⟨o, h⟩) | h
  · exact .inl (.inl (e _ _ h))
  · exact .inl (.inr ⟨o, e _ _ h⟩)
  · exact .inr h
theorem sqT {K : PySem.W.Frag} {H : Hp} {a : Addr} {xs : List V} (h : H a = some (.tup xs)) : SqT K H a xs := .inl (.inl h)
theorem tYI {σ : L2.St} {H : Hp} {A B : Hp → Prop} (h : A H) : tYes σ H (fun b H3 => if b = true then A H3 else B H3) := (show if true = true then A H else B H from iteT h)
/-! ### comprehensions whose items are made without a change of the heap -/
section
variable {K : PySem.W.Frag} {a : Addr} {xs : List V} {g : TG} {tt : TT} {te : TE} {vs : List Nat} {σ : L2.St} {H1 : Hp} {D : Addr} {Qd : Hp → Prop}
theorem lc_mapL (f : Nat → V → V) (hlen : xs.length ≤ 1000) (hS : SqL K H1 a xs) (hD : H1 D = none)
    (hs : ∀ i x H (k : V → Hp → Prop) (n : Hp → Prop), xs[i]? = some x → Same H1 H → k (f i x) H → g x (wipe σ vs) H fun σ2 H2 => wipe σ2 vs = wipe σ vs ∧ tt σ2 H2 fun b H3 => if b = true then te σ2 H3 k else n H3)
    (hd : ∀ H', Same H1 H' → H' D = some (.lst (xs.mapIdx f)) → Qd H') :
    ∃ W : Nat → Nat → Hp → Prop, (∃ m, W 0 m (upd H1 D (.lst []))) ∧ ∀ i m H, W i m H →
      ((Itl K a).stop i H ∧ Qd H) ∨ ((Itl K a).go i H ∧ ∃ Nx : Hp → Prop, (∀ H', Nx H' → ∃ m', m' < m ∧ W (i + 1) m' H') ∧ ∀ x H', (Itl K a).yld i H x H' → g x (wipe σ vs) H' fun σ2 H2 => wipe σ2 vs = wipe σ vs ∧ tt σ2 H2 fun b H3 =>
        if b = true then te σ2 H3 fun y H4 => ∃ acc, H4 D = some (.lst acc) ∧ acc.length < sizeLine ∧ Nx (upd H4 D (.lst (acc ++ [y]))) else Nx H3) := by
  refine lc_list (xs := xs) (fun i H => Same H1 H ∧ H D = some (.lst ((xs.mapIdx f).take i))) ⟨same_new hD _, upd_same⟩ (fun i H _ z => z.1.seq hS) ?_ ?_
  · rintro i x H hx ⟨sm, eD⟩
    have hm : (xs.mapIdx f)[i]? = some (f i x) := by rw [List.getElem?_mapIdx, hx]; rfl
    have hl : ((xs.mapIdx f).take i).length < sizeLine := by
      refine lt_line (Nat.le_trans (List.length_take_le _ _) ?_)
      exact Nat.le_of_lt (Nat.lt_of_lt_of_le (lt_of_at hx) hlen)
    refine hs i x H _ (fun H3 => Same H1 H3 ∧ H3 D = some (.lst ((xs.mapIdx f).take (i + 1)))) hx sm ⟨_, eD, hl, same_upd sm hD _, ?_⟩
    rw [upd_same, tk1 hm]
  · rintro H ⟨sm, eD⟩
    refine hd H sm ?_
    rw [eD, List.take_of_length_le (by rw [List.length_mapIdx]; exact Nat.le_refl _)]
theorem lc_mapT (f : Nat → V → V) (hlen : xs.length ≤ 1000) (hS : SqT K H1 a xs) (hD : H1 D = none)
    (hs : ∀ i x H (k : V → Hp → Prop) (n : Hp → Prop), xs[i]? = some x → Same H1 H → k (f i x) H → g x (wipe σ vs) H fun σ2 H2 => wipe σ2 vs = wipe σ vs ∧ tt σ2 H2 fun b H3 => if b = true then te σ2 H3 k else n H3)
    (hd : ∀ H', Same H1 H' → H' D = some (.lst (xs.mapIdx f)) → Qd H') :
    ∃ W : Nat → Nat → Hp → Prop, (∃ m, W 0 m (upd H1 D (.lst []))) ∧ ∀ i m H, W i m H →
      ((Itt K a).stop i H ∧ Qd H) ∨ ((Itt K a).go i H ∧ ∃ Nx : Hp → Prop, (∀ H', Nx H' → ∃ m', m' < m ∧ W (i + 1) m' H') ∧ ∀ x H', (Itt K a).yld i H x H' → g x (wipe σ vs) H' fun σ2 H2 => wipe σ2 vs = wipe σ vs ∧ tt σ2 H2 fun b H3 =>
        if b = true then te σ2 H3 fun y H4 => ∃ acc, H4 D = some (.lst acc) ∧ acc.length < sizeLine ∧ Nx (upd H4 D (.lst (acc ++ [y]))) else Nx H3) := by
  refine lc_tup (xs := xs) (fun i H => Same H1 H ∧ H D = some (.lst ((xs.mapIdx f).take i))) ⟨same_new hD _, upd_same⟩ (fun i H _ z => seqT_same z.1 hS) ?_ ?_
  · rintro i x H hx ⟨sm, eD⟩
    have hm : (xs.mapIdx f)[i]? = some (f i x) := by rw [List.getElem?_mapIdx, hx]; rfl
    have hl : ((xs.mapIdx f).take i).length < sizeLine := by
      refine lt_line (Nat.le_trans (List.length_take_le _ _) ?_)
      exact Nat.le_of_lt (Nat.lt_of_lt_of_le (lt_of_at hx) hlen)
    refine hs i x H _ (fun H3 => Same H1 H3 ∧ H3 D = some (.lst ((xs.mapIdx f).take (i + 1)))) hx sm ⟨_, eD, hl, same_upd sm hD _, ?_⟩
    rw [upd_same, tk1 hm]
  · rintro H ⟨sm, eD⟩
    refine hd H sm ?_
    rw [eD, List.take_of_length_le (by rw [List.length_mapIdx]; exact Nat.le_refl _)]
theorem range_at {n i : Nat} (h : i < n) : (List.range n)[i]? = some i := by rw [List.getElem?_range h]
theorem lc_mapR {n : Nat} (f : Nat → V) (hlen : n ≤ 1000) (hD : H1 D = none)
    (hs : ∀ i H (k : V → Hp → Prop) (nn : Hp → Prop), i < n → Same H1 H → k (f i) H → g (.int (0 + i)) (wipe σ vs) H fun σ2 H2 => wipe σ2 vs = wipe σ vs ∧ tt σ2 H2 fun b H3 => if b = true then te σ2 H3 k else nn H3)
    (hd : ∀ H', Same H1 H' → H' D = some (.lst ((List.range n).map f)) → Qd H') :
    ∃ W : Nat → Nat → Hp → Prop, (∃ m, W 0 m (upd H1 D (.lst []))) ∧ ∀ i m H, W i m H →
      ((Itr 0 n).stop i H ∧ Qd H) ∨ ((Itr 0 n).go i H ∧ ∃ Nx : Hp → Prop, (∀ H', Nx H' → ∃ m', m' < m ∧ W (i + 1) m' H') ∧ ∀ x H', (Itr 0 n).yld i H x H' → g x (wipe σ vs) H' fun σ2 H2 => wipe σ2 vs = wipe σ vs ∧ tt σ2 H2 fun b H3 =>
        if b = true then te σ2 H3 fun y H4 => ∃ acc, H4 D = some (.lst acc) ∧ acc.length < sizeLine ∧ Nx (upd H4 D (.lst (acc ++ [y]))) else Nx H3) := by
  refine lc_range (lo := 0) (n := n) (fun i H => i ≤ n ∧ Same H1 H ∧ H D = some (.lst ((List.range i).map f))) ⟨Nat.zero_le _, same_new hD _, upd_same⟩ ?_ ?_
  · rintro i H hi ⟨_, sm, eD⟩
    have hl : ((List.range i).map f).length < sizeLine := by
      rw [List.length_map, List.length_range]
      exact lt_line (by omega)
    refine hs i H _ (fun H3 => i + 1 ≤ n ∧ Same H1 H3 ∧ H3 D = some (.lst ((List.range (i + 1)).map f))) hi sm ⟨_, eD, hl, by omega, same_upd sm hD _, ?_⟩
    rw [upd_same, List.range_succ, List.map_append]
    rfl
  · rintro H ⟨_, sm, eD⟩
    exact hd H sm eD
/-- items that are new objects, over a range -/
theorem lc_newR {n : Nat} (c : Nat → HO) (hlen : n ≤ 1000) (hD : H1 D = none)
    (hs : ∀ i H (k : V → Hp → Prop) (nn : Hp → Prop), i < n → Same H1 H → (∀ p H', Same H H' → H p = none → H' p = some (c i) → k (.ref p) H') → g (.int (0 + i)) (wipe σ vs) H fun σ2 H2 => wipe σ2 vs = wipe σ vs ∧ tt σ2 H2 fun b H3 => if b = true then te σ2 H3 k else nn H3)
    (hd : ∀ H' ps, Same H1 H' → H' D = some (.lst (ps.map V.ref)) → Paired (fun p i => H1 p = none ∧ p ≠ D ∧ H' p = some (c i)) ps (List.range n) → Qd H') :
    ∃ W : Nat → Nat → Hp → Prop, (∃ m, W 0 m (upd H1 D (.lst []))) ∧ ∀ i m H, W i m H →
      ((Itr 0 n).stop i H ∧ Qd H) ∨ ((Itr 0 n).go i H ∧ ∃ Nx : Hp → Prop, (∀ H', Nx H' → ∃ m', m' < m ∧ W (i + 1) m' H') ∧ ∀ x H', (Itr 0 n).yld i H x H' → g x (wipe σ vs) H' fun σ2 H2 => wipe σ2 vs = wipe σ vs ∧ tt σ2 H2 fun b H3 =>
        if b = true then te σ2 H3 fun y H4 => ∃ acc, H4 D = some (.lst acc) ∧ acc.length < sizeLine ∧ Nx (upd H4 D (.lst (acc ++ [y]))) else Nx H3) := by
  refine lc_range (lo := 0) (n := n) (fun i H => i ≤ n ∧ Same H1 H ∧ ∃ ps : List Addr, H D = some (.lst (ps.map V.ref)) ∧ Paired (fun p i => H1 p = none ∧ p ≠ D ∧ H p = some (c i)) ps (List.range i)) ⟨Nat.zero_le _, same_new hD _, [], upd_same, .nil⟩ ?_ ?_
  · rintro i H hi ⟨_, sm, ps, eD, pw⟩
    have lp : ps.length = i := by rw [pw.length, List.length_range]
    refine hs i H _ (fun H3 => i + 1 ≤ n ∧ Same H1 H3 ∧ ∃ ps : List Addr, H3 D = some (.lst (ps.map V.ref)) ∧ Paired (fun p i => H1 p = none ∧ p ≠ D ∧ H3 p = some (c i)) ps (List.range (i + 1))) hi sm fun p H' s' hp e' => ⟨_, s' _ _ eD, ?_, by omega, same_upd (sm.trans s') hD _, ps ++ [p], ?_, ?_⟩
    · rw [List.length_map, lp]; exact lt_line (by omega)
    · rw [upd_same, List.map_append]; rfl
    · rw [List.range_succ]
      have hpD : p ≠ D := fun z => by rw [z, eD] at hp; cases hp
      refine (L2.Paired.mapP pw fun b j z => ⟨z.1, z.2.1, by rw [upd_ne z.2.1]; exact s' _ _ z.2.2⟩).snoc ⟨sm.free hp, hpD, by rw [upd_ne hpD]; exact e'⟩
  · rintro H ⟨_, sm, ps, eD, pw⟩
    exact hd H ps sm eD pw
/-- items that are new objects, over a list -/
theorem lc_newL (R : Nat → V → HO → Prop) (hlen : xs.length ≤ 1000) (hS : SqL K H1 a xs) (hD : H1 D = none)
    (hs : ∀ i x H (k : V → Hp → Prop) (nn : Hp → Prop), xs[i]? = some x → Same H1 H → (∀ p o H', Same H H' → H p = none → H' p = some o → R i x o → k (.ref p) H') → g x (wipe σ vs) H fun σ2 H2 => wipe σ2 vs = wipe σ vs ∧ tt σ2 H2 fun b H3 => if b = true then te σ2 H3 k else nn H3)
    (hd : ∀ H' (ps : List Addr), Same H1 H' → H' D = some (.lst (ps.map V.ref)) → ps.length = xs.length → (∀ i p x, ps[i]? = some p → xs[i]? = some x → ∃ o, H1 p = none ∧ p ≠ D ∧ H' p = some o ∧ R i x o) → Qd H') :
    ∃ W : Nat → Nat → Hp → Prop, (∃ m, W 0 m (upd H1 D (.lst []))) ∧ ∀ i m H, W i m H →
      ((Itl K a).stop i H ∧ Qd H) ∨ ((Itl K a).go i H ∧ ∃ Nx : Hp → Prop, (∀ H', Nx H' → ∃ m', m' < m ∧ W (i + 1) m' H') ∧ ∀ x H', (Itl K a).yld i H x H' → g x (wipe σ vs) H' fun σ2 H2 => wipe σ2 vs = wipe σ vs ∧ tt σ2 H2 fun b H3 =>
        if b = true then te σ2 H3 fun y H4 => ∃ acc, H4 D = some (.lst acc) ∧ acc.length < sizeLine ∧ Nx (upd H4 D (.lst (acc ++ [y]))) else Nx H3) := by
  refine lc_list (xs := xs) (fun i H => Same H1 H ∧ ∃ ps : List Addr, H D = some (.lst (ps.map V.ref)) ∧ ps.length = i ∧ ∀ j p x, ps[j]? = some p → xs[j]? = some x → ∃ o, H1 p = none ∧ p ≠ D ∧ H p = some o ∧ R j x o) ⟨same_new hD _, [], upd_same, rfl, fun j p x e => by simp at e⟩ (fun i H _ z => z.1.seq hS) ?_ ?_
  · rintro i x H hx ⟨sm, ps, eD, lp, pw⟩
    refine hs i x H _ (fun H3 => Same H1 H3 ∧ ∃ ps : List Addr, H3 D = some (.lst (ps.map V.ref)) ∧ ps.length = i + 1 ∧ ∀ j p x, ps[j]? = some p → xs[j]? = some x → ∃ o, H1 p = none ∧ p ≠ D ∧ H3 p = some o ∧ R j x o) hx sm fun p o H' s' hp e' r => ⟨_, s' _ _ eD, ?_, same_upd (sm.trans s') hD _, ps ++ [p], ?_, ?_, ?_⟩
    · rw [List.length_map, lp]; exact lt_line (Nat.le_of_lt (Nat.lt_of_lt_of_le (lt_of_at hx) hlen))
    · rw [upd_same, List.map_append]; rfl
    · rw [List.length_append, lp]; rfl
    · intro j q y hq hy
      have hpD : p ≠ D := fun z => by rw [z, eD] at hp; cases hp
      by_cases hj : j < i
      · rw [List.getElem?_append_left (by omega)] at hq
        obtain ⟨o2, z1, z2, z3, z4⟩ := pw j q y hq hy
        exact ⟨o2, z1, z2, by rw [upd_ne z2]; exact s' _ _ z3, z4⟩
      · have hji : j = i := by
          have := lt_of_at hq
          rw [List.length_append, lp] at this
          simp only [List.length_cons, List.length_nil] at this
          omega
        subst hji
        rw [List.getElem?_append_right (by omega), lp, Nat.sub_self] at hq
        simp at hq
        subst hq
        rw [hx] at hy
        cases hy
        exact ⟨o, sm.free hp, hpD, by rw [upd_ne hpD]; exact e', r⟩
  · rintro H ⟨sm, ps, eD, lp, pw⟩
    exact hd H ps sm eD lp pw
end
/-! ### max(t, default=d) of a tuple of ints -/
section
variable {X : Cx}
theorem depth_ints : ∀ ns : List Int, PyData.depthAll (ns.map PyData.int) = 0
  | [] => rfl
  | n :: ns => by
    rw [List.map_cons]
    show max (PyData.depth (.int n)) (PyData.depthAll (ns.map PyData.int)) = 0
    rw [depth_ints ns]
    rfl
theorem dp_ints {K : PySem.W.Frag} {H : Hp} : ∀ ns : List Int, DpAll K H (ns.map V.int) (ns.map PyData.int)
  | [] => .nil
  | n :: ns => .cons (.int n) (dp_ints ns)
theorem alike_ints (ns : List Int) : PySem.W.AlikeAll (ns.map PyData.int) := by
  constructor
  · intro x hx y hy
    obtain ⟨i, _, rfl⟩ := List.mem_map.mp hx
    obtain ⟨j, _, rfl⟩ := List.mem_map.mp hy
    rfl
  · intro x hx e
    obtain ⟨i, _, rfl⟩ := List.mem_map.mp hx
    cases e
theorem foldl_max_ge (l : List Int) : ∀ a : Int, a ≤ l.foldl max a ∧ (∀ y ∈ l, y ≤ l.foldl max a) ∧ (l.foldl max a = a ∨ l.foldl max a ∈ l) := by
  induction l with
  | nil => exact fun a => ⟨Int.le_refl _, fun y h => (nomatch h), .inl rfl⟩
  | cons b l ih =>
    intro a
    obtain ⟨h1, h2, h3⟩ := ih (max a b)
    have e : (b :: l).foldl max a = l.foldl max (max a b) := rfl
    rw [e]
    refine ⟨by omega, fun y hy => ?_, ?_⟩
    · rcases List.mem_cons.mp hy with rfl | hy
      · omega
      · exact h2 y hy
    · rcases h3 with h3 | h3
      · by_cases c : a ≤ b
        · right; rw [h3, Int.max_eq_right c]; exact List.mem_cons_self
        · left; rw [h3, Int.max_eq_left (by omega)]
      · right; exact List.mem_cons_of_mem _ h3
def rMaxDef (K : PySem.W.Frag) : List V → List V → Hp → VK → Prop := fun vs zs H Q => ∃ (a : Addr) (ns : List Int) (d : Int), vs = [.ref a] ∧ zs = [.int d] ∧ SqT K H a (ns.map V.int) ∧
  (ns = [] → Q (.int d) H) ∧ ∀ m, m ∈ ns → (∀ y ∈ ns, y ≤ m) → Q (.int m) H
theorem cr_maxDef (hc : X.calm = true) (hu : X.A.units + 2 < cLine) : CallRK X (.builtin "max") [Str.ofString "default"] (rMaxDef X.K) := by
  intro pins s σ H vs zs us ws Q I r rz h
  obtain ⟨a, ns, d, rfl, rfl, hT, q0, q⟩ := h
  obtain ⟨its, rv, hl, hz⟩ := I.tuple hT
  obtain ⟨as, ra⟩ := Dp.readsAll I (ns.map PyData.int) (ns.map V.int) its (dp_ints ns) rv
  rw [Vals.ref1 r]
  obtain ⟨u0, e0, r0⟩ : ∃ u0, ws = [u0] ∧ RelV (.int d) u0 := by
    cases rz with
    | cons h t =>
      cases t
      exact ⟨_, rfl, h⟩
  subst e0
  show wpAny (model X.prog X.w) X.A (call (.builtin "max") [.ref a] [(Str.ofString "default", u0)]) (EP X pins σ Q) X.xe s
  refine PySem.W.max_tuple_default (I.ok.hd hc) hl ra (alike_ints ns) (by rw [depth_ints]; omega) (fun e h' tk hk => ?_) (fun y ys i v h' tk bs e hi hr hk => ?_)
  · exact ⟨.int d, H, I.kept hk, r0, q0 (List.map_eq_nil_iff.mp e)⟩
  · cases ns with
    | nil => cases e
    | cons n ns =>
      rw [List.map_cons] at e
      injection e with e1 e2
      subst e1
      subst e2
      rw [PySem.W.maxD_ints] at hr
      cases hr with
      | int j t =>
        obtain ⟨h1, h2, h3⟩ := foldl_max_ge ns n
        refine ⟨.int _, H, I.kept hk, ⟨_, rfl⟩, q _ ?_ ?_⟩
        · rcases h3 with h3 | h3
          · rw [h3]; exact List.mem_cons_self
          · exact List.mem_cons_of_mem _ h3
        · intro y hy
          rcases List.mem_cons.mp hy with rfl | hy
          · exact h1
          · exact h2 y hy
end
end GM
set_option Elab.async false
set_option linter.all false
set_option maxRecDepth 100000
set_option maxHeartbeats 4000000
namespace GM
open PySem PySem.Spec PyProof.Rows L2
theorem tuple_mul1 (l : Addr) (items : Array Value) (n : Nat) (dd : Option Addr) (sl : Array (Option Value)) (u : Tok) :
    Meets (Builtin.«tuple.__mul__» ⟨[.ref l, .int 1 u], []⟩) (fun _ R s => s.heap.get? l = some { cls := .type "tuple", dict := dd, data := .seq items n, slots := sl } ∧
      R (.ok (.ret (Value.ref l))) s) :=
  .of_wp fun prog w A R s h => by
    obtain ⟨hp, g, d, tk, os⟩ := s
    obtain ⟨hl, h⟩ := h
    have f1 := AutoSeq1.idx_int
    wp_walk using wpAny_loadPart' hl
    repeat (first
      | (refine wpAny_ite_false (by decide) ?_; wp_walk using wpAny_loadPart' hl)
      | (refine wpAny_ite_true (by cases items.isEmpty <;> rfl) ?_; wp_walk using wpAny_loadPart' hl))
    exact ⟨_, rfl, h⟩
/-- a tuple once: itself -/
def rRepT1 (K : PySem.W.Frag) : R2 := fun x y H Q => ∃ l xs, x = .ref l ∧ y = .int 1 ∧ SqT K H l xs ∧ Q (.ref l) H
section
variable {X : Cx}
theorem op_repT1 : OpR X (binaryOp .Mult) (rRepT1 X.K) := by
  intro pins s σ H x y v u Q I rx ry h
  obtain ⟨l, xs, rfl, rfl, hT, q⟩ := h
  cases rx
  obtain ⟨t, rfl⟩ := ry
  obtain ⟨its, r, ⟨⟨cls, dd, data, sl⟩, ho, hc, n, hd⟩, hs⟩ := I.tuple hT
  simp only at hc hd
  subst hc hd
  refine wpAny_binaryOp_repeat_ref (T := "tuple") (U := "int") (by decide) ⟨_, ho, rfl⟩ (fun s' => typeIs_int s' 1 t) noFill_tuple_mul F.fills_int_mul F.slot_int_rmul repeat_tuple F.slot_int_index.lookup
    (call_meets F.slot_int_rmul (typeIs_int s 1 t) F.entry_int_rmul (F.args_int_rmul_2 _ _) (int_rmul_tuple 1 t l its.toArray n dd sl)
      ⟨ho, rfl, ⟨_, ho, rfl⟩, call_meets F.slot_tuple_mul ⟨_, ho, rfl⟩ F.entry_tuple_mul (F.args_tuple_mul_2 _ _) (tuple_mul1 l its.toArray n dd sl t) ⟨ho, ?_⟩⟩)
  exact ⟨.ref l, H, I, rfl, q⟩
end
/-- the built-ins that the module doesn't name anew -/
structure Blt (mg : Str → Option Value) : Prop where
  len : mg "len" = none
  isinstance : mg "isinstance" = none
  int : mg "int" = none
  bool : mg "bool" = none
  range : mg "range" = none
  tuple : mg "tuple" = none
  list : mg "list" = none
  max : mg "max" = none
  min : mg "min" = none
  sorted : mg "sorted" = none
  enumerate : mg "enumerate" = none
  set : mg "set" = none
end GM
set_option Elab.async false
set_option linter.all false
set_option maxRecDepth 100000
set_option maxHeartbeats 4000000
namespace GM
open PySem PySem.Spec PyProof.Rows L2
/-! ### cuts, sums of tuples, equal data -/
theorem slA {K : PySem.W.Frag} {H : Hp} {a : Addr} {xs : List V} {lo hi : Option Int} {Q : V → Hp → Prop} (e : H a = some (.tup xs)) (k : ∀ r H', Same H H' → H' r = some (.tup (cutV xs lo hi)) → Q (.ref r) H') : rSlA K (.ref a) lo hi H Q := by
  refine ⟨a, xs, rfl, sqT e, fun h => k a H (.refl _) ?_, fun _ p hp => k p _ (same_new hp _) upd_same⟩
  rw [e]
  unfold cutV
  rw [h.1, h.2, List.drop_zero, Nat.sub_zero, List.take_length]
theorem catA2 {K : PySem.W.Frag} {H : Hp} {a b : Addr} {xs ys : List V} {Q : V → Hp → Prop} (ea : H a = some (.tup xs)) (eb : H b = some (.tup ys)) (hl : xs.length + ys.length ≤ sizeLine) (k : ∀ r H', Same H H' → H' r = some (.tup (xs ++ ys)) → Q (.ref r) H') : rCatA K (.ref a) (.ref b) H Q := by
  refine ⟨a, b, xs, ys, rfl, rfl, sqT ea, sqT eb, hl, fun h => k b H (.refl _) ?_, fun _ h => k a H (.refl _) ?_, fun _ _ p hp => k p _ (same_new hp _) upd_same⟩
  · rw [h]; exact eb
  · rw [h, List.append_nil]; exact ea
theorem cut_hi (xs : List V) (j : Nat) : cutV xs none (some (j : Int)) = xs.take j := by
  unfold cutV
  have e1 : HT.sIx xs.length xs.length (some (j : Int)) = min j xs.length := HT.sIx_nat xs.length xs.length j
  rw [e1, HT.sIx_none, List.drop_zero, Nat.sub_zero]
  by_cases h : j ≤ xs.length
  · rw [Nat.min_eq_left h]
  · rw [Nat.min_eq_right (by omega), List.take_length, List.take_of_length_le (by omega)]
theorem cut_lo (xs : List V) (j : Nat) : cutV xs (some (j : Int)) none = xs.drop j := by
  unfold cutV
  have e1 : HT.sIx xs.length 0 (some (j : Int)) = min j xs.length := HT.sIx_nat xs.length 0 j
  rw [e1, HT.sIx_none]
  by_cases h : j ≤ xs.length
  · rw [Nat.min_eq_left h, ← List.length_drop, List.take_length]
  · rw [Nat.min_eq_right (by omega), Nat.sub_self, List.take_zero, List.drop_of_length_le (by omega)]
theorem cut_mid (xs : List V) (i k : Nat) (h : i + k ≤ xs.length) : cutV xs (some (i : Int)) (some ((i + k : Nat) : Int)) = (xs.drop i).take k := by
  unfold cutV
  have e1 : HT.sIx xs.length 0 (some (i : Int)) = min i xs.length := HT.sIx_nat xs.length 0 i
  have e2 : HT.sIx xs.length xs.length (some ((i + k : Nat) : Int)) = min (i + k) xs.length := HT.sIx_nat xs.length xs.length (i + k)
  rw [e1, e2, Nat.min_eq_left h, Nat.min_eq_left (show i ≤ xs.length by omega), Nat.add_sub_cancel_left]
theorem eqv_ints : ∀ ns : List Int, PyData.eqvAll (ns.map PyData.int) (ns.map PyData.int) = true
  | [] => rfl
  | n :: ns => by
    rw [List.map_cons, PyData.eqvAll, eqv_ints ns, Bool.and_true]
    simp [PyData.eqv]
theorem eqv_lst (ns : List Int) : PyData.eqv (.list (ns.map PyData.int)) (.list (ns.map PyData.int)) = true := by
  rw [PyData.eqv]; exact eqv_ints ns
theorem all_list {f : Tr → PyData} {N : Nat} (h : ∀ t, (f t).canLay0 = true ∧ (f t).depth ≤ N) : ∀ l : List Tr, PyData.canLayAll0 (l.map f) = true ∧ PyData.depthAll (l.map f) ≤ N
  | [] => ⟨rfl, Nat.zero_le _⟩
  | t :: l => by
    obtain ⟨i1, i2⟩ := all_list h l
    obtain ⟨h1, h2⟩ := h t
    rw [List.map_cons]
    refine ⟨?_, ?_⟩
    · show ((f t).canLay0 && PyData.canLayAll0 (l.map f)) = true
      rw [h1, i1]; rfl
    · show max (f t).depth (PyData.depthAll (l.map f)) ≤ N
      omega
theorem shape_ints (ns : List Int) : PySem.SeqAt.shaped (.list (ns.map PyData.int)) = true := by
  obtain ⟨i1, i2⟩ := all_list (f := PyData.int) (N := 0) (fun t => ⟨rfl, Nat.le_refl _⟩) ns
  unfold PySem.SeqAt.shaped
  rw [show (PyData.list (ns.map PyData.int)).canLay0 = true from i1, decide_eq_true (show (PyData.list (ns.map PyData.int)).depth ≤ 64 by show PyData.depthAll _ + 1 ≤ _; omega)]
  rfl
theorem dp_lst {K : PySem.W.Frag} {H : Hp} {a : Addr} {ns : List Int} (e : H a = some (.lst (ns.map V.int))) : Dp K H (.ref a) (.list (ns.map PyData.int)) := .lst (SqL.of e) (dp_ints ns)
end GM
set_option Elab.async false
set_option linter.all false
set_option maxRecDepth 100000
set_option maxHeartbeats 4000000
set_option pp.maxSteps 200
namespace GM
open PySem PySem.Spec PyProof.Rows L2
/-! ### enumerate(v) of whatever begins -/
theorem new_enum1 {v : Value} {o : Obj} {B0 : Heap → Prop} (B : Begins v o B0) :
    Meets (Builtin.«enumerate.__new__» ⟨[.type "enumerate", v], []⟩) (fun _ R s => B0 s.heap ∧ R (.ok (.ret (.ref (s.heap.push o).objs.size)))
      { s with heap := (s.heap.push o).push { cls := .type "enumerate", data := .fields #[.none, .bool false, .ref s.heap.objs.size, rawInt 0, .none, .none] } }) :=
  .of_wp fun prog w A R s h => by
    rcases s with ⟨hp, g, d, tk, os⟩
    have begun := fun (A' : Around) (E' : Value → Shared → Prop) (Q' : Value → Shared → Prop) q => B.iter prog w A' E' ⟨hp, g, d, tk, os⟩ Q' h.1 q
    have hsub := sub_enumerate
    wp_walk
    refine wpAny_stack_any fun st => wpAny_pure ?_
    split
    · rename_i c _ _ _ _ _
      cases (c == Value.type "enumerate") <;> (wp_walk using begun; exact ⟨_, rfl, h.2⟩)
    · wp_walk using begun
      exact ⟨_, rfl, h.2⟩
section
variable {prog : Program} {w : World} {A : Around} {E : Value → Shared → Prop} {s : Shared}
theorem run_enum1 {v : Value} {o : Obj} {B0 : Heap → Prop} {Q : Value → Shared → Prop} (B : Begins v o B0) (h0 : B0 s.heap)
    (h : ∀ h', IsEnum h' (s.heap.objs.size + 1) s.heap.objs.size 0 .none → h'.get? s.heap.objs.size = some o → (∀ b u, s.heap.get? b = some u → h'.get? b = some u) → Q (.ref (s.heap.objs.size + 1)) { s with heap := h' }) :
    wpAny (model prog w) A (call (.type "enumerate") [v]) Q E s := by
  refine callType_new F.called_enumerate (by decide) (F.typeCall_enumerate_1 _) (F.newCall_enumerate_1 _) (fun obj => F.args_object_init_2 obj _) F.entry_enumerate_new (new_enum1 B) ⟨h0, ?_⟩
  have at2 : ∀ o' : Obj, o'.isFreed = false → ((s.heap.push o).push o').get? (s.heap.objs.size + 1) = some o' := fun o' f => by
    rw [← Heap.size_push s.heap o]; exact Heap.get?_push_size _ f
  rw [Heap.size_push]
  exact ⟨⟨_, at2 _ rfl, rfl⟩, h _ (at2 _ rfl) (Heap.get?_push_of_some _ (Heap.get?_push_size _ B.free)) fun b u e => Heap.get?_push_of_some _ (Heap.get?_push_of_some _ e)⟩
end
/-- the pairs of enumerate over the tuple xs at a -/
def Iet (K : PySem.W.Frag) (a : Addr) (xs : List V) : It where
  go := fun i H => SqT K H a xs ∧ i < xs.length
  yld := fun i H v H' => ∃ T x, v = .ref T ∧ H T = none ∧ H' = upd H T (.tup [.int (i : Nat), x]) ∧ xs[i]? = some x
  stop := fun i H => SqT K H a xs ∧ xs.length ≤ i
theorem cls_ne {h : Heap} {a b : Addr} {o u : Obj} (ha : h.get? a = some o) (hb : h.get? b = some u) (hc : o.cls ≠ u.cls) : a ≠ b := by
  rintro rfl
  cases ha.symm.trans hb
  exact hc rfl
theorem turn_et {P : Program} {w : World} {K : PySem.W.Frag} {elts : List Expr} {kk : Nat} {tpos : Pos} (a : Addr) (xs : List V) (e it : Addr) (ne : e ≠ it) :
    Turn P w K (.Tuple elts kk tpos) (Iet K a xs) [e, it] e (fun i h => i ≤ xs.length ∧ (∃ old, IsEnum h e it ((i : Nat) : Int) old) ∧ h.IsTupleIter it a i) := by
  have two : ∀ {b : Addr}, b ∈ [e, it] → b = e ∨ b = it := fun h => by simpa using h
  refine ⟨by simp, ?_, ?_, ?_, ?_, ?_⟩
  · rintro i h ⟨_, ⟨old, he⟩, o, ho, _, hd⟩ b hb
    rcases two hb with rfl | rfl
    · exact ⟨_, he, fun v q => nomatch q⟩
    · exact ⟨o, ho, fun v q => by rw [hd] at q; cases q⟩
  · rintro i h h' ⟨hi, ⟨old, he⟩, hit⟩ k
    exact ⟨hi, ⟨old, k e (by simp) _ he⟩, hit.at fun o q => k it (by simp) o q⟩
  · rintro X rfl rfl rfl hc i pins s σ H E I hf ⟨hi, ⟨old, he⟩, hit⟩ ⟨hq, hlt⟩
    obtain ⟨its, rv, p, _⟩ := I.tuple hq
    obtain ⟨op, hop, hcp, np, hdp⟩ := id p
    obtain ⟨oi, hoi, hci, hdi⟩ := id hit
    have e1 : a ≠ it := cls_ne hop hoi (by rw [hcp, hci]; decide)
    have e2 : e ≠ a := cls_ne he hop (by rw [hcp]; show Value.type "enumerate" ≠ Value.type "tuple"; decide)
    obtain ⟨u, hu, ru⟩ := rv.get (List.getElem?_eq_getElem hlt)
    have D := Draws.tuple (prog := X.prog) (w := X.w) (A := X.A.in1) (I.ok.hd hc) it a e1 its.toArray
    have hsz : i < its.toArray.size := by rw [List.size_toArray, ← rv.length]; exact hlt
    refine wpAny_pyNext_enum_itemD D he ⟨hit, p⟩ hsz ne (by simp [ne, e2]) fun x h1 tk hP hout hst hT _ hk => ⟨_, rfl, ?_⟩
    obtain rfl : u = x := by
      have hP' : its.toArray[i]? = some x := hP
      rw [List.getElem?_toArray, hu] at hP'
      exact Option.some.inj hP'
    have lte : e < s.heap.objs.size := Heap.lt_size he
    have lti : it < s.heap.objs.size := Heap.lt_size hoi
    have fr : H s.heap.objs.size = none := I.hok.fresh (Nat.le_refl _)
    refine wpAny_letOwnedTupleGo_enum (s := { s with heap := h1, toks := tk + 1 }) hout fun h2 he2 sb => ?_
    have out : ∀ b, b ≠ e → h2.get? b = h1.get? b := fun b hb => sb.2 b hb
    have nt : ObjOk X.prog X.w (upd H s.heap.objs.size (.tup [.int (i : Nat), xs[i]])) h2 s.heap.objs.size (.tup [.int (i : Nat), xs[i]]) :=
      ⟨(by decide : 2 ≤ sizeLine), [.int i tk, u], .cons ⟨_, rfl⟩ (.cons ru .nil), ⟨_, (out _ (Nat.ne_of_gt lte)).trans hT, rfl, _, rfl⟩⟩
    refine ⟨.ref s.heap.objs.size, _, I.turnedNew (t' := tk + 1) (ch := [e, it]) (fun b ob hb q => ?_) hf (Nat.le_refl _) nt, rfl, ⟨_, _, rfl, fr, rfl, List.getElem?_eq_getElem hlt⟩, ⟨hlt, ⟨u, ?_⟩, ?_⟩, fun b hb => ?_⟩
    · have hb1 : b ≠ e := fun z => hb (by simp [z])
      have hb2 : b ≠ it := fun z => hb (by simp [z])
      exact (out b hb1).trans (hk b ob hb1 hb2 q)
    · rw [Int.natCast_succ]; exact he2
    · exact hst.1.at fun o q => (out it ne.symm).trans q
    · have hb' : b ≠ s.heap.objs.size := by
        rcases two hb with rfl | rfl
        · exact Nat.ne_of_lt lte
        · exact Nat.ne_of_lt lti
      rw [upd_ne hb']
      exact (hf b hb).1
  · rintro X rfl rfl rfl hc i pins s σ H E I hf ⟨hi, ⟨old, he⟩, hit⟩ ⟨hq, hge⟩
    obtain ⟨its, rv, p, _⟩ := I.tuple hq
    obtain ⟨op, hop, hcp, np, hdp⟩ := id p
    obtain ⟨oi, hoi, hci, hdi⟩ := id hit
    have e1 : a ≠ it := cls_ne hop hoi (by rw [hcp, hci]; decide)
    have D := Draws.tuple (prog := X.prog) (w := X.w) (A := X.A.in1) (I.ok.hd hc) it a e1 its.toArray
    obtain rfl : i = its.toArray.size := by rw [List.size_toArray, ← rv.length]; omega
    obtain ⟨g0, g1, _, g3, g4, g5⟩ := hf it (by simp)
    exact wpAny_pyNext_enum_endD D he ⟨hit, p⟩ fun h1 eb => ⟨rfl, I.turned (t' := s.toks) (fun b o hb q => eb b o hb q) g0 g1 g3 g4 g5⟩
  · rintro A i s Q E ⟨_, ⟨old, he⟩, _⟩ h
    exact wpAny_pyIter_enum he h
def iEnumT (K : PySem.W.Frag) (ta : TA) : TI := fun σ H R => ta σ H fun vs H1 => ∃ a xs, vs = [.ref a] ∧ SqT K H1 a xs ∧ R (Iet K a xs) H1
theorem pi_enumT {X : Cx} {e : Expr} {ta : TA} {p pos tpos : Pos} {elts : List Expr} {kk : Nat} (hg : Gl X "enumerate") (hm : X.mg "enumerate" = none) (ha : PA X [e] ta) (hs : starEach [e] X.env = [(false, eval e X.env)] := by rfl) :
    PI X (.Tuple elts kk tpos) (.Call (.Name "enumerate" p) [e] [] pos) (iEnumT X.K ta) := by
  constructor
  intro pins s σ H R I h
  refine Call_ (ld_blt I hg hm boot_enumerate (PyProof.Rows.callWith_type1 (thn (ha.run pos pins s σ H _ I h) ?_) hs rfl))
  rintro us s1 ⟨vs, H1, I1, r1, a, xs, rfl, hq, q⟩
  rw [Vals.ref1 r1]
  obtain ⟨its, rv, pt, _⟩ := I1.tuple hq
  refine run_enum1 (begins_tuple a its.toArray) pt fun h1 he hit hk => wpAny_pyIter_enum he ?_
  refine ⟨_, [s1.heap.objs.size + 1, s1.heap.objs.size], _, _, H1, rfl, I1.kept (t' := s1.toks) hk, turn_et a xs _ _ (Nat.succ_ne_self _), ⟨Nat.zero_le _, ⟨.none, he⟩, ⟨_, hit, rfl, rfl⟩⟩, fun b hb => ?_, q⟩
  have hle : s1.heap.objs.size ≤ b := by
    rcases (show b = s1.heap.objs.size + 1 ∨ b = s1.heap.objs.size by simpa using hb) with rfl | rfl
    · exact Nat.le_succ _
    · exact Nat.le_refl _
  exact I1.fpOk hle (I1.hok.fresh hle)
theorem for_et {K : PySem.W.Frag} {a : Addr} {xs : List V} {g : TG} {tb : TS} {D : Ends} {σ : L2.St} {H : Hp} (Pv : Nat → L2.St → Hp → Prop) (h0 : Pv 0 σ H) (hl : ∀ i σ H, i ≤ xs.length → Pv i σ H → SqT K H a xs)
    (hs : ∀ i x T σ H, xs[i]? = some x → Pv i σ H → H T = none → g (.ref T) σ (upd H T (.tup [.int (i : Nat), x])) fun σ2 H2 => tb { D with nx := Pv (i + 1), ct := Pv (i + 1), bk := D.nx } σ2 H2) (hd : ∀ σ H, Pv xs.length σ H → D.nx σ H) :
    ∃ W : Nat → Nat → L2.St → Hp → Prop, (∃ m, W 0 m σ H) ∧ ∀ i m σ H, W i m σ H →
      ((Iet K a xs).stop i H ∧ D.nx σ H) ∨ ((Iet K a xs).go i H ∧ ∃ N : L2.St → Hp → Prop, (∀ σ' H', N σ' H' → ∃ m', m' < m ∧ W (i + 1) m' σ' H') ∧ ∀ x H', (Iet K a xs).yld i H x H' → g x σ H' fun σ2 H2 => tb { D with nx := N, ct := N, bk := D.nx } σ2 H2) := by
  refine ⟨fun i m σ H => i + m = xs.length ∧ Pv i σ H, ⟨xs.length, Nat.zero_add _, h0⟩, ?_⟩
  rintro i m σ H ⟨hm, p⟩
  cases m with
  | zero =>
    have e : i = xs.length := hm
    rw [e] at p ⊢
    exact .inl ⟨⟨hl _ σ H (Nat.le_refl _) p, Nat.le_refl _⟩, hd σ H p⟩
  | succ m =>
    refine .inr ⟨⟨hl i σ H (by omega) p, by omega⟩, Pv (i + 1), fun σ' H' p' => ⟨m, Nat.lt_succ_self _, by omega, p'⟩, ?_⟩
    rintro _ _ ⟨T, x, rfl, hT, rfl, hx⟩
    exact hs i x T σ H hx p hT
/-! ### a set of ints, made of a list or a tuple -/
def SetI (P : Program) (w : World) (a : Addr) (ns : List Int) : HO := .ext fun h => ∃ n, h.SetOf (intKind P w) a (fun j => decide (j ∈ ns)) n
section
variable {X : Cx}
def rSetI (K : PySem.W.Frag) (P : Program) (w : World) : List V → Hp → VK → Prop := fun vs H Q => ∃ (a : Addr) (ns : List Int), vs = [.ref a] ∧ (SqL K H a (ns.map V.int) ∨ SqT K H a (ns.map V.int)) ∧ ns.length ≤ 900 ∧
  ∀ p : Addr, H p = none → Q (.ref p) (upd H p (SetI P w p ns))
theorem setI_ok {P : Program} {w : World} {H : Hp} {h : Heap} {a : Addr} {ns : List Int} {n : Nat} (R : h.SetOf (intKind P w) a (fun j => decide (j ∈ ns)) n) : ObjOk P w H h a (SetI P w a ns) := by
  have ⟨o, _, _, _, ho, _⟩ := R
  refine ⟨⟨n, R⟩, ⟨o, ho⟩, ?_⟩
  rintro h1 h2 ⟨m, o1, es, ep, t, e1, r⟩ k
  exact ⟨m, o1, es, ep, t, k _ e1, r⟩
theorem cr_setI (hc : X.calm = true) : CallR X (.type "set") (rSetI X.K X.prog X.w) := by
  intro pins s σ H vs us Q I r h
  obtain ⟨a, ns, rfl, hs, hl, q⟩ := h
  rw [Vals.ref1 r]
  have hd := I.ok.hd hc
  have fr : H s.heap.objs.size = none := I.hok.fresh (Nat.le_refl _)
  rcases hs with hs | hs
  · obtain ⟨its, rv, hq, _⟩ := I.list hs
    have hi : IntsAre its.toArray.toList ns := ints_of_vals rv
    have hln : its.toArray.size = ns.length := by rw [List.size_toArray, ← rv.length, List.length_map]
    refine call_set_list hd hq.isList hi (by rw [hln]; unfold scanBound; omega) fun h1 tk S k => ?_
    rw [hln] at S
    have ef : (fun k' => (PyProof.Rows.firstMet (fun i => ns.getD i 0) ns.length).any (· == k')) = fun j => decide (j ∈ ns) := by
      funext j
      rw [firstMet_any]
      have em : (List.range ns.length).map (fun i => ns.getD i 0) = ns := by
        apply List.ext_getElem?
        intro i
        rw [List.getElem?_map]
        by_cases hi : i < ns.length
        · rw [List.getElem?_range hi, List.getElem?_eq_getElem hi, Option.map_some, List.getD_eq_getElem?_getD, List.getElem?_eq_getElem hi]
          rfl
        · rw [List.getElem?_eq_none (by rw [List.length_range]; omega), List.getElem?_eq_none (by omega)]
          rfl
      rw [em]
      by_cases hj : j ∈ ns
      · rw [decide_eq_true hj, List.any_eq_true]
        exact ⟨j, hj, beq_self_eq_true j⟩
      · rw [decide_eq_false hj, List.any_eq_false]
        intro x hx hb
        exact hj (by rw [← (beq_iff_eq.mp hb)]; exact hx)
    rw [ef] at S
    exact ⟨.ref _, upd H s.heap.objs.size (SetI X.prog X.w s.heap.objs.size ns), I.laid (t' := tk) (fun b u e => k b u (Heap.lt_size e) e) (Nat.le_refl _) (setI_ok S), rfl, q _ fr⟩
  · obtain ⟨its, rv, pt, _⟩ := I.tuple hs
    refine call_set_tupI ns hd (l := a) (items := its.toArray) pt (ints_of_vals rv) (by unfold scanBound; omega) fun h1 tk c R _ k => ?_
    exact ⟨.ref _, upd H s.heap.objs.size (SetI X.prog X.w s.heap.objs.size ns), I.laid (t' := tk) k (Nat.le_refl _) (setI_ok R.setOf), rfl, q _ fr⟩
def rInI (P : Program) (w : World) : V → V → Hp → VK → Prop := fun x y H Q => ∃ k a ns, x = V.int k ∧ y = V.ref a ∧ H a = some (SetI P w a ns) ∧ Q (.bl (decide (k ∈ ns))) H
theorem op_inI : OpR X (compareOp .In) (rInI X.prog X.w) := by
  intro pins s σ H x y v u Q I rx ry h
  obtain ⟨k, a, ns, rfl, rfl, ha, q⟩ := h
  obtain ⟨tk, rfl⟩ := rx
  cases ry
  obtain ⟨n, S⟩ := (I.hok a _ ha).1
  exact wpAny_inSet_of (intKind_is _ _ _ _) rfl S ⟨.bl _, H, I.tok _, rfl, q⟩
/-! ### len of an object of one's own -/
def rLenO (C : Addr) (sp : Sp) : List V → Hp → VK → Prop := fun vs H Q => ∃ a dx fs, vs = [.ref a] ∧ H a = some (.ins C dx fs) ∧ sp [.ref a] H (fun v H1 => ∃ n : Nat, v = .int n ∧ n ≤ 1000000 ∧ Q (.int n) H1) E0
theorem cr_lenO {C f : Addr} {fd : FuncData} {k : Nat} {sp : Sp} (F : FnOk X.prog X.w X.K X.mg X.base CX0 k f fd ["self"] sp) (hb : Binds X.K fd ["self"] []) (hr : Room (k + 1) X.A) (hm : PySem.W.findIn X.K (.ref C) "__len__" = some (some (.ref f))) (hf : PySem.W.isFn X.K (.ref f) = true) :
    CallR X (.builtin "len") (rLenO C sp) := by
  intro pins s σ H vs us Q I r h
  obtain ⟨a, dx, fs, rfl, ea, hsp⟩ := h
  rw [Vals.ref1 r]
  obtain ⟨mA, O, _⟩ := ins_get I.hok ea
  obtain ⟨od, J, _⟩ := O.look
  have called : wpAny (model X.prog X.w) X.A.in1 (call (.ref f) [.ref a]) (EP X pins σ (fun v H1 => ∃ n : Nat, v = .int n ∧ n ≤ 1000000 ∧ Q (.int n) H1)) X.xe s := by
    refine wpAny_call (codeAny_mono (F.run X.A.in1 X.stack s H ⟨[.ref a], []⟩ [.ref a] [.ref a] _ E0 hr.in1 I.env0.in1 (hb s [.ref a] I.kIn rfl) (.cons rfl .nil) hsp) fun r s' hq => ?_)
    match r, hq with
    | .error e, hq => exact (pass0 : Passes CX0 X E0) pins σ H s e s' I hq
    | .ok (.ret u), hq => exact I.after hq
  refine Calls.call_function_entry kind_len plain_len entry_len (args_len1 _) ?_
  refine wpAny_bind (m := oneArg "len" _) (wpAny_pure ?_)
  refine wpAny_bind (m := callSpecial? (.ref a) (Str.ofString "__len__")) (PySem.W.special_fn I.kIn J hm (beq_iff_eq.mp hf) (wpAny_mono called ?_ fun _ _ z => z))
  rintro u s1 ⟨_, H1, I1, ru, n, rfl, hn, q⟩
  obtain ⟨tk, rfl⟩ := ru
  have lo : ¬ ((n : Int) < 0) := by omega
  have hi : ¬ ((n : Int) ≥ 2 ^ 63) := by omega
  refine wpAny_bind (wpAny_holding (wpAny_pure (wpAny_bind (wpAny_letGo ?_))))
  show wpAny _ _ (if (n : Int) < 0 then _ else _) _ _ _
  rw [if_neg lo]
  show wpAny _ _ (if (n : Int) ≥ 2 ^ 63 then _ else _) _ _ _
  rw [if_neg hi]
  exact wpAny_bind (wpAny_mkInt (wpAny_pure ⟨_, rfl, .int n, H1, I1.tok _, ⟨_, rfl⟩, q⟩))
end
end GM
set_option Elab.async false
set_option linter.all false
set_option maxRecDepth 100000
set_option maxHeartbeats 4000000
namespace GM
open PySem PySem.Spec PyProof.Rows L2
def topS (i : Nat) : Stmt := PySem.Challenge.pw_holdsalltrees_k38_duels.main.body.getD i (.Pass ⟨0, 0, 0, 0⟩)
abbrev s__wall : Stmt := topS 0
abbrev s_as_tuples : Stmt := topS 2
abbrev s_is_whole : Stmt := topS 3
abbrev s_is_number_to : Stmt := topS 4
abbrev s_BadVertex___init__ : Stmt := inClass (topS 7) 0
abbrev s_duel : Stmt := topS 9
abbrev s__followed : Stmt := topS 10
abbrev s_Game___init__ : Stmt := inClass (topS 13) 0
abbrev s_Game___len__ : Stmt := inClass (topS 13) 1
abbrev s_Game___eq__ : Stmt := inClass (topS 13) 2
abbrev s_Game_turned : Stmt := inClass (topS 13) 3
abbrev s_Game_restricted : Stmt := inClass (topS 13) 4
abbrev s_are_successors : Stmt := topS 14
abbrev s__law_whole : Stmt := topS 16
abbrev s__law_cell : Stmt := topS 17
abbrev s__law_digits : Stmt := topS 18
abbrev s__law_graph : Stmt := topS 19
abbrev s__law_same : Stmt := topS 20
abbrev s__law_plan : Stmt := topS 21
abbrev s__law_duel : Stmt := topS 22
abbrev s_law : Stmt := topS 23
abbrev n_as_tuples : List Str := ["value", "item"]
theorem sc_as_tuples : FnScope n_as_tuples ["value"] (defScope s_as_tuples) := ⟨rfl, rfl, rfl, by decide +kernel, rfl, by decide +kernel, by decide +kernel⟩
abbrev n_is_whole : List Str := ["value"]
theorem sc_is_whole : FnScope n_is_whole ["value"] (defScope s_is_whole) := ⟨rfl, rfl, rfl, by decide +kernel, rfl, by decide +kernel, by decide +kernel⟩
abbrev n_is_number_to : List Str := ["value", "most"]
theorem sc_is_number_to : FnScope n_is_number_to ["value", "most"] (defScope s_is_number_to) := ⟨rfl, rfl, rfl, by decide +kernel, rfl, by decide +kernel, by decide +kernel⟩
abbrev n_BadVertex___init__ : List Str := ["self", "vertex"]
theorem sc_BadVertex___init__ : FnScope n_BadVertex___init__ ["self", "vertex"] (defScope s_BadVertex___init__) := ⟨rfl, rfl, rfl, by decide +kernel, rfl, by decide +kernel, by decide +kernel⟩
abbrev n_duel : List Str := ["game", "first", "second", "start", "plans", "moves", "vertex", "row", "step"]
theorem sc_duel : FnScope n_duel ["game", "first", "second", "start"] (defScope s_duel) := ⟨rfl, rfl, rfl, by decide +kernel, rfl, by decide +kernel, by decide +kernel⟩
abbrev n__followed : List Str := ["moves", "start", "walk", "vertex", "first"]
theorem sc__followed : FnScope n__followed ["moves", "start"] (defScope s__followed) := ⟨rfl, rfl, rfl, by decide +kernel, rfl, by decide +kernel, by decide +kernel⟩
abbrev n_Game___init__ : List Str := ["self", "owners", "priorities", "successors", "vertex"]
theorem sc_Game___init__ : FnScope n_Game___init__ ["self", "owners", "priorities", "successors"] (defScope s_Game___init__) := ⟨rfl, rfl, rfl, by decide +kernel, rfl, by decide +kernel, by decide +kernel⟩
abbrev n_Game___len__ : List Str := ["self"]
theorem sc_Game___len__ : FnScope n_Game___len__ ["self"] (defScope s_Game___len__) := ⟨rfl, rfl, rfl, by decide +kernel, rfl, by decide +kernel, by decide +kernel⟩
abbrev n_Game___eq__ : List Str := ["self", "other"]
theorem sc_Game___eq__ : FnScope n_Game___eq__ ["self", "other"] (defScope s_Game___eq__) := ⟨rfl, rfl, rfl, by decide +kernel, rfl, by decide +kernel, by decide +kernel⟩
abbrev n_Game_turned : List Str := ["self"]
theorem sc_Game_turned : FnScope n_Game_turned ["self"] (defScope s_Game_turned) := ⟨rfl, rfl, rfl, by decide +kernel, rfl, by decide +kernel, by decide +kernel⟩
abbrev n_Game_restricted : List Str := ["self", "vertices"]
theorem sc_Game_restricted : FnScope n_Game_restricted ["self", "vertices"] (defScope s_Game_restricted) := ⟨rfl, rfl, rfl, by decide +kernel, rfl, by decide +kernel, by decide +kernel⟩
abbrev n_are_successors : List Str := ["value", "count", "least", "item"]
theorem sc_are_successors : FnScope n_are_successors ["value", "count"] (defScope s_are_successors) := ⟨rfl, rfl, rfl, by decide +kernel, rfl, by decide +kernel, by decide +kernel⟩
abbrev n__law_whole : List Str := ["value"]
theorem sc__law_whole : FnScope n__law_whole ["value"] (defScope s__law_whole) := ⟨rfl, rfl, rfl, by decide +kernel, rfl, by decide +kernel, by decide +kernel⟩
abbrev n__law_cell : List Str := ["script", "k", "seed", "cell"]
theorem sc__law_cell : FnScope n__law_cell ["script", "k"] (defScope s__law_cell) := ⟨rfl, rfl, rfl, by decide +kernel, rfl, by decide +kernel, by decide +kernel⟩
abbrev n__law_digits : List Str := ["cell", "sizes", "row", "rest", "size", "seed", "k", "twice"]
theorem sc__law_digits : FnScope n__law_digits ["cell", "sizes"] (defScope s__law_digits) := ⟨rfl, rfl, rfl, by decide +kernel, rfl, by decide +kernel, by decide +kernel⟩
abbrev n__law_graph : List Str := ["script", "at", "count", "top", "head", "chance", "owners", "priorities", "successors", "v", "row", "targets", "u"]
theorem sc__law_graph : FnScope n__law_graph ["script", "at", "count", "top"] (defScope s__law_graph) := ⟨rfl, rfl, rfl, by decide +kernel, rfl, by decide +kernel, by decide +kernel⟩
abbrev n__law_same : List Str := ["told", "due", "k"]
theorem sc__law_same : FnScope n__law_same ["told", "due"] (defScope s__law_same) := ⟨rfl, rfl, rfl, by decide +kernel, rfl, by decide +kernel, by decide +kernel⟩
abbrev n__law_plan : List Str := ["game", "who", "cell", "count", "row", "plan", "v", "number", "item"]
theorem sc__law_plan : FnScope n__law_plan ["game", "who", "cell"] (defScope s__law_plan) := ⟨rfl, rfl, rfl, by decide +kernel, rfl, by decide +kernel, by decide +kernel⟩
abbrev n__law_duel : List Str := ["game", "plans", "v", "steps", "place", "turn", "choice", "cut"]
theorem sc__law_duel : FnScope n__law_duel ["game", "plans", "v"] (defScope s__law_duel) := ⟨rfl, rfl, rfl, by decide +kernel, rfl, by decide +kernel, by decide +kernel⟩
abbrev n_law : List Str := ["script", "head", "count", "game", "made", "other", "plans", "others", "passed", "before", "v", "due", "rows", "row", "owner", "who"]
theorem sc_law : FnScope n_law ["script"] (defScope s_law) := ⟨rfl, rfl, rfl, by decide +kernel, rfl, by decide +kernel, by decide +kernel⟩
end GM
set_option Elab.async false
set_option linter.all false
set_option maxRecDepth 100000
set_option maxHeartbeats 4000000
namespace GM
open PySem PySem.Spec PyProof.Rows L2
/-! ### comprehensions with a test -/
section
variable {K : PySem.W.Frag} {a : Addr} {xs : List V} {g : TG} {tt : TT} {te : TE} {vs : List Nat} {σ : L2.St} {H1 : Hp} {D : Addr} {Qd : Hp → Prop}
theorem filter_step {α : Type} {l : List α} {i : Nat} {x : α} (p : α → Bool) (h : l[i]? = some x) : (l.take (i + 1)).filter p = (l.take i).filter p ++ (if p x = true then [x] else []) := by
  rw [tk1 h, List.filter_append]
  congr 1
  by_cases c : p x = true
  · rw [if_pos c, List.filter_cons_of_pos c]; rfl
  · rw [if_neg c, List.filter_cons_of_neg c]; rfl
theorem lc_filterL (p : V → Bool) (hlen : xs.length ≤ 1000) (hS : SqL K H1 a xs) (hD : H1 D = none)
    (hs : ∀ (i : Nat) x H (k : V → Hp → Prop) (n : Hp → Prop), xs[i]? = some x → Same H1 H → (p x = true → ∀ H', Same H H' → k x H') → (p x = false → ∀ H', Same H H' → n H') → g x (wipe σ vs) H fun σ2 H2 => wipe σ2 vs = wipe σ vs ∧ tt σ2 H2 fun b H3 => if b = true then te σ2 H3 k else n H3)
    (hd : ∀ H', Same H1 H' → H' D = some (.lst (xs.filter p)) → Qd H') :
    ∃ W : Nat → Nat → Hp → Prop, (∃ m, W 0 m (upd H1 D (.lst []))) ∧ ∀ i m H, W i m H →
      ((Itl K a).stop i H ∧ Qd H) ∨ ((Itl K a).go i H ∧ ∃ Nx : Hp → Prop, (∀ H', Nx H' → ∃ m', m' < m ∧ W (i + 1) m' H') ∧ ∀ x H', (Itl K a).yld i H x H' → g x (wipe σ vs) H' fun σ2 H2 => wipe σ2 vs = wipe σ vs ∧ tt σ2 H2 fun b H3 =>
        if b = true then te σ2 H3 fun y H4 => ∃ acc, H4 D = some (.lst acc) ∧ acc.length < sizeLine ∧ Nx (upd H4 D (.lst (acc ++ [y]))) else Nx H3) := by
  refine lc_list (xs := xs) (fun i H => Same H1 H ∧ H D = some (.lst ((xs.take i).filter p))) ⟨same_new hD _, upd_same⟩ (fun i H _ z => z.1.seq hS) ?_ ?_
  · rintro i x H hx ⟨sm, eD⟩
    have st := filter_step p hx
    have hl : ((xs.take i).filter p).length < sizeLine := by
      refine lt_line (Nat.le_trans (List.length_filter_le _ _) (Nat.le_trans (List.length_take_le _ _) ?_))
      exact Nat.le_of_lt (Nat.lt_of_lt_of_le (lt_of_at hx) hlen)
    refine hs i x H _ (fun H3 => Same H1 H3 ∧ H3 D = some (.lst ((xs.take (i + 1)).filter p))) hx sm (fun c H' s' => ⟨_, s' _ _ eD, hl, same_upd (sm.trans s') hD _, ?_⟩) (fun c H' s' => ⟨sm.trans s', ?_⟩)
    · rw [upd_same, st, if_pos c]
    · rw [st, c, if_neg Bool.false_ne_true, List.append_nil]; exact s' _ _ eD
  · rintro H ⟨sm, eD⟩
    rw [List.take_length] at eD
    exact hd H sm eD
theorem lc_filterT (p : V → Bool) (hlen : xs.length ≤ 1000) (hS : SqT K H1 a xs) (hD : H1 D = none)
    (hs : ∀ (i : Nat) x H (k : V → Hp → Prop) (n : Hp → Prop), xs[i]? = some x → Same H1 H → (p x = true → ∀ H', Same H H' → k x H') → (p x = false → ∀ H', Same H H' → n H') → g x (wipe σ vs) H fun σ2 H2 => wipe σ2 vs = wipe σ vs ∧ tt σ2 H2 fun b H3 => if b = true then te σ2 H3 k else n H3)
    (hd : ∀ H', Same H1 H' → H' D = some (.lst (xs.filter p)) → Qd H') :
    ∃ W : Nat → Nat → Hp → Prop, (∃ m, W 0 m (upd H1 D (.lst []))) ∧ ∀ i m H, W i m H →
      ((Itt K a).stop i H ∧ Qd H) ∨ ((Itt K a).go i H ∧ ∃ Nx : Hp → Prop, (∀ H', Nx H' → ∃ m', m' < m ∧ W (i + 1) m' H') ∧ ∀ x H', (Itt K a).yld i H x H' → g x (wipe σ vs) H' fun σ2 H2 => wipe σ2 vs = wipe σ vs ∧ tt σ2 H2 fun b H3 =>
        if b = true then te σ2 H3 fun y H4 => ∃ acc, H4 D = some (.lst acc) ∧ acc.length < sizeLine ∧ Nx (upd H4 D (.lst (acc ++ [y]))) else Nx H3) := by
  refine lc_tup (xs := xs) (fun i H => Same H1 H ∧ H D = some (.lst ((xs.take i).filter p))) ⟨same_new hD _, upd_same⟩ (fun i H _ z => seqT_same z.1 hS) ?_ ?_
  · rintro i x H hx ⟨sm, eD⟩
    have st := filter_step p hx
    have hl : ((xs.take i).filter p).length < sizeLine := by
      refine lt_line (Nat.le_trans (List.length_filter_le _ _) (Nat.le_trans (List.length_take_le _ _) ?_))
      exact Nat.le_of_lt (Nat.lt_of_lt_of_le (lt_of_at hx) hlen)
    refine hs i x H _ (fun H3 => Same H1 H3 ∧ H3 D = some (.lst ((xs.take (i + 1)).filter p))) hx sm (fun c H' s' => ⟨_, s' _ _ eD, hl, same_upd (sm.trans s') hD _, ?_⟩) (fun c H' s' => ⟨sm.trans s', ?_⟩)
    · rw [upd_same, st, if_pos c]
    · rw [st, c, if_neg Bool.false_ne_true, List.append_nil]; exact s' _ _ eD
  · rintro H ⟨sm, eD⟩
    rw [List.take_length] at eD
    exact hd H sm eD
theorem lc_filterR {n : Nat} (p : Nat → Bool) (hlen : n ≤ 1000) (hD : H1 D = none)
    (hs : ∀ i H (k : V → Hp → Prop) (nn : Hp → Prop), i < n → Same H1 H → (p i = true → ∀ H', Same H H' → k (.int (0 + (i : Int))) H') → (p i = false → ∀ H', Same H H' → nn H') → g (.int (0 + i)) (wipe σ vs) H fun σ2 H2 => wipe σ2 vs = wipe σ vs ∧ tt σ2 H2 fun b H3 => if b = true then te σ2 H3 k else nn H3)
    (hd : ∀ H', Same H1 H' → H' D = some (.lst ((((List.range n).filter p).map fun i : Nat => (i : Int)).map V.int)) → Qd H') :
    ∃ W : Nat → Nat → Hp → Prop, (∃ m, W 0 m (upd H1 D (.lst []))) ∧ ∀ i m H, W i m H →
      ((Itr 0 n).stop i H ∧ Qd H) ∨ ((Itr 0 n).go i H ∧ ∃ Nx : Hp → Prop, (∀ H', Nx H' → ∃ m', m' < m ∧ W (i + 1) m' H') ∧ ∀ x H', (Itr 0 n).yld i H x H' → g x (wipe σ vs) H' fun σ2 H2 => wipe σ2 vs = wipe σ vs ∧ tt σ2 H2 fun b H3 =>
        if b = true then te σ2 H3 fun y H4 => ∃ acc, H4 D = some (.lst acc) ∧ acc.length < sizeLine ∧ Nx (upd H4 D (.lst (acc ++ [y]))) else Nx H3) := by
  refine lc_range (lo := 0) (n := n) (fun i H => i ≤ n ∧ Same H1 H ∧ H D = some (.lst ((((List.range i).filter p).map fun i : Nat => (i : Int)).map V.int))) ⟨Nat.zero_le _, same_new hD _, upd_same⟩ ?_ ?_
  · rintro i H hi ⟨_, sm, eD⟩
    have st : (List.range (i + 1)).filter p = (List.range i).filter p ++ (if p i = true then [i] else []) := by
      rw [List.range_succ, List.filter_append]
      congr 1
      by_cases c : p i = true
      · rw [if_pos c, List.filter_cons_of_pos c]; rfl
      · rw [if_neg c, List.filter_cons_of_neg c]; rfl
    have hl : ((((List.range i).filter p).map fun i : Nat => (i : Int)).map V.int).length < sizeLine := by
      rw [List.length_map, List.length_map]
      refine lt_line (Nat.le_trans (List.length_filter_le _ _) ?_)
      rw [List.length_range]; omega
    refine hs i H _ (fun H3 => i + 1 ≤ n ∧ Same H1 H3 ∧ H3 D = some (.lst ((((List.range (i + 1)).filter p).map fun i : Nat => (i : Int)).map V.int))) hi sm (fun c H' s' => ⟨_, s' _ _ eD, hl, hi, same_upd (sm.trans s') hD _, ?_⟩) (fun c H' s' => ⟨hi, sm.trans s', ?_⟩)
    · rw [upd_same, st, if_pos c, List.map_append, List.map_append, Int.zero_add]; rfl
    · rw [st, c, if_neg Bool.false_ne_true, List.append_nil]; exact s' _ _ eD
  · rintro H ⟨_, sm, eD⟩
    exact hd H sm eD
end
section
variable {K : PySem.W.Frag} {g : TG} {tt : TT} {te : TE} {vs : List Nat} {σ : L2.St} {H1 : Hp} {D : Addr} {Qd : Hp → Prop}
/-- some True or False for each -/
theorem lc_boolR {n : Nat} (hlen : n ≤ 1000) (hD : H1 D = none)
    (hs : ∀ (i : Nat) H (k : V → Hp → Prop) (nn : Hp → Prop), i < n → Same H1 H → (∀ (b : Bool) H', Same H H' → k (.bl b) H') → g (.int (0 + i)) (wipe σ vs) H fun σ2 H2 => wipe σ2 vs = wipe σ vs ∧ tt σ2 H2 fun b H3 => if b = true then te σ2 H3 k else nn H3)
    (hd : ∀ H' (bs : List Bool), Same H1 H' → bs.length = n → H' D = some (.lst (bs.map V.bl)) → Qd H') :
    ∃ W : Nat → Nat → Hp → Prop, (∃ m, W 0 m (upd H1 D (.lst []))) ∧ ∀ i m H, W i m H →
      ((Itr 0 n).stop i H ∧ Qd H) ∨ ((Itr 0 n).go i H ∧ ∃ Nx : Hp → Prop, (∀ H', Nx H' → ∃ m', m' < m ∧ W (i + 1) m' H') ∧ ∀ x H', (Itr 0 n).yld i H x H' → g x (wipe σ vs) H' fun σ2 H2 => wipe σ2 vs = wipe σ vs ∧ tt σ2 H2 fun b H3 =>
        if b = true then te σ2 H3 fun y H4 => ∃ acc, H4 D = some (.lst acc) ∧ acc.length < sizeLine ∧ Nx (upd H4 D (.lst (acc ++ [y]))) else Nx H3) := by
  refine lc_range (lo := 0) (n := n) (fun i H => i ≤ n ∧ Same H1 H ∧ ∃ bs : List Bool, bs.length = i ∧ H D = some (.lst (bs.map V.bl))) ⟨Nat.zero_le _, same_new hD _, [], rfl, upd_same⟩ ?_ ?_
  · rintro i H hi ⟨_, sm, bs, lb, eD⟩
    refine hs i H _ (fun H3 => i + 1 ≤ n ∧ Same H1 H3 ∧ ∃ bs : List Bool, bs.length = i + 1 ∧ H3 D = some (.lst (bs.map V.bl))) hi sm fun b H' s' => ⟨_, s' _ _ eD, by rw [List.length_map, lb]; exact lt_line (by omega), hi, same_upd (sm.trans s') hD _, bs ++ [b], by rw [List.length_append, lb]; rfl, ?_⟩
    rw [upd_same, List.map_append]; rfl
  · rintro H ⟨_, sm, bs, lb, eD⟩
    exact hd H bs sm lb eD
/-- a value for each, while the heap grows -/
theorem lc_growR {n : Nat} (f : Nat → V) (hlen : n ≤ 1000) (hD : H1 D = none)
    (hs : ∀ (i : Nat) H (k : V → Hp → Prop) (nn : Hp → Prop), i < n → Same H1 H → (∀ H', Same H H' → k (f i) H') → g (.int (0 + i)) (wipe σ vs) H fun σ2 H2 => wipe σ2 vs = wipe σ vs ∧ tt σ2 H2 fun b H3 => if b = true then te σ2 H3 k else nn H3)
    (hd : ∀ H', Same H1 H' → H' D = some (.lst ((List.range n).map f)) → Qd H') :
    ∃ W : Nat → Nat → Hp → Prop, (∃ m, W 0 m (upd H1 D (.lst []))) ∧ ∀ i m H, W i m H →
      ((Itr 0 n).stop i H ∧ Qd H) ∨ ((Itr 0 n).go i H ∧ ∃ Nx : Hp → Prop, (∀ H', Nx H' → ∃ m', m' < m ∧ W (i + 1) m' H') ∧ ∀ x H', (Itr 0 n).yld i H x H' → g x (wipe σ vs) H' fun σ2 H2 => wipe σ2 vs = wipe σ vs ∧ tt σ2 H2 fun b H3 =>
        if b = true then te σ2 H3 fun y H4 => ∃ acc, H4 D = some (.lst acc) ∧ acc.length < sizeLine ∧ Nx (upd H4 D (.lst (acc ++ [y]))) else Nx H3) := by
  refine lc_range (lo := 0) (n := n) (fun i H => i ≤ n ∧ Same H1 H ∧ H D = some (.lst ((List.range i).map f))) ⟨Nat.zero_le _, same_new hD _, upd_same⟩ ?_ ?_
  · rintro i H hi ⟨_, sm, eD⟩
    refine hs i H _ (fun H3 => i + 1 ≤ n ∧ Same H1 H3 ∧ H3 D = some (.lst ((List.range (i + 1)).map f))) hi sm fun H' s' => ⟨_, s' _ _ eD, by rw [List.length_map, List.length_range]; exact lt_line (by omega), hi, same_upd (sm.trans s') hD _, ?_⟩
    rw [upd_same, List.range_succ, List.map_append]; rfl
  · rintro H ⟨_, sm, eD⟩
    exact hd H sm eD
variable {a : Addr} {xs : List V}
theorem lc_growL (f : Nat → V → V) (hlen : xs.length ≤ 1000) (hS : SqL K H1 a xs) (hD : H1 D = none)
    (hs : ∀ (i : Nat) x H (k : V → Hp → Prop) (n : Hp → Prop), xs[i]? = some x → Same H1 H → (∀ H', Same H H' → k (f i x) H') → g x (wipe σ vs) H fun σ2 H2 => wipe σ2 vs = wipe σ vs ∧ tt σ2 H2 fun b H3 => if b = true then te σ2 H3 k else n H3)
    (hd : ∀ H', Same H1 H' → H' D = some (.lst (xs.mapIdx f)) → Qd H') :
    ∃ W : Nat → Nat → Hp → Prop, (∃ m, W 0 m (upd H1 D (.lst []))) ∧ ∀ i m H, W i m H →
      ((Itl K a).stop i H ∧ Qd H) ∨ ((Itl K a).go i H ∧ ∃ Nx : Hp → Prop, (∀ H', Nx H' → ∃ m', m' < m ∧ W (i + 1) m' H') ∧ ∀ x H', (Itl K a).yld i H x H' → g x (wipe σ vs) H' fun σ2 H2 => wipe σ2 vs = wipe σ vs ∧ tt σ2 H2 fun b H3 =>
        if b = true then te σ2 H3 fun y H4 => ∃ acc, H4 D = some (.lst acc) ∧ acc.length < sizeLine ∧ Nx (upd H4 D (.lst (acc ++ [y]))) else Nx H3) := by
  refine lc_list (xs := xs) (fun i H => Same H1 H ∧ H D = some (.lst ((xs.mapIdx f).take i))) ⟨same_new hD _, upd_same⟩ (fun i H _ z => z.1.seq hS) ?_ ?_
  · rintro i x H hx ⟨sm, eD⟩
    have hm : (xs.mapIdx f)[i]? = some (f i x) := by rw [List.getElem?_mapIdx, hx]; rfl
    have hl : ((xs.mapIdx f).take i).length < sizeLine := lt_line (Nat.le_trans (List.length_take_le _ _) (Nat.le_of_lt (Nat.lt_of_lt_of_le (lt_of_at hx) hlen)))
    refine hs i x H _ (fun H3 => Same H1 H3 ∧ H3 D = some (.lst ((xs.mapIdx f).take (i + 1)))) hx sm fun H' s' => ⟨_, s' _ _ eD, hl, same_upd (sm.trans s') hD _, ?_⟩
    rw [upd_same, tk1 hm]
  · rintro H ⟨sm, eD⟩
    refine hd H sm ?_
    rw [eD, List.take_of_length_le (by rw [List.length_mapIdx]; exact Nat.le_refl _)]
end
theorem const_range (c : V) : ∀ n : Nat, (List.range n).map (fun _ => c) = List.replicate n c
  | 0 => rfl
  | n + 1 => by rw [List.range_succ, List.map_append, const_range c n, List.replicate_succ']; rfl
theorem rep_map (c : Int) (n : Nat) : (List.replicate n c).map V.int = List.replicate n (.int c) := by rw [List.map_replicate]
theorem at_int {xs : List Int} {j : Int} (h0 : 0 ≤ j) (h1 : j < (xs.length : Nat)) : ∃ x, atI (xs.map V.int) j = some (.int x) ∧ x ∈ xs := by
  obtain ⟨n, rfl⟩ : ∃ n : Nat, j = (n : Int) := ⟨j.toNat, by omega⟩
  have hn : n < xs.length := by omega
  exact ⟨xs[n], atI_nat (at_map (List.getElem?_eq_getElem hn)), List.getElem_mem hn⟩
theorem ixNn {n j : Nat} (hj : j < n) : ixN n (j : Int) = some j := by
  unfold ixN
  rw [if_pos (by omega), if_pos (by omega), Int.toNat_natCast]
theorem pr_mapR {α β γ : Type} {F : α → β → Prop} {G : α → γ → Prop} {f : β → γ} {as : List α} {bs : List β} (h : Paired F as bs) (k : ∀ a b, F a b → G a (f b)) : Paired G as (bs.map f) := by
  induction h with
  | nil => exact .nil
  | cons r _ ih => exact .cons (k _ _ r) ih
end GM
set_option Elab.async false
set_option maxRecDepth 100000
namespace GM
open PySem L2
/-! ### the numbers of an attractor, round by round -/
def nums0 (gs : List Bool) : List (Option Nat) := gs.map fun b => if b = true then some 0 else none
def nearL (rows : List (List Int)) (ins : List Bool) (v : Nat) : List Int := (rows.getD v []).filter fun u => ins.getD u.toNat false
def doneL (nums : List (Option Nat)) (l : List Int) : List Int := l.filter fun u => (nums.getD u.toNat none).isSome
def fz (ow : List Int) (rows : List (List Int)) (who : Int) (ins : List Bool) (nums : List (Option Nat)) (v : Nat) : Bool :=
  ins.getD v false && (nums.getD v none).isNone && (decide (0 < (doneL nums (nearL rows ins v)).length) && (decide (ow.getD v 0 = who) || decide ((doneL nums (nearL rows ins v)).length = (nearL rows ins v).length)))
def fr (n : Nat) (ow : List Int) (rows : List (List Int)) (who : Int) (ins : List Bool) (nums : List (Option Nat)) : List Nat := (List.range n).filter (fz ow rows who ins nums)
def setAll (t : Nat) (nums : List (Option Nat)) (vs : List Nat) : List (Option Nat) := vs.foldl (fun a v => a.set v (some t)) nums
def FF (n : Nat) (ow : List Int) (rows : List (List Int)) (who : Int) (ins gs : List Bool) : Nat → List (Option Nat)
  | 0 => nums0 gs
  | t + 1 => setAll (t + 1) (FF n ow rows who ins gs t) (fr n ow rows who ins (FF n ow rows who ins gs t))
theorem setAll_len (t : Nat) (vs : List Nat) : ∀ nums, (setAll t nums vs).length = nums.length := by
  induction vs with
  | nil => exact fun _ => rfl
  | cons v vs ih => exact fun nums => (ih (nums.set v (some t))).trans List.length_set
theorem setAll_get (t : Nat) (vs : List Nat) : ∀ (nums : List (Option Nat)) (j : Nat), j < nums.length → (setAll t nums vs)[j]? = if j ∈ vs then some (some t) else nums[j]? := by
  induction vs with
  | nil => intro nums j _; rw [if_neg List.not_mem_nil]; rfl
  | cons v vs ih =>
    intro nums j hj
    show (setAll t (nums.set v (some t)) vs)[j]? = _
    rw [ih _ j (by rw [List.length_set]; exact hj), List.getElem?_set]
    by_cases h1 : j ∈ vs
    · rw [if_pos h1, if_pos (List.mem_cons_of_mem _ h1)]
    · rw [if_neg h1]
      by_cases h2 : v = j
      · subst h2
        rw [if_pos rfl, if_pos hj, if_pos List.mem_cons_self]
      · rw [if_neg h2, if_neg (fun h => (List.mem_cons.mp h).elim (fun e => h2 e.symm) h1)]
theorem setAll_snoc (t : Nat) (nums : List (Option Nat)) (vs : List Nat) (v : Nat) : setAll t nums (vs ++ [v]) = (setAll t nums vs).set v (some t) := by
  unfold setAll
  rw [List.foldl_append]
  rfl
def nn (l : List (Option Nat)) : Nat := l.countP (·.isNone)
theorem nn_set (t : Nat) : ∀ (l : List (Option Nat)) (v : Nat), nn (l.set v (some t)) ≤ nn l ∧ (l[v]? = some none → nn (l.set v (some t)) + 1 = nn l)
  | [], v => ⟨Nat.le_refl _, fun h => by simp at h⟩
  | none :: l, 0 => by
    have e1 : nn ((none :: l).set 0 (some t)) = nn l := by unfold nn; rw [List.set_cons_zero, List.countP_cons_of_neg (by simp)]
    have e2 : nn (none :: l) = nn l + 1 := by unfold nn; rw [List.countP_cons_of_pos (by simp)]
    exact ⟨by omega, fun _ => by omega⟩
  | some x :: l, 0 => by
    have e1 : nn ((some x :: l).set 0 (some t)) = nn l := by unfold nn; rw [List.set_cons_zero, List.countP_cons_of_neg (by simp)]
    have e2 : nn (some x :: l) = nn l := by unfold nn; rw [List.countP_cons_of_neg (by simp)]
    exact ⟨by omega, fun h => by simp at h⟩
  | y :: l, v + 1 => by
    obtain ⟨h1, h2⟩ := nn_set t l v
    have e : ∀ l' : List (Option Nat), nn (y :: l') = nn l' + (if y.isNone = true then 1 else 0) := fun l' => by unfold nn; rw [List.countP_cons]
    rw [List.set_cons_succ, e, e]
    refine ⟨by omega, fun h => ?_⟩
    have := h2 (by simpa using h)
    omega
theorem nn_setAll (t : Nat) (vs : List Nat) : ∀ nums, nn (setAll t nums vs) ≤ nn nums := by
  induction vs with
  | nil => exact fun _ => Nat.le_refl _
  | cons v vs ih => exact fun nums => Nat.le_trans (ih _) (nn_set t nums v).1
section
variable {n : Nat} {ow : List Int} {rows : List (List Int)} {who : Int} {ins gs : List Bool}
theorem FF_len (hg : gs.length = n) : ∀ t, (FF n ow rows who ins gs t).length = n
  | 0 => (List.length_map _).trans hg
  | t + 1 => (setAll_len _ _ _).trans (FF_len hg t)
theorem fr_none {nums : List (Option Nat)} (hl : nums.length = n) {v : Nat} (h : v ∈ fr n ow rows who ins nums) : v < n ∧ nums[v]? = some none := by
  obtain ⟨h1, h2⟩ := List.mem_filter.mp h
  have hv := List.mem_range.mp h1
  refine ⟨hv, ?_⟩
  unfold fz at h2
  rw [Bool.and_eq_true, Bool.and_eq_true] at h2
  have h3 := h2.1.2
  rw [List.getD_eq_getElem?_getD, List.getElem?_eq_getElem (by omega)] at h3
  rw [List.getElem?_eq_getElem (by omega)]
  exact congrArg some (Option.isNone_iff_eq_none.mp h3)
theorem FF_less (hg : gs.length = n) (t : Nat) (h : fr n ow rows who ins (FF n ow rows who ins gs t) ≠ []) : nn (FF n ow rows who ins gs (t + 1)) + 1 ≤ nn (FF n ow rows who ins gs t) := by
  show nn (setAll (t + 1) (FF n ow rows who ins gs t) (fr n ow rows who ins (FF n ow rows who ins gs t))) + 1 ≤ _
  cases e : fr n ow rows who ins (FF n ow rows who ins gs t) with
  | nil => exact absurd e h
  | cons v vs =>
    have hv := (fr_none (FF_len hg t) (by rw [e]; exact List.mem_cons_self)).2
    have h1 := (nn_set (t + 1) _ v).2 hv
    have h2 := nn_setAll (t + 1) vs ((FF n ow rows who ins gs t).set v (some (t + 1)))
    show nn (setAll (t + 1) ((FF n ow rows who ins gs t).set v (some (t + 1))) vs) + 1 ≤ _
    omega
theorem FF_count (hg : gs.length = n) : ∀ t, (∀ s, s < t → fr n ow rows who ins (FF n ow rows who ins gs s) ≠ []) → nn (FF n ow rows who ins gs t) + t ≤ n
  | 0, _ => by
    have := List.countP_le_length (p := (·.isNone)) (l := FF n ow rows who ins gs 0)
    have e := FF_len (n := n) (ow := ow) (rows := rows) (who := who) (ins := ins) hg 0
    show nn _ + 0 ≤ n
    unfold nn
    omega
  | t + 1, h => by
    have h1 := FF_count hg t fun s hs => h s (by omega)
    have h2 := FF_less (ow := ow) (rows := rows) (who := who) (ins := ins) hg t (h t (Nat.lt_succ_self t))
    omega
theorem nn_zero {l : List (Option Nat)} (h : nn l = 0) {v : Nat} : l[v]? ≠ some none := fun e => by
  have := List.countP_eq_zero.mp h _ (List.mem_of_getElem? e)
  simp at this
theorem fr_end (hg : gs.length = n) (h : ∀ s, s < n → fr n ow rows who ins (FF n ow rows who ins gs s) ≠ []) : fr n ow rows who ins (FF n ow rows who ins gs n) = [] := by
  have h1 := FF_count (ow := ow) (rows := rows) (who := who) (ins := ins) hg n h
  cases e : fr n ow rows who ins (FF n ow rows who ins gs n) with
  | nil => rfl
  | cons v vs => exact absurd (fr_none (FF_len hg n) (by rw [e]; exact List.mem_cons_self)).2 (nn_zero (by omega))
/-- where the rounds end -/
def IsFix (n : Nat) (ow : List Int) (rows : List (List Int)) (who : Int) (ins gs : List Bool) (nums : List (Option Nat)) : Prop := ∃ t, nums = FF n ow rows who ins gs t ∧ fr n ow rows who ins (FF n ow rows who ins gs t) = []
theorem FF_stay {t : Nat} (h : fr n ow rows who ins (FF n ow rows who ins gs t) = []) : ∀ k, FF n ow rows who ins gs (t + k) = FF n ow rows who ins gs t
  | 0 => rfl
  | k + 1 => by
    show setAll (t + k + 1) (FF n ow rows who ins gs (t + k)) (fr n ow rows who ins (FF n ow rows who ins gs (t + k))) = _
    rw [FF_stay h k, h]
    rfl
theorem IsFix.eq {a b : List (Option Nat)} (ha : IsFix n ow rows who ins gs a) (hb : IsFix n ow rows who ins gs b) : a = b := by
  obtain ⟨s, rfl, h1⟩ := ha
  obtain ⟨t, rfl, h2⟩ := hb
  rcases Nat.le_total s t with h | h
  · obtain ⟨k, rfl⟩ := Nat.le.dest h
    exact (FF_stay h1 k).symm
  · obtain ⟨k, rfl⟩ := Nat.le.dest h
    exact FF_stay h2 k
end
def oV : Option Nat → V
  | none => .non
  | some k => .int (k : Int)
def intP (f : Int → Bool) : V → Bool
  | .int u => f u
  | _ => false
theorem filter_int (f : Int → Bool) (l : List Int) : (l.map V.int).filter (intP f) = (l.filter f).map V.int := by
  rw [List.filter_map]
  rfl
end GM
set_option Elab.async false
set_option linter.all false
set_option maxRecDepth 100000
set_option maxHeartbeats 4000000
namespace GM
open PySem PySem.Spec PyProof.Rows L2
section
variable {K : PySem.W.Frag} {g : TG} {tt : TT} {te : TE} {vs : List Nat} {σ : L2.St} {H1 : Hp} {D : Addr} {Qd : Hp → Prop}
/-- a new object for each, told by a relation -/
theorem lc_relR {n : Nat} (R : Nat → HO → Prop) (hlen : n ≤ 1000) (hD : H1 D = none)
    (hs : ∀ (i : Nat) H (k : V → Hp → Prop) (nn : Hp → Prop), i < n → Same H1 H → (∀ p o H', Same H H' → H p = none → H' p = some o → R i o → k (.ref p) H') → g (.int (0 + i)) (wipe σ vs) H fun σ2 H2 => wipe σ2 vs = wipe σ vs ∧ tt σ2 H2 fun b H3 => if b = true then te σ2 H3 k else nn H3)
    (hd : ∀ H' (ps : List Addr), Same H1 H' → H' D = some (.lst (ps.map V.ref)) → Paired (fun p i => ∃ o, H' p = some o ∧ R i o) ps (List.range n) → Qd H') :
    ∃ W : Nat → Nat → Hp → Prop, (∃ m, W 0 m (upd H1 D (.lst []))) ∧ ∀ i m H, W i m H →
      ((Itr 0 n).stop i H ∧ Qd H) ∨ ((Itr 0 n).go i H ∧ ∃ Nx : Hp → Prop, (∀ H', Nx H' → ∃ m', m' < m ∧ W (i + 1) m' H') ∧ ∀ x H', (Itr 0 n).yld i H x H' → g x (wipe σ vs) H' fun σ2 H2 => wipe σ2 vs = wipe σ vs ∧ tt σ2 H2 fun b H3 =>
        if b = true then te σ2 H3 fun y H4 => ∃ acc, H4 D = some (.lst acc) ∧ acc.length < sizeLine ∧ Nx (upd H4 D (.lst (acc ++ [y]))) else Nx H3) := by
  refine lc_range (lo := 0) (n := n) (fun i H => i ≤ n ∧ Same H1 H ∧ ∃ ps : List Addr, H D = some (.lst (ps.map V.ref)) ∧ Paired (fun p i => p ≠ D ∧ ∃ o, H p = some o ∧ R i o) ps (List.range i)) ⟨Nat.zero_le _, same_new hD _, [], upd_same, .nil⟩ ?_ ?_
  · rintro i H hi ⟨_, sm, ps, eD, pw⟩
    have lp : ps.length = i := by rw [pw.length, List.length_range]
    refine hs i H _ (fun H3 => i + 1 ≤ n ∧ Same H1 H3 ∧ ∃ ps : List Addr, H3 D = some (.lst (ps.map V.ref)) ∧ Paired (fun p i => p ≠ D ∧ ∃ o, H3 p = some o ∧ R i o) ps (List.range (i + 1))) hi sm fun p o H' s' hp e' r => ⟨_, s' _ _ eD, ?_, hi, same_upd (sm.trans s') hD _, ps ++ [p], ?_, ?_⟩
    · rw [List.length_map, lp]; exact lt_line (by omega)
    · rw [upd_same, List.map_append]; rfl
    · rw [List.range_succ]
      have hpD : p ≠ D := fun z => by rw [z, eD] at hp; cases hp
      exact (L2.Paired.mapP pw fun b j ⟨z, u, e, r⟩ => ⟨z, u, by rw [upd_ne z]; exact s' _ _ e, r⟩).snoc ⟨hpD, o, by rw [upd_ne hpD]; exact e', r⟩
  · rintro H ⟨_, sm, ps, eD, pw⟩
    exact hd H ps sm eD (L2.Paired.mapP pw fun _ _ z => z.2)
variable {a : Addr} {xs : List Int}
theorem lc_mapI (f : Int → Int) (hlen : xs.length ≤ 1000) (hS : SqL K H1 a (xs.map V.int)) (hD : H1 D = none)
    (hs : ∀ (i : Nat) z H (k : V → Hp → Prop) (n : Hp → Prop), xs[i]? = some z → Same H1 H → k (.int (f z)) H → g (.int z) (wipe σ vs) H fun σ2 H2 => wipe σ2 vs = wipe σ vs ∧ tt σ2 H2 fun b H3 => if b = true then te σ2 H3 k else n H3)
    (hd : ∀ H', Same H1 H' → H' D = some (.lst ((xs.map f).map V.int)) → Qd H') :
    ∃ W : Nat → Nat → Hp → Prop, (∃ m, W 0 m (upd H1 D (.lst []))) ∧ ∀ i m H, W i m H →
      ((Itl K a).stop i H ∧ Qd H) ∨ ((Itl K a).go i H ∧ ∃ Nx : Hp → Prop, (∀ H', Nx H' → ∃ m', m' < m ∧ W (i + 1) m' H') ∧ ∀ x H', (Itl K a).yld i H x H' → g x (wipe σ vs) H' fun σ2 H2 => wipe σ2 vs = wipe σ vs ∧ tt σ2 H2 fun b H3 =>
        if b = true then te σ2 H3 fun y H4 => ∃ acc, H4 D = some (.lst acc) ∧ acc.length < sizeLine ∧ Nx (upd H4 D (.lst (acc ++ [y]))) else Nx H3) := by
  refine lc_list (xs := xs.map V.int) (fun i H => Same H1 H ∧ H D = some (.lst (((xs.map f).map V.int).take i))) ⟨same_new hD _, upd_same⟩ (fun i H _ z => z.1.seq hS) ?_ ?_
  · rintro i x H hx ⟨sm, eD⟩
    obtain ⟨z, hz, rfl⟩ := map_at hx
    have hm : ((xs.map f).map V.int)[i]? = some (.int (f z)) := at_map (by rw [List.getElem?_map, hz]; rfl)
    have hl : (((xs.map f).map V.int).take i).length < sizeLine := lt_line (Nat.le_trans (List.length_take_le _ _) (Nat.le_of_lt (Nat.lt_of_lt_of_le (lt_of_at hz) hlen)))
    refine hs i z H _ (fun H3 => Same H1 H3 ∧ H3 D = some (.lst (((xs.map f).map V.int).take (i + 1)))) hz sm ⟨_, eD, hl, same_upd sm hD _, ?_⟩
    rw [upd_same, tk1 hm]
  · rintro H ⟨sm, eD⟩
    refine hd H sm ?_
    rw [eD, List.take_of_length_le (by rw [List.length_map, List.length_map, List.length_map]; exact Nat.le_refl _)]
end
/-- list(xs), named -/
def rLst (K : PySem.W.Frag) : List V → Hp → VK → Prop := fun xs H Q => ∃ p ys, xs = [.ref p] ∧ (SqL K H p ys ∨ SqT K H p ys) ∧ ∀ l, H l = none → Q (.ref l) (upd H l (.lst ys))
/-! ### data that can be compared -/
def Ly (N : Nat) (d : PyData) : Prop := d.canLay0 = true ∧ d.depth ≤ N
theorem ly_all {N : Nat} : ∀ {ds : List PyData}, (∀ d ∈ ds, Ly N d) → PyData.canLayAll0 ds = true ∧ PyData.depthAll ds ≤ N
  | [], _ => ⟨rfl, Nat.zero_le _⟩
  | d :: ds, h => by
    obtain ⟨i1, i2⟩ := ly_all (ds := ds) fun e he => h e (List.mem_cons_of_mem _ he)
    obtain ⟨h1, h2⟩ := h d List.mem_cons_self
    refine ⟨?_, ?_⟩
    · show (d.canLay0 && PyData.canLayAll0 ds) = true
      rw [h1, i1]; rfl
    · show max d.depth (PyData.depthAll ds) ≤ N
      omega
theorem ly_list {N : Nat} {ds : List PyData} (h : ∀ d ∈ ds, Ly N d) : Ly (N + 1) (.list ds) := by
  obtain ⟨a, b⟩ := ly_all h
  exact ⟨a, by show PyData.depthAll _ + 1 ≤ _; omega⟩
theorem ly_tup {N : Nat} {ds : List PyData} (h : ∀ d ∈ ds, Ly N d) : Ly (N + 1) (.tuple ds) := by
  obtain ⟨a, b⟩ := ly_all h
  exact ⟨a, by show PyData.depthAll _ + 1 ≤ _; omega⟩
theorem ly_ints (ns : List Int) : ∀ d ∈ ns.map PyData.int, Ly 0 d := fun d hd => by
  obtain ⟨i, _, rfl⟩ := List.mem_map.mp hd
  exact ⟨rfl, Nat.le_refl _⟩
theorem ly_shaped {N : Nat} {d : PyData} (h : Ly N d) (hN : N ≤ 64) : PySem.SeqAt.shaped d = true := by
  unfold PySem.SeqAt.shaped
  rw [h.1, decide_eq_true (Nat.le_trans h.2 hN)]
  rfl
theorem ly_refl {N : Nat} {d : PyData} (h : Ly N d) : PyData.eqv d d = true := PySem.SeqAt.eqv_refl _ h.1
theorem Ly.up {N M : Nat} {d : PyData} (h : Ly N d) (l : N ≤ M) : Ly M d := ⟨h.1, Nat.le_trans h.2 l⟩
theorem dp_tupI {K : PySem.W.Frag} {H : Hp} {a : Addr} {ns : List Int} (e : H a = some (.tup (ns.map V.int))) : Dp K H (.ref a) (.tuple (ns.map PyData.int)) := .tup (sqT e) (dp_ints ns)
def rowsD (rows : List (List Int)) : List PyData := rows.map fun r => .tuple (r.map PyData.int)
theorem dp_rows {K : PySem.W.Frag} {H : Hp} : ∀ {ts : List Addr} {rows : List (List Int)}, Paired (fun t xs => H t = some (.tup (xs.map V.int))) ts rows → DpAll K H (ts.map V.ref) (rowsD rows)
  | _, _, .nil => .nil
  | _, _, .cons h k => .cons (dp_tupI h) (dp_rows k)
theorem ly_rows (rows : List (List Int)) : ∀ d ∈ rowsD rows, Ly 1 d := fun d hd => by
  obtain ⟨r, _, rfl⟩ := List.mem_map.mp hd
  exact ly_tup (ly_ints r)
/-- two results, one for each player -/
def DueAt (H : Hp) (du : Addr) (F : Int → List (Option Nat) → Prop) : Prop := ∃ t0 t1 N0 N1, H du = some (.lst [.ref t0, .ref t1]) ∧ H t0 = some (.tup (N0.map oV)) ∧ H t1 = some (.tup (N1.map oV)) ∧ F 0 N0 ∧ F 1 N1
theorem DueAt.same {H H' : Hp} {du : Addr} {F : Int → List (Option Nat) → Prop} (h : DueAt H du F) (s : Same H H') : DueAt H' du F := by
  obtain ⟨t0, t1, N0, N1, a, b, c, d, e⟩ := h
  exact ⟨t0, t1, N0, N1, s _ _ a, s _ _ b, s _ _ c, d, e⟩
theorem DueAt.at {K : PySem.W.Frag} {H : Hp} {du : Addr} {F : Int → List (Option Nat) → Prop} (h : DueAt H du F) {w : Int} (hw : w = 0 ∨ w = 1) : ∃ t N xs, SqL K H du xs ∧ atI xs w = some (.ref t) ∧ H t = some (.tup (N.map oV)) ∧ F w N := by
  obtain ⟨t0, t1, N0, N1, a, b, c, d, e⟩ := h
  rcases hw with rfl | rfl
  · exact ⟨t0, N0, _, SqL.of a, rfl, b, d⟩
  · exact ⟨t1, N1, _, SqL.of a, rfl, c, e⟩
theorem due_of {H : Hp} {du : Addr} {ps : List Addr} {F : Int → List (Option Nat) → Prop} (e : H du = some (.lst (ps.map V.ref))) (pw : Paired (fun p i => ∃ o, H p = some o ∧ ∃ N, o = .tup (N.map oV) ∧ F ((i : Nat) : Int) N) ps (List.range 2)) : DueAt H du F := by
  rw [show List.range 2 = [0, 1] from rfl] at pw
  cases pw with
  | cons h0 r =>
    cases r with
    | cons h1 r1 =>
      cases r1 with
      | nil =>
        obtain ⟨_, e0, N0, rfl, f0⟩ := h0
        obtain ⟨_, e1, N1, rfl, f1⟩ := h1
        exact ⟨_, _, N0, N1, e, e0, e1, f0, f1⟩
theorem fix_congr {n : Nat} {ow ow' : List Int} {rows : List (List Int)} {who who' : Int} {ins gs : List Bool} {nums : List (Option Nat)} (h : ∀ v, v < n → decide (ow.getD v 0 = who) = decide (ow'.getD v 0 = who')) (hx : IsFix n ow rows who ins gs nums) : IsFix n ow' rows who' ins gs nums := by
  have hf : ∀ N, fr n ow rows who ins N = fr n ow' rows who' ins N := fun N => List.filter_congr fun v hv => by
    have := h v (List.mem_range.mp hv)
    unfold fz
    rw [this]
  have hF : ∀ t, FF n ow rows who ins gs t = FF n ow' rows who' ins gs t := by
    intro t
    induction t with
    | zero => rfl
    | succ t ih =>
      show setAll (t + 1) (FF n ow rows who ins gs t) (fr n ow rows who ins (FF n ow rows who ins gs t)) = setAll (t + 1) (FF n ow' rows who' ins gs t) (fr n ow' rows who' ins (FF n ow' rows who' ins gs t))
      rw [hf, ih]
  obtain ⟨t, e, z⟩ := hx
  exact ⟨t, e.trans (hF t), by rw [← hF t, ← hf]; exact z⟩
end GM
set_option Elab.async false
set_option linter.all false
set_option maxRecDepth 100000
set_option maxHeartbeats 4000000
namespace GM
open PySem PySem.Spec PyProof.Rows L2
/-! ### defs that are called while no repr is under way -/
structure FnG (P : Program) (w : World) (K : PySem.W.Frag) (mg : Str → Option Value) (g : Heap) (CX : CXT) (k : Nat) (f : Addr) (fd : FuncData) (ps : List Str) (sp : Sp) : Prop where
  len : ∀ vs H Q E, sp vs H Q E → vs.length = ps.length
  run : ∀ (B : Around) (out : List Env) (t : Shared) (H : Hp) (ar : Args) (us : List Value) (vs : List V) (Q : VK) (E : XK), B.guards = some [] → Room k B → Env0 P w K mg g B out t H → BindsTo t fd ar (ps.zip us) → Vals vs us →
    sp vs H Q E → codeAny (model P w) B (.call (.ref f) ar) (CR CX out P w H t Q E) t
theorem guards_deeper {B : Around} {env : Env} (h : B.guards = some []) : (B.deeper env).guards = some [] := h
theorem FnG.of_body {CX : CXT} {P : Program} {w : World} {K : PySem.W.Frag} {mg : Str → Option Value} {g : Heap} {k : Nat} {f : Addr} {nm qn : Str} {pa : Arguments} {bd : List Stmt} {sc : Scope} {dV kV doc pm cdv ct oc : Value} {an od : Option Addr}
    {sl : Array (Option Value)} {N ps : List Str} {sp : Sp} (lk : K.lookup f = some ⟨oc, od, .func (PySem.W.fnOf nm qn pa bd sc dV kV doc pm an cdv ct), sl⟩) (hcd : PySem.W.codeIn K cdv qn = true) (S : FnScope N ps sc)
    (ln : ∀ vs H Q E, sp vs H Q E → vs.length = ps.length)
    (hb : ∀ (B : Around) (out : List Env) (t : Shared) (H : Hp) (vs : List V) (Q : VK) (E : XK), B.guards = some [] → Room k (B.deeper (envOfC qn sc t.heap.objs.size f cdv)) → sp vs H Q E →
      ∃ r, PSs (cxOf CX P w K mg g N qn sc f cdv B out t H E) bd r ∧ r { nx := fun _ H' => Q .non H', rt := Q } (start N vs) H) :
    FnG P w K mg g CX (k + 1) f (PySem.W.fnOf nm qn pa bd sc dV kV doc pm an cdv ct) ps sp where
  len := ln
  run := by
    intro B out t H ar us vs Q E hg hr env bt rv hsp
    have lv := ln _ _ _ _ hsp
    have kin : K.In t.heap := env.mod.kin.keeps fun b o e => (env.bs b o e).1
    have nol : t.heap.NoLimit := env.mod.nolimit.keeps fun b o e => (env.bs b o e).1
    have kinds : ∀ y ∈ ps.zip us, sc.names.lookup y.1 = some .local ∨ (sc.names.lookup y.1 = some .cell ∧ ((cellsFrom (t.heap.objs.size + 1) sc.names []).lookup y.1).isSome = true) := by
      rintro ⟨n, v⟩ hy
      rcases S.par n (List.of_mem_zip hy).1 with c | c
      · exact Or.inl c
      · exact Or.inr ⟨c, PySem.W.cellsFrom_some _ _ _ (Or.inl c)⟩
    apply codeAny_call_function hr.depth (kin _ _ lk) rfl S.co S.gen rfl (PySem.W.codeRec_of kin hcd) (bt _ _ _ _ ?_)
    apply wpAny_newFunctionEnv_cells S.kind kinds
    rintro e1 rfl t1 x
    refine And.intro (nol.keeps x.toInCall.keep) (codeAny_func ?_)
    obtain ⟨r, hrd, hq⟩ := hb B out t H vs Q E hg (hr.deeper _) hsp
    have I : Inv (cxOf CX P w K mg g N qn sc f cdv B out t H E) [] (start N vs) H t1 := inv_start S hr.hd env lv rv x
    have fin : ∀ {σ1 : L2.St} {H1 : Hp} {z : V} {u : Value} {t2 : Shared}, Inv (cxOf CX P w K mg g N qn sc f cdv B out t H E) [] σ1 H1 t2 → RelV z u → Q z H1 → CE out P w H t Q u t2 := by
      intro σ1 H1 z u t2 J rz q
      exact ⟨z, H1, J.os, J.bare, J.base, J.hok, rz, q⟩
    apply wpAny_mono (hrd.run [] t1 (start N vs) H _ I hq)
    · intro fl t2 hs
      match fl, hs with
      | .ret u, ⟨z, σ1, H1, J, rz, q⟩ => exact fin J rz q
      | .next, ⟨σ1, H1, J, q⟩ => exact fin (z := V.non) (u := Value.none) J rfl q
      | .brk, ⟨_, _, _, q⟩ => exact q.elim
      | .cont, ⟨_, _, _, q⟩ => exact q.elim
    · exact fun _ _ hs => hs
theorem okG {P : Program} {w : World} {K : PySem.W.Frag} {mg : Str → Option Value} {g : Heap} {x qn : Str} {st : Stmt} {f : Addr} {fd : FuncData} {N ps : List Str} {k : Nat} {sp : Sp} (F : Fun K x qn st f fd) (S : FnScope N ps (defScope st)) (ln : ∀ vs H Q E, sp vs H Q E → vs.length = ps.length)
    (hb : ∀ (cdv : Value) (B : Around) (out : List Env) (t : Shared) (H : Hp) (vs : List V) (Q : VK) (E : XK), B.guards = some [] → Room k (B.deeper (envOfC qn (defScope st) t.heap.objs.size f cdv)) → sp vs H Q E →
      ∃ r, PSs (cxOf CX0 P w K mg g N qn (defScope st) f cdv B out t H E).nox (defBody st) r ∧ r { nx := fun _ H' => Q .non H', rt := Q } (start N vs) H) : FnG P w K mg g CX0 (k + 1) f fd ps sp := by
  obtain ⟨oc, od, kV, doc, pm, an, cdv, ct, sl, rfl, lk, hcd⟩ := F.ex
  refine FnG.of_body lk hcd S ln fun B out t H vs Q E hg hr hsp => ?_
  obtain ⟨r, h, q⟩ := hb cdv B out t H vs Q E hg hr hsp
  exact ⟨r, h.nox, q⟩
/-- the law's own call -/
theorem walk_ofG {l : PySem.W.OpenLaw} {n k : Nat} {q : Program} {loose : List Str} {XP : (Str → Option Value) → Heap → Prop} {YP : World → Heap → Prop} {d : DefRec} {KK : Params → PySem.W.Frag} {sp : World → Sp} {x : Str}
    (hn : l.most = some n) (hn2 : n ≤ sizeLine) (hdf : d.params.defaults = []) (hr : Room k callerA)
    (hY : ∀ (w : World) (h : Heap), YP w h → (KK w.params).In h)
    (F : ∀ (w : World) (mg : Str → Option Value) (fa : Addr) (h : Heap), (KK w.params).In h → h.Ns mainGlobals mg → mg d.name = some (.ref fa) →
      ∃ fd : FuncData, (∀ (s : Shared) (u : Value), BindsTo s fd ⟨[u], []⟩ [(x, u)]) ∧ ∀ g : Heap, (KK w.params).In g → g.Ns mainGlobals mg → FnG l.prog w (KK w.params) mg g CX0 k fa fd [x] (sp w))
    (hsp : ∀ (w : World) (H : Hp) (a : Addr) (ns : List Int), ns.length ≤ n → Only H → SqL (KK w.params) H a (ns.map V.int) → sp w [.ref a] H (fun v _ => v = .bl true) fun _ _ _ => False) :
    PySem.W.WalkO q loose XP YP l.row.toRowW d [] (fun f vs => PySem.call f vs) := by
  refine Att.attach_call hn hdf ?_
  intro w s₀ s₁ mg mb fa o pm cd doc a vs ns G Y ho hd hcd hmg hobj hints hlen hgen
  have KX := hY w _ Y
  obtain ⟨fd, hbind, hF⟩ := F w mg fa _ KX G.T.g hmg
  have rv := vals_ints hints
  have lv := hints.length
  have hz : ns.length ≤ sizeLine := Nat.le_trans hlen hn2
  -- once the abstract heap tracks no more than the script
  have main : ∀ H : Hp, Only H → SqL (KK w.params) H a (ns.map V.int) → HOk l.prog w H s₁.heap → (∀ b, H b ≠ none → b = a) → (H a ≠ none → (KK w.params).lookup a = none) →
      codeAny (model l.prog w) callerA (.call (.ref fa) ⟨[.ref a], []⟩) (fun r s' => r = .ok (.ret (.bool true)) ∧ OldK s₁.heap s'.heap ∧ s'.os = s₁.os ∧ AllBare s'.gens) s₁ := by
    intro H only sq ok at_a off
    have keepB : ∀ {b : Addr} {u : Obj}, s₁.heap.get? b = some u → H b = none → (hidT s₁.heap H).get? b = some u := fun e z => hidT_get e z
    have dictFree : ∀ {b : Addr} {u : Obj} {es : Array DictEntry} {ep : Nat}, s₁.heap.get? b = some u → u.data = .dict es ep → H b = none := by
      intro b u es ep e dt
      cases c : H b with
      | none => rfl
      | some z =>
        have eb := at_a b (by rw [c]; exact Option.some_ne_none z)
        rw [eb, hobj] at e
        cases e
        have dt' : Data.seq vs.toArray _ = Data.dict es ep := dt
        cases dt'
    have nsB : ∀ {b : Addr} {m : Str → Option Value}, s₁.heap.Ns b m → (hidT s₁.heap H).Ns b m := by
      rintro b m ⟨u, es, ep, e, dt, rest⟩
      exact ⟨u, es, ep, keepB e (dictFree e dt), dt, rest⟩
    have inB : (KK w.params).In (hidT s₁.heap H) := by
      intro b u e
      refine keepB (KX b u e) ?_
      cases c : H b with
      | none => rfl
      | some z =>
        have eb := at_a b (by rw [c]; exact Option.some_ne_none z)
        subst eb
        rw [off (by rw [c]; exact Option.some_ne_none z)] at e
        cases e
    have md : Mod (KK w.params) mg (hidT s₁.heap H) := by
      refine ⟨inB, nsB G.T.g, ⟨mb, nsB G.T.b, G.T.builtins⟩, ?_⟩
      obtain ⟨mc, h1, h2⟩ := G.T.nolimit
      exact ⟨mc, nsB h1, h2⟩
    have env : Env0 l.prog w (KK w.params) mg (hidT s₁.heap H) callerA [] s₁ H := by
      refine ⟨rfl, md, fun b u e => of_hidT e, Nat.le_of_eq (hidT_size _ _), trivial, ?_, ok, .of_eq hgen⟩
      intro b hb
      exact nomatch (show b ∈ ([] : List Addr) from hb)
    have run := (hF _ inB (nsB G.T.g)).run callerA [] s₁ H ⟨[.ref a], []⟩ [.ref a] [.ref a] _ _ rfl hr env (hbind s₁ (.ref a)) (.cons rfl .nil) (hsp w H a ns hlen only sq)
    refine codeAny_mono run ?_
    intro r s' h
    match r, h with
    | .error e, h => exact False.elim h
    | .ok .next, h => exact False.elim h
    | .ok .brk, h => exact False.elim h
    | .ok .cont, h => exact False.elim h
    | .ok (.ret u), h =>
      obtain ⟨v, H', hos, hbare, hun, hok', hrv, hv⟩ := h
      have hv' : v = .bl true := hv
      rw [hv'] at hrv
      obtain rfl : u = Value.bool true := hrv
      refine ⟨rfl, OldK.of_keep fun b u e => ?_, hos, hbare⟩
      cases c : H b with
      | none => exact hun.keep b u e c (fun z => nomatch (show b ∈ ([] : List Addr) from z)) (fun z => nomatch z)
      | some z =>
        rcases only b with z1 | ⟨ob, xs, z1⟩
        · rw [c] at z1; cases z1
        · obtain ⟨e1, _⟩ := ok b _ z1
          obtain ⟨e2, _⟩ := hok' b _ (hun.frzs b ob _ z1)
          rw [e] at e1
          cases e1
          exact e2
  cases c : (KK w.params).lookup a with
  | some u =>
    have e := KX a u c
    rw [hobj] at e
    cases e
    refine main (fun _ => none) (fun _ => Or.inl rfl) (Or.inr ⟨_, vs.toArray, _, c, rfl, rfl, rfl, ?_, ?_⟩) (fun b u z => nomatch (show (none : Option HO) = some u from z)) (fun b z => absurd rfl z) (fun z => absurd rfl z)
    · rw [List.size_toArray, lv]; exact hz
    · simpa using rv
  | none =>
    refine main (fun b => if b = a then some (.frz { cls := .type "list", data := .seq vs.toArray } (.lst (ns.map V.int))) else none) ?_ (Or.inl (Or.inr ⟨{ cls := .type "list", data := .seq vs.toArray }, if_pos rfl⟩)) ?_ ?_ (fun _ => c)
    · intro b
      by_cases hb : b = a
      · exact Or.inr ⟨_, _, if_pos hb⟩
      · exact Or.inl (if_neg hb)
    · intro b u z
      by_cases hb : b = a
      · have z1 := (if_pos hb).symm.trans z
        cases z1
        subst hb
        refine ⟨hobj, ?_, vs, _, rv, hobj⟩
        rw [List.length_map]; exact hz
      · have z1 := (if_neg hb).symm.trans z
        cases z1
    · intro b z
      by_cases hb : b = a
      · exact hb
      · exact absurd (if_neg hb) z
/-! ### repr of data -/
section
variable {X : Cx}
def rRepr (K : PySem.W.Frag) : List V → Hp → VK → Prop := fun vs H Q => ∃ (a : Addr) (d : PyData), vs = [.ref a] ∧ Dp K H (.ref a) d ∧ d.showable = true ∧ d.hasDict = false ∧ d.depth ≤ 40 ∧ d.shown.length ≤ sizeLine ∧ Q (.str d.shown) H
theorem cr_repr (hg : X.A.guards = some []) (hu : X.A.units + 64 < cLine) : CallR X (.builtin "repr") (rRepr X.K) := by
  intro pins s σ H vs us Q I r h
  obtain ⟨a, d, rfl, hd, hs, hn, hdp, hz, q⟩ := h
  rw [Vals.ref1 r]
  obtain ⟨as, rd⟩ := Dp.reads I d (.ref a) (.ref a) hd rfl
  exact PySem.repr_of_reads' rd hs (PyData.noDict_hsm hn) hg (by omega) (fun _ _ e => e) (fun h' u tk hk => ⟨.str d.shown, H, I.kept (t' := tk) hk, ⟨u, rfl⟩, q⟩) hz
end
end GM
set_option Elab.async false
set_option linter.all false
set_option maxRecDepth 100000
set_option maxHeartbeats 4000000
namespace GM
open PySem PySem.Spec PyProof.Rows L2
/-! ### list(reversed(xs)), xs a list -/
section
variable {prog : Program} {w : World} {A : Around} {E : Value → Shared → Prop} {s : Shared}
theorem rv_extend {R : Result → Shared → Prop} {it l : Addr} {items : Array Value} (hh : A.handled = none) (hit : s.heap.IsRevIter it l ((items.size : Int) - 1)) (hl : s.heap.IsList l items) (hne : l ≠ it) (hn : items.size ≤ sizeLine)
    (S : Addr) (hSi : S ≠ it) (hSl : S ≠ l) (res : Value) (c0 : Nat) (hS : s.heap.get? S = some { cls := .type "list", data := .seq #[] c0 })
    (hR : ∀ h' tk acc c1, (∀ b o, b ≠ S → b ≠ it → s.heap.get? b = some o → h'.get? b = some o) → h'.get? S = some { cls := .type "list", dict := none, data := .seq acc c1, slots := #[] } → ItemsOf (fun i v => items[items.size - 1 - i]? = some v) acc items.size →
      R (.ok (.ret res)) { s with heap := h', toks := tk }) :
    wpAny (model prog w) A.in1 (Builtin.List.listExtendWith (.ref S) (.ref it) res)
      (fun fin s' => match fin with | .done f => R (.ok f) s' | .again c' => c'.quiet = true ∧ codeAny (model prog w) A c' R s') (fun e s' => R (.error e) s') s := by
  have W := (Walks.listRev (prog := prog) (w := w) (A := A.in1) hh it l hne items).toS
  have hSf : S ∉ [it, l] := by simp only [List.mem_cons, List.not_mem_nil, or_false, not_or]; exact ⟨hSi, hSl⟩
  have hT : s.TypeIs (.ref it) "list_reverseiterator" := hit.typeIs
  have h1 : Builtin.List.listSameRef (.ref S) (.ref it) = false := by simp [Builtin.List.listSameRef, hSi]
  unfold Builtin.List.listExtendWith
  refine wpAny_bind (wpAny_typeOf hT ?_)
  rw [if_neg (by rw [h1]; decide)]
  refine wpAny_bind (wpAny_pyIter_revIter hit ?_)
  refine wpAny_bind (wpAny_holding ?_)
  unfold Builtin.List.listLengthHint
  refine wpAny_bind (wpAny_specialOf hT RT.nolen_lri ?_)
  show wpAny _ A.in1 (specialOf (Value.ref it) (Str.ofString "__length_hint__") >>= _) _ _ _
  refine wpAny_bind (wpAny_specialOf hT RT.hint_lri ?_)
  generalize hid : ("list_reverseiterator.__length_hint__" : String) = id0
  wp_delta
  rw [show splitId id0 = some ("list_reverseiterator", "__length_hint__") from by subst hid; decide +kernel]
  subst hid
  refine wpAny_bind (wpAny_isInstance (b := true) hT (by rw [isSubtype_type]; kernel_rfl) ?_)
  refine wpAny_pure ?_
  rw [if_neg (by decide)]
  have e0 : ((items.size : Nat) : Int) - 1 - ((0 : Nat) : Int) = (items.size : Int) - 1 := by omega
  refine wpAny_pure ⟨plainId_quiet F.plain_extend_loop _, codeAny_extend_loopS W hn S hSf res items.size 0 _ _ _ rfl (Nat.zero_le _) ⟨Nat.zero_le _, by rw [e0]; exact hit, hl⟩ hS (ItemsOf.nil _) fun s' acc c1 hm hS' hacc => ?_⟩
  rw [Moved.eq_with hm]
  refine hR s'.heap s'.toks acc c1 (fun b o hb hb2 e => hm.heap b o (fun hmem => ?_) e) hS' hacc
  rcases List.mem_cons.mp hmem with z | hmem
  · exact hb z
  · exact hb2 (List.mem_singleton.mp hmem)
theorem rv_init {R : Result → Shared → Prop} {it l : Addr} {items : Array Value} (hh : A.handled = none) (hit : s.heap.IsRevIter it l ((items.size : Int) - 1)) (hl : s.heap.IsList l items) (hne : l ≠ it) (hn : items.size ≤ sizeLine)
    (S : Addr) (hSi : S ≠ it) (hSl : S ≠ l) (hS : s.heap.get? S = some { cls := .type "list", data := .seq #[] })
    (hR : ∀ h' tk acc c1, (∀ b o, b ≠ S → b ≠ it → s.heap.get? b = some o → h'.get? b = some o) → h'.get? S = some { cls := .type "list", dict := none, data := .seq acc c1, slots := #[] } → ItemsOf (fun i v => items[items.size - 1 - i]? = some v) acc items.size →
      R (.ok (.ret .none)) { s with heap := h', toks := tk }) :
    wpAny (model prog w) A.in1 (Builtin.«list.__init__» ⟨[.ref S, .ref it], []⟩)
      (fun fin s' => match fin with | .done f => R (.ok f) s' | .again c' => c'.quiet = true ∧ codeAny (model prog w) A c' R s') (fun e s' => R (.error e) s') s := by
  show wpAny _ _ (do let old ← Builtin.List.listItems (.ref S); Builtin.List.listUpdate (.ref S) (fun _ => #[]); letGo old.toList.reverse; Builtin.List.listExtendWith (.ref S) (.ref it) .none) _ _ s
  refine wpAny_bind ?_
  unfold Builtin.List.listItems
  refine wpAny_bind (wpAny_seqItems hS rfl (wpAny_pure ?_))
  show wpAny _ _ (updateSeq S (fun _ => #[]) >>= fun _ => letGo (#[] : Array Value).toList.reverse >>= fun _ => Builtin.List.listExtendWith (.ref S) (.ref it) .none) _ _ s
  refine wpAny_bind (wpAny_updateSeq hS rfl ?_)
  have hS2 := Heap.get?_update_self (Obj.mapSeq (fun _ => (#[] : Array Value))) hS rfl
  have oth : ∀ b o, b ≠ S → s.heap.get? b = some o → (s.heap.update S (Obj.mapSeq (fun _ => (#[] : Array Value)))).get? b = some o :=
    fun b o hb e => (Heap.get?_update_other _ _ (Ne.symm hb)).trans e
  refine wpAny_bind (wpAny_letGo ?_)
  refine rv_extend hh (hit.at fun o e => oth it o hSi.symm e) (hl.at fun o e => oth l o hSl.symm e) hne hn S hSi hSl .none _ hS2 (fun h' tk acc c1 hk hS' hacc => ?_)
  exact hR h' tk acc c1 (fun b o hb hb2 e => hk b o hb hb2 (oth b o hb e)) hS' hacc
theorem rv_call {Q : Value → Shared → Prop} {it l : Addr} {items : Array Value} (hh : A.handled = none) (hit : s.heap.IsRevIter it l ((items.size : Int) - 1)) (hl : s.heap.IsList l items) (hne : l ≠ it) (hn : items.size ≤ sizeLine)
    (hQ : ∀ h' tk acc c1, (∀ b o, b ≠ it → s.heap.get? b = some o → h'.get? b = some o) → h'.get? s.heap.objs.size = some { cls := .type "list", dict := none, data := .seq acc c1, slots := #[] } →
      ItemsOf (fun i v => items[items.size - 1 - i]? = some v) acc items.size → Q (.ref s.heap.objs.size) { s with heap := h', toks := tk }) :
    wpAny (model prog w) A (call (.type "list") [.ref it]) Q E s := by
  refine callType_codes (Q₁ := fun obj s₁ => obj = .ref s.heap.objs.size ∧ s₁ = { s with heap := s.heap.push { cls := .type "list", data := .seq #[] } }) PySem.F.called_list (PySem.F.typeCall_list_1 _) PySem.F.entry_list_init
    (code_list_new _ ⟨rfl, rfl⟩) fun obj s₁ h₁ => ?_
  obtain ⟨rfl, rfl⟩ := h₁
  have hS : (s.heap.push { cls := .type "list", data := .seq #[] }).get? s.heap.objs.size = some { cls := .type "list", data := .seq #[] } := Heap.get?_push_size _ rfl
  obtain ⟨oi, hoi, _⟩ := id hit
  obtain ⟨ol, hol, _⟩ := id hl
  refine ⟨⟨_, hS, rfl⟩, PySem.F.args_list_init_2 _ _, rv_init (A := A.in1) hh (hit.at fun o e => Heap.get?_push_of_some _ e) (hl.push _) hne hn _ (Nat.ne_of_gt (Heap.lt_size hoi)) (Nat.ne_of_gt (Heap.lt_size hol)) hS (fun h' tk acc c1 hk hS' hacc => ?_)⟩
  exact ⟨rfl, hQ h' tk acc c1 (fun b o hb e => hk b o (Nat.ne_of_lt (Heap.lt_size e)) hb (Heap.get?_push_of_some _ e)) hS' hacc⟩
end
section
variable {X : Cx}
def tListRev (K : PySem.W.Frag) (te : TE) : TE := fun σ H Q => te σ H fun v H1 => ∃ (a : Addr) (xs : List V), v = .ref a ∧ SqL K H1 a xs ∧ ∀ q, H1 q = none → Q (.ref q) (upd H1 q (.lst xs.reverse))
theorem pe_listRev {e : Expr} {te : TE} {p p2 pos pos2 : Pos} (hc : X.calm = true) (hg : Gl X "list") (hm : X.mg "list" = none) (hg2 : Gl X "reversed") (hm2 : X.mg "reversed" = none) (he : PE X e te)
    (hs : starEach [e] X.env = (false, eval e X.env) :: starEach [] X.env := by rfl)
    (hs2 : starEach [.Call (.Name "reversed" p2) [e] [] pos2] X.env = (false, eval (.Call (.Name "reversed" p2) [e] [] pos2) X.env) :: starEach [] X.env := by rfl) :
    PE X (.Call (.Name "list" p) [.Call (.Name "reversed" p2) [e] [] pos2] [] pos) (tListRev X.K te) := by
  constructor
  intro pins s σ H Q I h
  refine Call_ (ld_blt I hg hm boot_list (PyProof.Rows.callWith_type1 (args_cons (Call_ (ld_blt I hg2 hm2 PyProof.Rows.boot_reversed (PyProof.Rows.callWith_type1 (args_cons (thn (he.run pins s σ H _ I h) ?_) hs) hs rfl))) hs2) hs2 rfl))
  rintro u s1 ⟨v, H1, I1, r1, a, xs, rfl, hq, q⟩
  refine args_nil ?_
  obtain rfl : u = Value.ref a := r1
  obtain ⟨its, rv, pl, hz⟩ := I1.list hq
  refine call_reversed_list pl.isList (args_nil ?_)
  have kp : ∀ b o, s1.heap.get? b = some o → (s1.heap.push (revObj a ((its.toArray.size : Int) - 1))).get? b = some o := fun b o e => Heap.get?_push_of_some _ e
  have I2 : Inv X pins σ H1 { s1 with heap := s1.heap.push (revObj a ((its.toArray.size : Int) - 1)) } := I1.kept (t' := s1.toks) kp
  have fp := I1.fpOk (H' := H1) (b := s1.heap.objs.size) (Nat.le_refl _) (I1.hok.fresh (Nat.le_refl _))
  have hl := pl.isList
  obtain ⟨ol, hol, _⟩ := id hl
  have hne : a ≠ s1.heap.objs.size := Nat.ne_of_lt (Heap.lt_size hol)
  have hn : its.toArray.size ≤ sizeLine := by rw [List.size_toArray, ← rv.length]; exact hz
  refine rv_call (s := { s1 with heap := s1.heap.push (revObj a ((its.toArray.size : Int) - 1)) }) (I1.ok.hd hc) ⟨_, Heap.get?_push_size _ rfl, rfl, rfl⟩ (hl.push _) hne hn fun h' tk acc c1 hk hS hi => ?_
  have J := I2.turnedNew (h' := h') (t' := tk) (ch := [s1.heap.objs.size]) (T := (s1.heap.push (revObj a ((its.toArray.size : Int) - 1))).objs.size) (ob := .lst xs.reverse) (fun b o hb e => hk b o (fun z => hb (by simp [z])) e) (fun b hb => by
      obtain rfl : b = s1.heap.objs.size := by simpa using hb
      exact fp) (Nat.le_refl _) (show ObjOk X.prog X.w _ _ _ (.lst xs.reverse) from ⟨by rw [List.length_reverse]; exact hz, acc.toList, c1, RT.vals_rev rv hi, by rw [Array.toArray_toList]; exact hS⟩)
  exact ⟨.ref _, _, J, rfl, q _ (I2.hok.fresh (Nat.le_refl _))⟩
end
end GM
set_option Elab.async false
set_option linter.all false
set_option maxRecDepth 100000
set_option maxHeartbeats 4000000
namespace GM
open PySem PySem.Spec PyProof.Rows L2
/-! ### data whose text is short -/
structure Sm (dp b : Nat) (d : PyData) : Prop where
  sh : d.showable = true
  nd : d.hasDict = false
  dep : d.depth ≤ dp
  lv : d.leavesShort 8 = true
  bk : d.bulk ≤ b
structure SmA (dp b : Nat) (ds : List PyData) : Prop where
  sh : PyData.showableAll ds = true
  nd : PyData.hasDictAll ds = false
  dep : PyData.depthAll ds ≤ dp
  lv : PyData.leavesShortAll 8 ds = true
  bk : PyData.bulkAll ds ≤ b
theorem short_all : (List.range 10001).all (fun k => decide ((PyData.shown (.int ((k : Int) - 5000))).length ≤ 8)) = true := by decide +kernel
theorem short_int {i : Int} (h : -5000 ≤ i) (h2 : i ≤ 5000) : (PyData.shown (.int i)).length ≤ 8 := by
  have e := of_decide_eq_true (List.all_eq_true.mp short_all (i + 5000).toNat (List.mem_range.mpr (by omega)))
  rw [show (((i + 5000).toNat : Nat) : Int) - 5000 = i by omega] at e
  exact e
theorem sm_non : Sm 0 0 .none := ⟨rfl, rfl, Nat.le_refl _, rfl, Nat.le_refl _⟩
theorem sm_bl (b : Bool) : Sm 0 0 (.bool b) := ⟨rfl, rfl, Nat.le_refl _, rfl, Nat.le_refl _⟩
theorem log_small {n : Nat} (h : n ≤ 5000) : n.log2 < 1920 := by
  by_cases c : n = 0
  · subst c; decide
  · exact (Nat.log2_lt c).mpr (Nat.lt_of_le_of_lt h (Nat.lt_of_lt_of_le (by decide : 5000 < 2 ^ 13) (Nat.pow_le_pow_right (by decide) (by decide))))
theorem sm_int {i : Int} (h : -5000 ≤ i) (h2 : i ≤ 5000) : Sm 0 0 (.int i) := by
  refine ⟨?_, rfl, Nat.le_refl _, ?_, Nat.le_refl _⟩
  · show decide (i.natAbs.log2 < 1920) = true
    exact decide_eq_true (log_small (by omega))
  · show decide ((PyData.shown (.int i)).length ≤ 8) = true
    exact decide_eq_true (short_int h h2)
theorem Sm.mono {dp b dp' b' : Nat} {d : PyData} (s : Sm dp b d) (h1 : dp ≤ dp') (h2 : b ≤ b') : Sm dp' b' d := ⟨s.sh, s.nd, Nat.le_trans s.dep h1, s.lv, Nat.le_trans s.bk h2⟩
theorem sma_nil : SmA 0 0 [] := ⟨rfl, rfl, Nat.le_refl _, rfl, Nat.le_refl _⟩
theorem SmA.mono {dp b dp' b' : Nat} {d : List PyData} (s : SmA dp b d) (h1 : dp ≤ dp') (h2 : b ≤ b') : SmA dp' b' d := ⟨s.sh, s.nd, Nat.le_trans s.dep h1, s.lv, Nat.le_trans s.bk h2⟩
theorem sma_cons {dp b c : Nat} {d : PyData} {ds : List PyData} (h : Sm dp b d) (t : SmA dp c ds) : SmA dp (b + 1 + c) (d :: ds) := by
  refine ⟨?_, ?_, ?_, ?_, ?_⟩
  · show (d.showable && PyData.showableAll ds) = true
    rw [h.sh, t.sh]; rfl
  · show (d.hasDict || PyData.hasDictAll ds) = false
    rw [h.nd, t.nd]; rfl
  · show max d.depth (PyData.depthAll ds) ≤ dp
    have := h.dep
    have := t.dep
    omega
  · show (d.leavesShort 8 && PyData.leavesShortAll 8 ds) = true
    rw [h.lv, t.lv]; rfl
  · show d.bulk + 1 + PyData.bulkAll ds ≤ _
    have := h.bk
    have := t.bk
    omega
theorem sma_all {dp b : Nat} : ∀ {ds : List PyData}, (∀ d ∈ ds, Sm dp b d) → SmA dp ((b + 1) * ds.length) ds
  | [], _ => ⟨rfl, rfl, Nat.zero_le _, rfl, Nat.zero_le _⟩
  | d :: ds, h => (sma_cons (h d List.mem_cons_self) (sma_all fun x hx => h x (List.mem_cons_of_mem _ hx))).mono (Nat.le_refl _) (by rw [List.length_cons, Nat.mul_succ]; omega)
theorem sm_lst {dp b : Nat} {ds : List PyData} (h : SmA dp b ds) : Sm (dp + 1) b (.list ds) := by
  refine ⟨h.sh, h.nd, ?_, h.lv, h.bk⟩
  show PyData.depthAll ds + 1 ≤ dp + 1
  exact Nat.succ_le_succ h.dep
theorem sm_tup {dp b : Nat} {ds : List PyData} (h : SmA dp b ds) : Sm (dp + 1) b (.tuple ds) := by
  refine ⟨h.sh, h.nd, ?_, h.lv, h.bk⟩
  show PyData.depthAll ds + 1 ≤ dp + 1
  exact Nat.succ_le_succ h.dep
theorem Sm.len {dp b : Nat} {d : PyData} (h : Sm dp b d) (hb : b ≤ 100000) : d.shown.length ≤ sizeLine := by
  have e := PyData.shown_le_bulk 8 (Nat.le_refl _) d h.lv
  have := h.bk
  have := sizeLine_eq
  omega
/-- what repr wants -/
theorem repr_ok {K : PySem.W.Frag} {H : Hp} {a : Addr} {d : PyData} {dp b : Nat} {Q : VK} (hd : Dp K H (.ref a) d) (h : Sm dp b d) (hdp : dp ≤ 40) (hb : b ≤ 100000) (q : Q (.str d.shown) H) : rRepr K [.ref a] H Q :=
  ⟨a, d, rfl, hd, h.sh, h.nd, Nat.le_trans h.dep hdp, h.len hb, q⟩
/-! ### data while the heap grows -/
mutual
theorem dp_same {K : PySem.W.Frag} {H H' : Hp} (s : Same H H') : ∀ {v : V} {d : PyData}, Dp K H v d → Dp K H' v d
  | _, _, .non => .non
  | _, _, .bl b => .bl b
  | _, _, .int i => .int i
  | _, _, .str x => .str x
  | _, _, .lst h t => .lst (s.seq h) (dpa_same s t)
  | _, _, .tup h t => .tup (seqT_same s h) (dpa_same s t)
theorem dpa_same {K : PySem.W.Frag} {H H' : Hp} (s : Same H H') : ∀ {vs : List V} {ds : List PyData}, DpAll K H vs ds → DpAll K H' vs ds
  | _, _, .nil => .nil
  | _, _, .cons h t => .cons (dp_same s h) (dpa_same s t)
end
/-- the heap without a -/
def del (H : Hp) (a : Addr) : Hp := fun b => if b = a then Option.none else H b
theorem del_ne {H : Hp} {a b : Addr} (h : b ≠ a) : del H a b = H b := if_neg h
theorem del_up {H : Hp} {a : Addr} : Same (del H a) H := fun b o e => by
  by_cases c : b = a
  · rw [show del H a b = Option.none from if_pos c] at e; exact nomatch e
  · rw [del_ne c] at e; exact e
theorem del_mono {H H' : Hp} {a : Addr} (s : Same H H') : Same (del H a) (del H' a) := fun b o e => by
  by_cases c : b = a
  · rw [show del H a b = Option.none from if_pos c] at e; exact nomatch e
  · rw [del_ne c] at e ⊢; exact s _ _ e
theorem del_upd {H : Hp} {a : Addr} {o : HO} : del (upd H a o) a = del H a := by
  funext b
  by_cases c : b = a
  · rw [show del (upd H a o) a b = Option.none from if_pos c, show del H a b = Option.none from if_pos c]
  · rw [del_ne c, del_ne c, upd_ne c]
/-- what is new in H since H0, but for a -/
def nw (H0 H : Hp) (a : Addr) : Hp := fun b => if H0 b = Option.none ∧ b ≠ a then H b else Option.none
def newH (H0 H : Hp) : Hp := fun b => if H0 b = Option.none then H b else Option.none
theorem nw_at {H0 H : Hp} {a b : Addr} (h : H0 b = Option.none) (n : b ≠ a) : nw H0 H a b = H b := if_pos ⟨h, n⟩
theorem nw_mono {H0 H H' : Hp} {a : Addr} (s : Same H H') : Same (nw H0 H a) (nw H0 H' a) := fun b o e => by
  unfold nw at e ⊢
  by_cases c : H0 b = Option.none ∧ b ≠ a
  · rw [if_pos c] at e ⊢; exact s _ _ e
  · rw [if_neg c] at e; exact nomatch e
theorem nw_upd {H0 H : Hp} {a : Addr} {o : HO} : nw H0 (upd H a o) a = nw H0 H a := by
  funext b
  unfold nw
  by_cases c : H0 b = Option.none ∧ b ≠ a
  · rw [if_pos c, if_pos c, upd_ne c.2]
  · rw [if_neg c, if_neg c]
theorem nw_new {H0 H : Hp} {a : Addr} : Same (nw H0 H a) (newH H0 H) := fun b o e => by
  unfold nw at e
  unfold newH
  by_cases c : H0 b = Option.none ∧ b ≠ a
  · rw [if_pos c] at e; rw [if_pos c.1]; exact e
  · rw [if_neg c] at e; exact nomatch e
theorem new_up {H0 H : Hp} : Same (newH H0 H) H := fun b o e => by
  unfold newH at e
  by_cases c : H0 b = Option.none
  · rw [if_pos c] at e; exact e
  · rw [if_neg c] at e; exact nomatch e
theorem new_del {H0 H : Hp} {a : Addr} (h : H0 a ≠ Option.none) : Same (newH H0 H) (del H a) := fun b o e => by
  unfold newH at e
  by_cases c : H0 b = Option.none
  · rw [if_pos c] at e
    have n : b ≠ a := fun z => h (by rw [← z]; exact c)
    rw [del_ne n]; exact e
  · rw [if_neg c] at e; exact nomatch e
theorem dpa_snoc {K : PySem.W.Frag} {H : Hp} {v : V} {d : PyData} (h : Dp K H v d) : ∀ {vs : List V} {ds : List PyData}, DpAll K H vs ds → DpAll K H (vs ++ [v]) (ds ++ [d])
  | _, _, .nil => .cons h .nil
  | _, _, .cons a t => .cons a (dpa_snoc h t)
theorem dpa_len {K : PySem.W.Frag} {H : Hp} : ∀ {vs : List V} {ds : List PyData}, DpAll K H vs ds → vs.length = ds.length
  | _, _, .nil => rfl
  | _, _, .cons _ t => by rw [List.length_cons, List.length_cons, dpa_len t]
end GM
set_option Elab.async false
set_option linter.all false
set_option maxRecDepth 100000
set_option maxHeartbeats 4000000
set_option pp.maxSteps 400
set_option pp.deepTerms false
namespace GM
open PySem PySem.Spec PyProof.Rows L2
/-! ### drawn digits -/
def Dg : List Int → List Int → Prop
  | [], [] => True
  | d :: ds, s :: ss => (0 ≤ d ∧ d < s) ∧ Dg ds ss
  | _, _ => False
theorem Dg.len : ∀ {ds ss : List Int}, Dg ds ss → ds.length = ss.length
  | [], [], _ => rfl
  | _ :: _, _ :: _, h => congrArg Nat.succ (Dg.len h.2)
  | [], _ :: _, h => h.elim
  | _ :: _, [], h => h.elim
theorem Dg.snoc : ∀ {ds ss : List Int} {d s : Int}, Dg ds ss → 0 ≤ d → d < s → Dg (ds ++ [d]) (ss ++ [s])
  | [], [], _, _, _, a, b => ⟨⟨a, b⟩, True.intro⟩
  | _ :: _, _ :: _, _, _, h, a, b => ⟨h.1, Dg.snoc h.2 a b⟩
  | [], _ :: _, _, _, h, _, _ => h.elim
  | _ :: _, [], _, _, h, _, _ => h.elim
theorem Dg.cons {ds ss : List Int} {s : Int} (h : Dg ds (s :: ss)) : ∃ d r, ds = d :: r ∧ (0 ≤ d ∧ d < s) ∧ Dg r ss := by
  cases ds with
  | nil => exact h.elim
  | cons d r => exact ⟨d, r, rfl, h.1, h.2⟩
theorem Dg.nil {ds : List Int} (h : Dg ds []) : ds = [] := by
  cases ds with
  | nil => rfl
  | cons d r => exact h.elim
theorem Dg.at : ∀ {ds ss : List Int} {i : Nat} {s : Int}, Dg ds ss → ss[i]? = some s → ∃ d, ds[i]? = some d ∧ 0 ≤ d ∧ d < s
  | [], [], _, _, _, e => by simp at e
  | d :: ds, t :: ss, 0, _, h, e => by simp at e; subst e; exact ⟨d, rfl, h.1⟩
  | d :: ds, t :: ss, i + 1, s, h, e => by
    have e' : ss[i]? = some s := by simpa using e
    obtain ⟨x, h1, h2⟩ := Dg.at h.2 e'
    exact ⟨x, by simpa using h1, h2⟩
  | [], _ :: _, _, _, h, _ => h.elim
  | _ :: _, [], _, _, h, _ => h.elim
section
variable {P : Program} {w : World} {K : PySem.W.Frag} {mg : Str → Option Value} {base : Heap} (M : Blt mg)
include M
/-- of an int -/
def spWhole : Sp := fun vs H Q _ => ∃ i : Int, vs = [.int i] ∧ Q (.bl true) H
theorem ok_lwhole {f : Addr} {fd : FuncData} (F : Fun K "_law_whole" "_law_whole" s__law_whole f fd) : FnOk P w K mg base CX0 1 f fd ["value"] spWhole := by
  refine F.ok sc__law_whole (fun vs H Q E h => ?_) (fun cdv A outer s H vs Q E hr h => ?_)
  · obtain ⟨i, rfl, _⟩ := h
    rfl
  obtain ⟨i, rfl, q⟩ := h
  have nd := sc__law_whole.nd
  refine ⟨_, pss_one (ps_ret (pe_and (pe_callB call_isi (by rfl) M.isinstance boot_isinstance (pa_cons (pv 0) (pa_cons (pe_bltn (v := .ty "int") (by rfl) M.int PyProof.Rows.boot_int rfl) pa_nil))) (pe_one (pe_not (pe_callB call_isi (by rfl) M.isinstance boot_isinstance (pa_cons (pv 0) (pa_cons (pe_bltn (v := .ty "bool") (by rfl) M.bool PyProof.Rows.boot_bool rfl) pa_nil))))))), ?_⟩
  refine ⟨_, rfl, _, _, _, _, true, rfl, .ty "int", .base (.int i), kit_ty (by decide +kernel), true, rfl, ?_⟩
  refine iteT ⟨_, rfl, _, _, _, _, false, rfl, .ty "bool", .base (.int i), kit_ty (by decide +kernel), false, rfl, q⟩
theorem ok_whole {f : Addr} {fd : FuncData} (F : Fun K "is_whole" "is_whole" s_is_whole f fd) : FnOk P w K mg base CX0 1 f fd ["value"] spWhole := by
  refine F.ok sc_is_whole (fun vs H Q E h => ?_) (fun cdv A outer s H vs Q E hr h => ?_)
  · obtain ⟨i, rfl, _⟩ := h
    rfl
  obtain ⟨i, rfl, q⟩ := h
  have nd := sc_is_whole.nd
  refine ⟨_, pss_one (ps_ret (pe_and (pe_callB call_isi (by rfl) M.isinstance boot_isinstance (pa_cons (pv 0) (pa_cons (pe_bltn (v := .ty "int") (by rfl) M.int PyProof.Rows.boot_int rfl) pa_nil))) (pe_one (pe_not (pe_callB call_isi (by rfl) M.isinstance boot_isinstance (pa_cons (pv 0) (pa_cons (pe_bltn (v := .ty "bool") (by rfl) M.bool PyProof.Rows.boot_bool rfl) pa_nil))))))), ?_⟩
  refine ⟨_, rfl, _, _, _, _, true, rfl, .ty "int", .base (.int i), kit_ty (by decide +kernel), true, rfl, ?_⟩
  refine iteT ⟨_, rfl, _, _, _, _, false, rfl, .ty "bool", .base (.int i), kit_ty (by decide +kernel), false, rfl, q⟩
/-- some int; the heap as it was -/
def spCell (K : PySem.W.Frag) : Sp := fun vs H Q _ => ∃ (a : Addr) (ns : List Int) (k : Nat), vs = [.ref a, .int (k : Int)] ∧ SqL K H a (ns.map V.int) ∧ ns.length ≤ 63 ∧ k ≤ 1000 ∧ ∀ z : Int, Q (.int z) H
theorem ok_cell {f : Addr} {fd : FuncData} (F : Fun K "_law_cell" "_law_cell" s__law_cell f fd) :
    FnOk P w K mg base CX0 1 f fd ["script", "k"] (spCell K) := by
  refine F.ok sc__law_cell (fun vs H Q E h => ?_) (fun cdv A outer s H vs Q E hr h => ?_)
  · obtain ⟨a, ns, k, rfl, _⟩ := h
    rfl
  obtain ⟨a, ns, k, rfl, hS, hl, hk, q⟩ := h
  have nd := sc__law_cell.nd
  refine ⟨_, pss_cons (ps_if (pt_cmpR op_lt (pv 1) (pe_callB call_len_seq (by rfl) M.len PySem.boot_len (pa_cons (pv 0) pa_nil)) (nomark _)) (pss_one (ps_ret (pe_ix ix_list (pv 0) (pv 1) (fun _ _ => rfl)))) pss_nil)
    (pss_cons (ps_set (i := 2) nd rfl (.inl rfl) pe_int)
    (pss_cons (ps_for PassesOwn.never rfl (pi_list (pv 0)) (pg_name (i := 3) nd rfl (.inl rfl)) (pss_one (ps_set (i := 2) nd rfl (.inl rfl) (pe_op op_mod (pe_callTy call_int1 (by rfl) M.int PyProof.Rows.boot_int (pa_cons (pe_op op_add (pe_op op_mul (pv 2) pe_int) (pe_op op_mod (pe_callTy call_int1 (by rfl) M.int PyProof.Rows.boot_int (pa_cons (pv 3) pa_nil)) pe_int)) pa_nil)) pe_int))))
    (pss_one (ps_ret (pe_op op_mod (pe_callTy call_int1 (by rfl) M.int PyProof.Rows.boot_int (pa_cons (pe_op op_mul (pe_op op_mul (pe_op op_add (pv 2) pe_int) (pe_op op_add (pv 1) pe_int)) pe_int) pa_nil)) pe_int))))), ?_⟩
  refine ⟨_, rfl, _, rfl, a, _, rfl, .inl hS, _, _, rfl, rfl, _, rfl, ite2 (fun c => ?_) (fun c => ?_)⟩
  · have c' := of_decide_eq_true c
    rw [List.length_map] at c'
    have hk' : k < ns.length := by omega
    have g : (ns.map V.int)[k]? = some (.int ns[k]) := by rw [List.getElem?_map, List.getElem?_eq_getElem hk']; rfl
    exact ⟨_, rfl, _, rfl, a, _, _, _, rfl, rfl, hS, atI_nat g, q _⟩
  · refine ⟨_, rfl, a, rfl, ⟨_, hS⟩, for_list (xs := ns.map V.int) (fun i σ H' => H' = H ∧ ∃ (z : Int) (y : Option V), σ = [some (.ref a), some (.int (k : Int)), some (.int z), y]) ⟨rfl, 17, Option.none, rfl⟩ (fun i σ H' _ z => by rw [z.1]; exact hS) ?_ ?_⟩
    · rintro i x σ H' hx ⟨rfl, z, y, rfl⟩
      obtain ⟨v, hv, rfl⟩ := map_at hx
      refine ⟨_, rfl, _, _, rfl, rfl, .inr ⟨by decide, by decide⟩, _, rfl, .inl ⟨_, rfl, _, _, rfl, rfl, (by show (0 : Int) < 1000003; decide), _, _, rfl, rfl, .inl ⟨_, rfl, _, _, rfl, rfl, (by show (0 : Int) < 1000003; decide), ?_⟩⟩⟩
      exact ⟨rfl, _, _, rfl⟩
    · rintro σ H' ⟨rfl, z, y, rfl⟩
      refine ⟨_, rfl, _, _, rfl, rfl, _, rfl, _, _, rfl, rfl, _, _, rfl, rfl, .inr ⟨by omega, by omega⟩, _, _, rfl, rfl, .inr ⟨by decide, by decide⟩, .inl ⟨_, rfl, _, _, rfl, rfl, (by show (0 : Int) < 2147483647; decide), ?_⟩⟩
      exact q _
/-- a new list of digits -/
def spDigits (K : PySem.W.Frag) : Sp := fun vs H Q _ => ∃ (c : Int) (l : Addr) (ss : List Int), vs = [.int c, .ref l] ∧ SqL K H l (ss.map V.int) ∧ ss.length ≤ 1000 ∧ (∀ s ∈ ss, 0 < s ∧ s < 1073741824) ∧
  ∀ p ds H', Same H H' → H p = none → H' p = some (.lst (ds.map V.int)) → Dg ds ss → Q (.ref p) H'
theorem ok_digits {f : Addr} {fd : FuncData} (F : Fun K "_law_digits" "_law_digits" s__law_digits f fd) :
    FnOk P w K mg base CX0 1 f fd ["cell", "sizes"] (spDigits K) := by
  refine F.ok sc__law_digits (fun vs H Q E h => ?_) (fun cdv A outer s H vs Q E hr h => ?_)
  · obtain ⟨c, l, ss, rfl, _⟩ := h
    rfl
  obtain ⟨c, l, ss, rfl, hS, hlen, hpos, q⟩ := h
  have nd := sc__law_digits.nd
  refine ⟨_, pss_cons (ps_set (i := 2) nd rfl (.inl rfl) (pe_lst pa_nil))
    (pss_cons (ps_set (i := 3) nd rfl (.inl rfl) (pe_callTy call_int1 (by rfl) M.int PyProof.Rows.boot_int (pa_cons (pv 0) pa_nil)))
    (pss_cons (ps_if (pt_cmpR op_ge (pv 3) (pe_op op_pow pe_int pe_int) (nomark _)) (pss_cons (ps_set (i := 3) nd rfl (.inl rfl) (pe_op op_sub (pv 3) (pe_op op_pow pe_int pe_int)))
      (pss_cons (ps_for PassesOwn.never rfl (pi_list (pv 1)) (pg_name (i := 4) nd rfl (.inl rfl)) (pss_cons (ps_expr (pe_bm PySem.F.plainAttrs_list PySem.F.slot_list_append PySem.F.type_list_append mt_append (pv 2) (pa_cons (pe_op op_mod (pe_callTy call_int1 (by rfl) M.int PyProof.Rows.boot_int (pa_cons (pv 3) pa_nil)) (pv 4)) pa_nil)))
        (pss_one (ps_set (i := 3) nd rfl (.inl rfl) (pe_op op_fdiv (pe_callTy call_int1 (by rfl) M.int PyProof.Rows.boot_int (pa_cons (pv 3) pa_nil)) (pv 4))))))
      (pss_one (ps_ret (pv 2))))) pss_nil)
    (pss_cons (ps_set (i := 5) nd rfl (.inl rfl) (pe_op op_mod (pe_callTy call_int1 (by rfl) M.int PyProof.Rows.boot_int (pa_cons (pv 3) pa_nil)) pe_int))
    (pss_cons (ps_for PassesOwn.never rfl (pi_range1 rfl M.range (pa_cons (pe_callB call_len_seq (by rfl) M.len PySem.boot_len (pa_cons (pv 1) pa_nil)) pa_nil)) (pg_name (i := 6) nd rfl (.inl rfl)) (pss_cons (ps_set (i := 5) nd rfl (.inl rfl) (pe_op op_mod (pe_callTy call_int1 (by rfl) M.int PyProof.Rows.boot_int (pa_cons (pe_op op_add (pe_op op_add (pe_op op_mul (pv 5) pe_int) (pe_op op_mul pe_int (pv 6))) pe_int) pa_nil)) pe_int))
      (pss_cons (ps_set (i := 7) nd rfl (.inl rfl) (pe_op op_mod (pe_callTy call_int1 (by rfl) M.int PyProof.Rows.boot_int (pa_cons (pe_op op_mul (pv 5) (pe_op op_add (pe_op op_fdiv (pv 5) pe_int) pe_int)) pa_nil)) pe_int))
      (pss_one (ps_expr (pe_bm PySem.F.plainAttrs_list PySem.F.slot_list_append PySem.F.type_list_append mt_append (pv 2) (pa_cons (pe_op op_mod (pe_op op_fdiv (pv 7) pe_int) (pe_ix ix_list (pv 1) (pv 6) (fun _ _ => rfl))) pa_nil)))))))
    (pss_one (ps_ret (pv 2))))))), ?_⟩
  refine ⟨Nat.zero_le _, fun o no => ?_⟩
  have s1 : Same H (upd H o (.lst [])) := same_new no _
  refine ⟨_, rfl, .inl ⟨_, rfl, ?_⟩⟩
  refine ⟨_, rfl, _, _, rfl, rfl, ⟨by decide, by decide, by decide⟩, _, _, rfl, rfl, _, rfl, ite2 (fun _ => ?_) (fun _ => ?_)⟩
  · refine ⟨_, rfl, _, _, rfl, rfl, ⟨by decide, by decide, by decide⟩, _, _, rfl, rfl, ?_⟩
    refine ⟨_, rfl, l, rfl, ⟨_, s1.seq hS⟩, for_list (xs := ss.map V.int) (fun i σ H' => Same H H' ∧ ∃ (ds : List Int) (r : Int) (y : Option V), H' o = some (.lst (ds.map V.int)) ∧ Dg ds (ss.take i) ∧ σ = [some (.int c), some (.ref l), some (.ref o), some (.int r), y, Option.none, Option.none, Option.none])
      ⟨s1, [], _, Option.none, upd_same, True.intro, rfl⟩ (fun i σ H' _ z => z.1.seq hS) ?_ ?_⟩
    · rintro i x σ H' hx ⟨sm, ds, r, y, eo, hd, rfl⟩
      obtain ⟨v, hv, rfl⟩ := map_at hx
      have hv2 := hpos v (List.mem_of_getElem? hv)
      refine ⟨_, rfl, .inl ⟨rfl, _, SqL.of eo⟩, _, rfl, .inl ⟨_, rfl, _, rfl, _, _, rfl, rfl, hv2.1, o, _, _, rfl, rfl, eo, ?_, ?_⟩⟩
      · rw [List.length_map, hd.len, List.length_take]
        exact Nat.lt_of_le_of_lt (Nat.min_le_right _ _) (small1000 hlen)
      · refine ⟨_, rfl, .inl ⟨_, rfl, _, rfl, _, _, rfl, rfl, hv2, ?_⟩⟩
        refine ⟨fun b u e => ?_, ds ++ [r % v], _, _, ?_, ?_, rfl⟩
        · rw [upd_ne (ne_of_none e no)]
          exact sm _ _ e
        · rw [upd_same, List.map_append]
          rfl
        · rw [tk1 hv]
          exact hd.snoc (Int.emod_nonneg _ (by omega)) (Int.emod_lt_of_pos _ hv2.1)
    · rintro σ H' ⟨sm, ds, r, y, eo, hd, rfl⟩
      rw [List.length_map, List.take_length] at hd
      exact ⟨_, rfl, q o ds H' sm no eo hd⟩
  · refine ⟨_, rfl, .inl ⟨_, rfl, _, _, rfl, rfl, (by show (0 : Int) < 2147483629; decide), ?_⟩⟩
    refine ⟨_, rfl, l, _, rfl, .inl (s1.seq hS), _, rfl, (by rw [List.length_map]; omega), (by rw [List.length_map]; omega), ?_⟩
    have hn : (((ss.map V.int).length : Nat) : Int).toNat = ss.length := by rw [List.length_map]; rfl
    rw [hn]
    refine for_range (n := ss.length) (fun i σ H' => Same H H' ∧ ∃ (ds : List Int) (r z : Int) (y y' : Option V), H' o = some (.lst (ds.map V.int)) ∧ Dg ds (ss.take i) ∧ σ = [some (.int c), some (.ref l), some (.ref o), some (.int r), Option.none, some (.int z), y, y'])
      ⟨s1, [], _, _, Option.none, Option.none, upd_same, True.intro, rfl⟩ ?_ ?_
    · rintro i σ H' hi ⟨sm, ds, r, z, y, y', eo, hd, rfl⟩
      refine ⟨_, rfl, _, _, rfl, rfl, .inr ⟨by decide, by decide⟩, _, rfl, _, _, rfl, rfl, .inl ⟨by decide, by decide⟩, _, _, rfl, rfl, _, _, rfl, rfl, .inl ⟨_, rfl, _, _, rfl, rfl, (by show (0 : Int) < 2147483647; decide), ?_⟩⟩
      have b0 := Int.emod_nonneg (z * 48271 + 974711 * (0 + (i : Int)) + 12345) (show (2147483647 : Int) ≠ 0 by decide)
      have b1 := Int.emod_lt_of_pos (z * 48271 + 974711 * (0 + (i : Int)) + 12345) (show (0 : Int) < 2147483647 by decide)
      refine ⟨_, rfl, _, rfl, _, _, rfl, rfl, ⟨by decide, by decide⟩, _, _, rfl, rfl, _, _, rfl, rfl, .inl ⟨?_, ?_⟩, .inl ⟨_, rfl, _, _, rfl, rfl, (by show (0 : Int) < 2147483629; decide), ?_⟩⟩
      · exact Int.lt_of_lt_of_le (by decide) b0
      · exact Int.lt_trans b1 (by decide)
      have g : (ss.map V.int)[i]? = some (.int ss[i]) := by rw [List.getElem?_map, List.getElem?_eq_getElem hi]; rfl
      have hv2 := hpos ss[i] (List.getElem_mem hi)
      refine ⟨_, rfl, .inl ⟨rfl, _, SqL.of eo⟩, _, rfl, _, _, rfl, rfl, ⟨by decide, by decide⟩, _, rfl, _, rfl, l, _, _, _, rfl, rfl, sm.seq hS, ?_, _, _, rfl, rfl, hv2.1, o, _, _, rfl, rfl, eo, ?_, ?_⟩
      · rw [Int.zero_add]; exact atI_nat g
      · rw [List.length_map, hd.len, List.length_take]
        exact Nat.lt_of_le_of_lt (Nat.min_le_right _ _) (small1000 hlen)
      · refine ⟨fun b u e => ?_, ds ++ [((z * 48271 + 974711 * (0 + (i : Int)) + 12345) % 2147483647 * ((z * 48271 + 974711 * (0 + (i : Int)) + 12345) % 2147483647 / 65537 + 3)) % 2147483629 / 19 % ss[i]], _, _, _, _, ?_, ?_, rfl⟩
        · rw [upd_ne (ne_of_none e no)]
          exact sm _ _ e
        · rw [upd_same, List.map_append]
          rfl
        · rw [tk1 (List.getElem?_eq_getElem hi)]
          exact hd.snoc (Int.emod_nonneg _ (by omega)) (Int.emod_lt_of_pos _ hv2.1)
    · rintro σ H' ⟨sm, ds, r, z, y, y', eo, hd, rfl⟩
      rw [List.take_length] at hd
      exact ⟨_, rfl, q o ds H' sm no eo hd⟩
end
end GM
set_option Elab.async false
set_option linter.all false
set_option maxRecDepth 100000
set_option maxHeartbeats 4000000
set_option pp.maxSteps 150
set_option pp.deepTerms false
namespace GM
open PySem PySem.Spec PyProof.Rows L2
/-- the moves of a vertex: ascending, each a vertex -/
def Asc (n : Int) (xs : List Int) : Prop := xs.Pairwise (· < ·) ∧ (∀ x ∈ xs, 0 ≤ x ∧ x < n) ∧ xs ≠ [] ∧ xs.length ≤ 1000
theorem asc_step {n : Int} {xs : List Int} (h : Asc n xs) {i : Nat} {x : Int} (hx : xs[i]? = some x) (l : Int) (hl : l = 0 ∨ ∃ j y, j < i ∧ xs[j]? = some y ∧ l = y + 1) : l ≤ x ∧ x < n := by
  have hm := h.2.1 x (List.mem_of_getElem? hx)
  refine ⟨?_, hm.2⟩
  rcases hl with rfl | ⟨j, y, hj, hy, rfl⟩
  · exact hm.1
  · obtain ⟨a1, a2⟩ := List.getElem?_eq_some_iff.mp hx
    obtain ⟨b1, b2⟩ := List.getElem?_eq_some_iff.mp hy
    have := List.pairwise_iff_getElem.mp h.1 j i b1 a1 hj
    rw [a2, b2] at this
    omega
theorem neverOk {P : Program} {w : World} {K : PySem.W.Frag} {mg : Str → Option Value} {base : Heap} {f : Addr} {fd : FuncData} {ps : List Str} {sp : Sp} (no : ∀ vs H Q E, ¬ sp vs H Q E) : FnOk P w K mg base CX0 0 f fd ps sp :=
  ⟨fun vs H Q E h => absurd h (no vs H Q E), fun A outer s H args us vs Q E _ _ _ _ h => absurd h (no vs H Q E)⟩
section
variable {P : Program} {w : World} {K : PySem.W.Frag} {mg : Str → Option Value} {base : Heap} (M : Blt mg)
include M
/-- a whole number within its bounds -/
def spNumTo : Sp := fun vs H Q _ => ∃ i m : Int, vs = [.int i, .int m] ∧ 0 ≤ i ∧ i ≤ m ∧ Q (.bl true) H
theorem ok_numto {f : Addr} {fd : FuncData} (F : Fun K "is_number_to" "is_number_to" s_is_number_to f fd) (Gis_whole : Kn P w K mg base 1 "is_whole" ["value"] spWhole) :
    FnOk P w K mg base CX0 2 f fd ["value", "most"] spNumTo := by
  refine F.ok sc_is_number_to (fun vs H Q E h => ?_) (fun cdv A outer s H vs Q E hr h => ?_)
  · obtain ⟨i, m, rfl, _⟩ := h
    rfl
  obtain ⟨i, m, rfl, h0, h1, q⟩ := h
  have nd := sc_is_number_to.nd
  refine ⟨_, pss_one (ps_ret (pe_and (pe_call Gis_whole.ok (hr.mono (by decide)) (by rfl) Gis_whole.m Gis_whole.kp Gis_whole.b .nil pass0 (pa_cons (pv 0) pa_nil)) (pe_one (pe_chain op_le op_le pe_int (pv 0) (pv 1))))), ?_⟩
  refine ⟨_, rfl, _, rfl, _, rfl, iteT ?_⟩
  refine ⟨_, rfl, _, _, rfl, rfl, _, rfl, ?_⟩
  rw [if_pos (decide_eq_true h0)]
  refine ⟨_, rfl, _, _, rfl, rfl, ?_⟩
  show Q (.bl (decide (i ≤ m))) H
  rw [decide_eq_true h1]
  exact q
def spSucc : Sp := fun vs H Q _ => ∃ (a : Addr) (xs : List Int) (n : Int), vs = [.ref a, .int n] ∧ H a = some (.lst (xs.map V.int)) ∧ Asc n xs ∧ ∀ H', Same H H' → Q (.bl true) H'
theorem ok_succ {f : Addr} {fd : FuncData} (F : Fun K "are_successors" "are_successors" s_are_successors f fd) (Gis_whole : Kn P w K mg base 1 "is_whole" ["value"] spWhole) :
    FnOk P w K mg base CX0 2 f fd ["value", "count"] spSucc := by
  refine F.ok sc_are_successors (fun vs H Q E h => ?_) (fun cdv A outer s H vs Q E hr h => ?_)
  · obtain ⟨a, xs, n, rfl, _⟩ := h
    rfl
  obtain ⟨a, xs, n, rfl, ea, ha, q⟩ := h
  have nd := sc_are_successors.nd
  refine ⟨_, pss_cons (ps_if (pt_not (pt_val (pe_callB call_isiT (by rfl) M.isinstance boot_isinstance (pa_cons (pv 0) (pa_cons (pe_tup (pa_cons (pe_bltn (v := .ty "list") (by rfl) M.list PyProof.Rows.boot_list rfl) (pa_cons (pe_bltn (v := .ty "tuple") (by rfl) M.tuple PyProof.Rows.boot_tuple rfl) pa_nil))) pa_nil))))) (pss_one (ps_ret pe_bl)) pss_nil)
    (pss_cons (ps_set (i := 2) nd rfl (.inl rfl) pe_int)
    (pss_cons (ps_for PassesOwn.never rfl (pi_list (pv 0)) (pg_name (i := 3) nd rfl (.inl rfl)) (pss_cons (ps_if (PW.pt (pw_or (pt_not (pt_val (pe_call Gis_whole.ok (hr.mono (by decide)) (by rfl) Gis_whole.m Gis_whole.kp Gis_whole.b .nil pass0 (pa_cons (pv 3) pa_nil)))) (pw_or1 (pt_not (pt_chain op_le op_lt (pv 2) (pv 3) (pv 1)))))) (pss_one (ps_ret pe_bl)) pss_nil)
      (pss_one (ps_set (i := 2) nd rfl (.inl rfl) (pe_op op_add (pv 3) pe_int)))))
    (pss_one (ps_ret (pe_cmpR op_gt (pe_callB call_len_seq (by rfl) M.len PySem.boot_len (pa_cons (pv 0) pa_nil)) pe_int (nomark _)))))), ?_⟩
  refine ⟨_, rfl, le_line (n := 2) (by decide), fun t ht => ?_⟩
  have st := same_new ht (.tup [.ty "list", .ty "tuple"])
  refine ⟨_, t, _, _, _, true, rfl, upd_same, .cons (.ty "list") (.cons (.ty "tuple") .nil), .base (.lst (st _ _ ea)), kitAny_cons (b := true) (kit_ty (by decide +kernel)) (fun z => nomatch z) (fun _ => rfl), true, rfl, iteF ?_⟩
  have hlen : xs.length ≤ 1000 := ha.2.2.2
  refine ⟨_, rfl, a, rfl, ⟨_, SqL.of (st _ _ ea)⟩, for_list (xs := xs.map V.int) (fun i σ H' => Same H H' ∧ ∃ (l : Int) (y : Option V), (l = 0 ∨ ∃ j z, j < i ∧ xs[j]? = some z ∧ l = z + 1) ∧ σ = [some (.ref a), some (.int n), some (.int l), y]) ⟨st, 0, Option.none, .inl rfl, rfl⟩ (fun i σ H' _ z => SqL.of (z.1 _ _ ea)) ?_ ?_⟩
  · rintro i x σ H' hx ⟨sm, l, y, hl, rfl⟩
    obtain ⟨z, hz, rfl⟩ := map_at hx
    obtain ⟨h1, h2⟩ := asc_step ha hz l hl
    refine ⟨_, rfl, _, rfl, true, rfl, iteF ?_⟩
    refine ⟨_, rfl, _, rfl, _, _, rfl, rfl, _, rfl, ?_⟩
    rw [if_pos (decide_eq_true h1)]
    refine ⟨_, rfl, _, _, rfl, rfl, true, congrArg V.bl (decide_eq_true h2), iteF ?_⟩
    refine ⟨_, rfl, _, _, rfl, rfl, ?_⟩
    exact ⟨sm, z + 1, _, .inr ⟨i, z, Nat.lt_succ_self _, hz, rfl⟩, rfl⟩
  · rintro σ H' ⟨sm, l, y, hl, rfl⟩
    refine ⟨_, rfl, a, _, rfl, .inl (SqL.of (sm _ _ ea)), _, _, rfl, rfl, ?_⟩
    have e : decide ((0 : Int) < (((xs.map V.int).length : Nat) : Int)) = true := decide_eq_true (by
      rw [List.length_map]
      have := List.length_pos_iff.mpr ha.2.2.1
      omega)
    show Q (.bl (decide ((0 : Int) < (((xs.map V.int).length : Nat) : Int)))) H'
    rw [e]
    exact q H' sm
/-! ### as_tuples: of an int, of a list of ints, of a list of such lists -/
def spAs0 : Sp := fun vs H Q _ => ∃ i : Int, vs = [.int i] ∧ ∀ H', Same H H' → Q (.int i) H'
def spAs1 : Sp := fun vs H Q _ => ∃ (a : Addr) (xs : List Int), vs = [.ref a] ∧ H a = some (.lst (xs.map V.int)) ∧ xs.length ≤ 1000 ∧ ∀ p H', Same H H' → H p = none → H' p = some (.tup (xs.map V.int)) → Q (.ref p) H'
def spAs2 : Sp := fun vs H Q _ => ∃ (a : Addr) (rs : List Addr) (xss : List (List Int)), vs = [.ref a] ∧ H a = some (.lst (rs.map V.ref)) ∧ Paired (fun r xs => H r = some (.lst (xs.map V.int))) rs xss ∧ rs.length ≤ 1000 ∧ (∀ xs ∈ xss, xs.length ≤ 1000) ∧
  ∀ p ts H', Same H H' → H p = none → H' p = some (.tup (ts.map V.ref)) → Paired (fun t xs => H' t = some (.tup (xs.map V.int))) ts xss → Q (.ref p) H'
theorem ok_as0 {f : Addr} {fd : FuncData} (F : Fun K "as_tuples" "as_tuples" s_as_tuples f fd) (bA : Binds K fd ["value"] []) (mA : mg "as_tuples" = some (.ref f)) : FnOk P w K mg base CX0 1 f fd ["value"] spAs0 := by
  refine F.ok sc_as_tuples (fun vs H Q E h => ?_) (fun cdv A outer s H vs Q E hr h => ?_)
  · obtain ⟨i, rfl, _⟩ := h
    rfl
  obtain ⟨i, rfl, q⟩ := h
  have Gas_tuples : Kn P w K mg base 0 "as_tuples" ["value"] (fun _ _ _ _ => False) := ⟨f, fd, neverOk fun _ _ _ _ h => h, bA, F.kp, mA⟩
  have nd := sc_as_tuples.nd
  refine ⟨_, pss_cons (ps_if (pt_val (pe_callB call_isiT (by rfl) M.isinstance boot_isinstance (pa_cons (pv 0) (pa_cons (pe_tup (pa_cons (pe_bltn (v := .ty "list") (by rfl) M.list PyProof.Rows.boot_list rfl) (pa_cons (pe_bltn (v := .ty "tuple") (by rfl) M.tuple PyProof.Rows.boot_tuple rfl) pa_nil))) pa_nil)))) (pss_one (ps_ret (pe_tupleOf (by rfl) M.tuple (pe_lc (own := [("item", 1)]) (g := gName 1) (tt := tYes) rfl nd (pi_list (pv 0)) (blkOk_by (N := n_as_tuples) (sc := defScope s_as_tuples) (by decide +kernel)) (fun _ _ _ _ _ => pg_name (i := 1) nd rfl (Or.inl rfl)) (fun _ _ _ _ _ => pts_nil) (fun _ _ _ _ _ => (pe_call Gas_tuples.ok (hr.mono (by decide)) (by rfl) Gas_tuples.m Gas_tuples.kp Gas_tuples.b .nil pass0 (pa_cons (pv 1) pa_nil))))))) pss_nil)
    (pss_one (ps_ret (pv 0))), ?_⟩
  refine ⟨_, rfl, le_line (n := 2) (by decide), fun t ht => ?_⟩
  refine ⟨_, t, _, _, _, false, rfl, upd_same, .cons (.ty "list") (.cons (.ty "tuple") .nil), .base (.int i), kitAny_cons (b := false) (kit_ty (by decide +kernel)) (fun _ => kitAny_cons (b := false) (kit_ty (by decide +kernel)) (fun _ => kitAny_nil) (fun z => nomatch z)) (fun z => nomatch z), false, rfl, iteF ?_⟩
  exact ⟨_, rfl, q _ (same_new ht _)⟩
theorem ok_as1 {f : Addr} {fd : FuncData} (F : Fun K "as_tuples" "as_tuples" s_as_tuples f fd) (Gas_tuples : Kn P w K mg base 1 "as_tuples" ["value"] spAs0) : FnOk P w K mg base CX0 2 f fd ["value"] spAs1 := by
  refine F.ok sc_as_tuples (fun vs H Q E h => ?_) (fun cdv A outer s H vs Q E hr h => ?_)
  · obtain ⟨a, xs, rfl, _⟩ := h
    rfl
  obtain ⟨a, xs, rfl, ea, hl, q⟩ := h
  have nd := sc_as_tuples.nd
  refine ⟨_, pss_cons (ps_if (pt_val (pe_callB call_isiT (by rfl) M.isinstance boot_isinstance (pa_cons (pv 0) (pa_cons (pe_tup (pa_cons (pe_bltn (v := .ty "list") (by rfl) M.list PyProof.Rows.boot_list rfl) (pa_cons (pe_bltn (v := .ty "tuple") (by rfl) M.tuple PyProof.Rows.boot_tuple rfl) pa_nil))) pa_nil)))) (pss_one (ps_ret (pe_tupleOf (by rfl) M.tuple (pe_lc (own := [("item", 1)]) (g := gName 1) (tt := tYes) rfl nd (pi_list (pv 0)) (blkOk_by (N := n_as_tuples) (sc := defScope s_as_tuples) (by decide +kernel)) (fun _ _ _ _ _ => pg_name (i := 1) nd rfl (Or.inl rfl)) (fun _ _ _ _ _ => pts_nil) (fun _ _ _ _ _ => (pe_call Gas_tuples.ok (hr.mono (by decide)) (by rfl) Gas_tuples.m Gas_tuples.kp Gas_tuples.b .nil pass0 (pa_cons (pv 1) pa_nil))))))) pss_nil)
    (pss_one (ps_ret (pv 0))), ?_⟩
  refine ⟨_, rfl, le_line (n := 2) (by decide), fun t ht => ?_⟩
  have st := same_new ht (.tup [.ty "list", .ty "tuple"])
  refine ⟨_, t, _, _, _, true, rfl, upd_same, .cons (.ty "list") (.cons (.ty "tuple") .nil), .base (.lst (st _ _ ea)), kitAny_cons (b := true) (kit_ty (by decide +kernel)) (fun z => nomatch z) (fun _ => rfl), true, rfl, iteT ?_⟩
  refine ⟨_, rfl, a, rfl, ⟨_, SqL.of (st _ _ ea)⟩, fun D hD => ?_⟩
  refine lc_list (xs := xs.map V.int) (fun i H' => Same H H' ∧ H' D = some (.lst ((xs.take i).map V.int))) ⟨st.trans (same_new hD _), upd_same⟩ (fun i H' _ z => SqL.of (z.1 _ _ ea)) ?_ ?_
  · rintro i x H1 hx ⟨sm, eD⟩
    obtain ⟨z, hz, rfl⟩ := map_at hx
    refine ⟨rfl, tYI ?_⟩
    refine ⟨_, rfl, z, rfl, fun H2 s2 => ⟨_, s2 _ _ eD, ?_, same_upd (sm.trans s2) (st.free hD) _, ?_⟩⟩
    · rw [List.length_map]; exact lt_line (Nat.le_trans (List.length_take_le' _ _) hl)
    · rw [upd_same, tk1 hz, List.map_append]; rfl
  · rintro H1 ⟨sm, eD⟩
    rw [List.length_map, List.take_length] at eD
    refine .inl ⟨D, _, rfl, SqL.of eD, fun u hu => ?_⟩
    exact q u _ (sm.trans (same_new hu _)) (sm.free hu) upd_same
theorem ok_as2 {f : Addr} {fd : FuncData} (F : Fun K "as_tuples" "as_tuples" s_as_tuples f fd) (Gas_tuples : Kn P w K mg base 2 "as_tuples" ["value"] spAs1) : FnOk P w K mg base CX0 3 f fd ["value"] spAs2 := by
  refine F.ok sc_as_tuples (fun vs H Q E h => ?_) (fun cdv A outer s H vs Q E hr h => ?_)
  · obtain ⟨a, rs, xss, rfl, _⟩ := h
    rfl
  obtain ⟨a, rs, xss, rfl, ea, pr, hl, hls, q⟩ := h
  have nd := sc_as_tuples.nd
  refine ⟨_, pss_cons (ps_if (pt_val (pe_callB call_isiT (by rfl) M.isinstance boot_isinstance (pa_cons (pv 0) (pa_cons (pe_tup (pa_cons (pe_bltn (v := .ty "list") (by rfl) M.list PyProof.Rows.boot_list rfl) (pa_cons (pe_bltn (v := .ty "tuple") (by rfl) M.tuple PyProof.Rows.boot_tuple rfl) pa_nil))) pa_nil)))) (pss_one (ps_ret (pe_tupleOf (by rfl) M.tuple (pe_lc (own := [("item", 1)]) (g := gName 1) (tt := tYes) rfl nd (pi_list (pv 0)) (blkOk_by (N := n_as_tuples) (sc := defScope s_as_tuples) (by decide +kernel)) (fun _ _ _ _ _ => pg_name (i := 1) nd rfl (Or.inl rfl)) (fun _ _ _ _ _ => pts_nil) (fun _ _ _ _ _ => (pe_call Gas_tuples.ok (hr.mono (by decide)) (by rfl) Gas_tuples.m Gas_tuples.kp Gas_tuples.b .nil pass0 (pa_cons (pv 1) pa_nil))))))) pss_nil)
    (pss_one (ps_ret (pv 0))), ?_⟩
  refine ⟨_, rfl, le_line (n := 2) (by decide), fun t ht => ?_⟩
  have st := same_new ht (.tup [.ty "list", .ty "tuple"])
  refine ⟨_, t, _, _, _, true, rfl, upd_same, .cons (.ty "list") (.cons (.ty "tuple") .nil), .base (.lst (st _ _ ea)), kitAny_cons (b := true) (kit_ty (by decide +kernel)) (fun z => nomatch z) (fun _ => rfl), true, rfl, iteT ?_⟩
  refine ⟨_, rfl, a, rfl, ⟨_, SqL.of (st _ _ ea)⟩, fun D hD => ?_⟩
  refine lc_list (xs := rs.map V.ref) (fun i H' => Same H H' ∧ ∃ ts : List Addr, H' D = some (.lst (ts.map V.ref)) ∧ Paired (fun t xs => t ≠ D ∧ H' t = some (.tup (xs.map V.int))) ts (xss.take i)) ⟨st.trans (same_new hD _), [], upd_same, .nil⟩ (fun i H' _ z => SqL.of (z.1 _ _ ea)) ?_ ?_
  · rintro i x H1 hx ⟨sm, ts, eD, pt⟩
    obtain ⟨r, hr', rfl⟩ := map_atV hx
    obtain ⟨xs, hxs, er⟩ := pr_get pr hr'
    have li := lt_of_at hxs
    have lt : ts.length = i := by rw [pt.length, List.length_take, Nat.min_eq_left (Nat.le_of_lt li)]
    refine ⟨rfl, tYI ?_⟩
    refine ⟨_, rfl, r, xs, rfl, sm _ _ er, hls xs (List.mem_of_getElem? hxs), fun p H2 s2 hp e2 => ⟨_, s2 _ _ eD, ?_, same_upd (sm.trans s2) (st.free hD) _, ts ++ [p], ?_, ?_⟩⟩
    · rw [List.length_map, lt]; exact lt_line (by have := lt_of_at hr'; omega)
    · rw [upd_same, List.map_append]; rfl
    · have hpD : p ≠ D := fun z => by rw [z, eD] at hp; cases hp
      rw [tk1 hxs]
      exact (L2.Paired.mapP pt fun b ys z => ⟨z.1, by rw [upd_ne z.1]; exact s2 _ _ z.2⟩).snoc ⟨hpD, by rw [upd_ne hpD]; exact e2⟩
  · rintro H1 ⟨sm, ts, eD, pt⟩
    rw [List.length_map, pr.length, List.take_length] at pt
    refine .inl ⟨D, _, rfl, SqL.of eD, fun u hu => ?_⟩
    have su := same_new hu (.tup (ts.map V.ref))
    exact q u ts _ (sm.trans su) (sm.free hu) upd_same (L2.Paired.mapP pt fun b ys z => su _ _ z.2)
end
end GM
set_option Elab.async false
set_option linter.all false
set_option maxRecDepth 100000
set_option maxHeartbeats 4000000
set_option pp.maxSteps 150
set_option pp.deepTerms false
namespace GM
open PySem PySem.Spec PyProof.Rows L2
/-! ### games -/
/-- what the walk asks of the class Game as the top has made it -/
structure GTxt (K : PySem.W.Frag) (mg : Str → Option Value) (C : Addr) : Prop where
  cl : Cls K C
  nO : NoAttr K C "owners"
  nP : NoAttr K C "priorities"
  nS : NoAttr K C "successors"
  nT : NoAttr K C "top"
  nH : NoAttr K C "height"
  nC : NoAttr K C "ceiling"
  mgC : mg "Game" = some (.ref C)
  gp : ∃ t, mg "GREATEST_PRIORITY" = some (.int 30 t)
def fl1 (a : Addr) : List (Str × V) := putF "owners" (.ref a) []
def fl2 (a b : Addr) : List (Str × V) := putF "priorities" (.ref b) (fl1 a)
def fl3 (a b c : Addr) : List (Str × V) := putF "successors" (.ref c) (fl2 a b)
def fl4 (a b c : Addr) (m : Int) : List (Str × V) := putF "top" (.int m) (fl3 a b c)
def fl5 (a b c : Addr) (m : Int) : List (Str × V) := putF "height" (.int ((m + 1) / 2)) (fl4 a b c m)
def flds (a b c : Addr) (m : Int) : List (Str × V) := putF "ceiling" (.int (m + 2 - m % 2)) (fl5 a b c m)
theorem putF_len (f : Str) (v : V) : ∀ l : List (Str × V), (putF f v l).length ≤ l.length + 1
  | [] => Nat.le_refl _
  | (g, x) :: r => by
    show (if g = f then (g, v) :: r else (g, x) :: putF f v r).length ≤ _
    by_cases h : g = f
    · rw [if_pos h]; exact Nat.le_succ _
    · rw [if_neg h]; exact Nat.succ_le_succ (putF_len f v r)
theorem fl1_len (a : Addr) : (fl1 a).length ≤ 1 := putF_len _ _ _
theorem fl2_len (a b : Addr) : (fl2 a b).length ≤ 2 := Nat.le_trans (putF_len _ _ _) (Nat.succ_le_succ (fl1_len a))
theorem fl3_len (a b c : Addr) : (fl3 a b c).length ≤ 3 := Nat.le_trans (putF_len _ _ _) (Nat.succ_le_succ (fl2_len a b))
theorem fl4_len (a b c : Addr) (m : Int) : (fl4 a b c m).length ≤ 4 := Nat.le_trans (putF_len _ _ _) (Nat.succ_le_succ (fl3_len a b c))
theorem fl5_len (a b c : Addr) (m : Int) : (fl5 a b c m).length ≤ 5 := Nat.le_trans (putF_len _ _ _) (Nat.succ_le_succ (fl4_len a b c m))
theorem fl3_pri (a b c : Addr) : (fl3 a b c).lookup ("priorities" : Str) = some (.ref b) := by
  unfold fl3 fl2
  rw [lookup_putF, if_neg (by decide +kernel), lookup_putF, if_pos rfl]
theorem fl4_top (a b c : Addr) (m : Int) : (fl4 a b c m).lookup ("top" : Str) = some (.int m) := by
  unfold fl4
  rw [lookup_putF, if_pos rfl]
theorem fl5_top (a b c : Addr) (m : Int) : (fl5 a b c m).lookup ("top" : Str) = some (.int m) := by
  unfold fl5
  rw [lookup_putF, if_neg (by decide +kernel), fl4_top]
theorem fld_own (a b c : Addr) (m : Int) : (flds a b c m).lookup ("owners" : Str) = some (.ref a) := by
  unfold flds fl5 fl4 fl3 fl2 fl1
  rw [lookup_putF, if_neg (by decide +kernel), lookup_putF, if_neg (by decide +kernel), lookup_putF, if_neg (by decide +kernel), lookup_putF, if_neg (by decide +kernel), lookup_putF, if_neg (by decide +kernel), lookup_putF, if_pos rfl]
theorem fld_pri (a b c : Addr) (m : Int) : (flds a b c m).lookup ("priorities" : Str) = some (.ref b) := by
  unfold flds fl5 fl4
  rw [lookup_putF, if_neg (by decide +kernel), lookup_putF, if_neg (by decide +kernel), lookup_putF, if_neg (by decide +kernel), fl3_pri]
theorem fld_suc (a b c : Addr) (m : Int) : (flds a b c m).lookup ("successors" : Str) = some (.ref c) := by
  unfold flds fl5 fl4 fl3
  rw [lookup_putF, if_neg (by decide +kernel), lookup_putF, if_neg (by decide +kernel), lookup_putF, if_neg (by decide +kernel), lookup_putF, if_pos rfl]
theorem fld_top (a b c : Addr) (m : Int) : (flds a b c m).lookup ("top" : Str) = some (.int m) := by
  unfold flds
  rw [lookup_putF, if_neg (by decide +kernel), fl5_top]
theorem fld_hei (a b c : Addr) (m : Int) : (flds a b c m).lookup ("height" : Str) = some (.int ((m + 1) / 2)) := by
  unfold flds fl5
  rw [lookup_putF, if_neg (by decide +kernel), lookup_putF, if_pos rfl]
theorem fld_cei (a b c : Addr) (m : Int) : (flds a b c m).lookup ("ceiling" : Str) = some (.int (m + 2 - m % 2)) := by
  unfold flds
  rw [lookup_putF, if_pos rfl]
theorem fld_no (a b c : Addr) (m : Int) {g : Str} (h1 : ¬ g = "ceiling") (h2 : ¬ g = "height") (h3 : ¬ g = "top") (h4 : ¬ g = "successors") (h5 : ¬ g = "priorities") (h6 : ¬ g = "owners") : (flds a b c m).lookup g = none := by
  unfold flds fl5 fl4 fl3 fl2 fl1
  rw [lookup_putF, if_neg h1, lookup_putF, if_neg h2, lookup_putF, if_neg h3, lookup_putF, if_neg h4, lookup_putF, if_neg h5, lookup_putF, if_neg h6]
  rfl
/-- the greatest of these, 0 if there is none -/
def IsTop (m : Int) (ps : List Int) : Prop := (ps = [] ∧ m = 0) ∨ (m ∈ ps ∧ ∀ y ∈ ps, y ≤ m)
/-- a game stands at p -/
structure GameAt (C : Addr) (H : Hp) (p : Addr) (os ps : List Int) (rows : List (List Int)) (dx a b c : Addr) (ts : List Addr) (m : Int) : Prop where
  ob : H p = some (.ins C dx (flds a b c m))
  oa : H a = some (.tup (os.map V.int))
  ob2 : H b = some (.tup (ps.map V.int))
  oc : H c = some (.tup (ts.map V.ref))
  or : Paired (fun t xs => H t = some (.tup (xs.map V.int))) ts rows
  top : IsTop m ps
theorem GameAt.same {C : Addr} {H H' : Hp} {p : Addr} {os ps : List Int} {rows : List (List Int)} {dx a b c : Addr} {ts : List Addr} {m : Int} (g : GameAt C H p os ps rows dx a b c ts m) (s : Same H H') : GameAt C H' p os ps rows dx a b c ts m :=
  ⟨s _ _ g.ob, s _ _ g.oa, s _ _ g.ob2, s _ _ g.oc, L2.Paired.mapP g.or fun _ _ e => s _ _ e, g.top⟩
/-- what makes a game -/
structure Valid (os ps : List Int) (rows : List (List Int)) : Prop where
  l1 : ps.length = os.length
  l2 : rows.length = os.length
  n : os.length ≤ 1000
  o : ∀ x ∈ os, 0 ≤ x ∧ x ≤ 1
  p : ∀ x ∈ ps, 0 ≤ x ∧ x ≤ 30
  r : ∀ x ∈ rows, Asc (os.length : Nat) x
/-- all but the object at p is kept -/
def Kp (H H' : Hp) (p : Addr) : Prop := ∀ q o, H q = some o → q ≠ p → H' q = some o
theorem Kp.new {H H' : Hp} {p x : Addr} (k : Kp H H' p) (h : H' x = none) (o : HO) : Kp H (upd H' x o) p := fun q u e n => by
  have := k q u e n
  rw [upd_ne (ne_of_none this h)]; exact this
theorem Kp.upd {H H' : Hp} {p : Addr} (k : Kp H H' p) (o : HO) : Kp H (upd H' p o) p := fun q u e n => by
  rw [upd_ne n]; exact k q u e n
theorem Kp.same {H H' H2 : Hp} {p : Addr} (k : Kp H H' p) (s : Same H' H2) : Kp H H2 p := fun q u e n => s _ _ (k q u e n)
theorem pr_kp {H H' : Hp} {p C dx : Addr} {fs : List (Str × V)} {rs : List Addr} {rows : List (List Int)} (er : Paired (fun r xs => H r = some (.lst (xs.map V.int))) rs rows) (k : Kp H H' p) (hp : H p = some (.ins C dx fs)) :
    Paired (fun r xs => H' r = some (.lst (xs.map V.int))) rs rows := L2.Paired.mapP er fun r xs e => k _ _ e (ne_of e hp (fun z => nomatch z))
def spInit (C : Addr) : Sp := fun vs H Q _ => ∃ (p dx a b c : Addr) (os ps : List Int) (rs : List Addr) (rows : List (List Int)), vs = [.ref p, .ref a, .ref b, .ref c] ∧ H p = some (.ins C dx []) ∧ H a = some (.lst (os.map V.int)) ∧ H b = some (.lst (ps.map V.int)) ∧ H c = some (.lst (rs.map V.ref)) ∧
  Paired (fun r xs => H r = some (.lst (xs.map V.int))) rs rows ∧ Valid os ps rows ∧
  ∀ H' a' b' c' ts m, GameAt C H' p os ps rows dx a' b' c' ts m → (∀ q o, H q = some o → q ≠ p → H' q = some o) → Q .non H'
section
variable {P : Program} {w : World} {K : PySem.W.Frag} {mg : Str → Option Value} {base : Heap} {C : Addr} (M : Blt mg) (T : GTxt K mg C)
include M T
theorem ok_init {f : Addr} {fd : FuncData} (F : Fun K "__init__" "Game.__init__" s_Game___init__ f fd) (Gis_number_to : Kn P w K mg base 2 "is_number_to" ["value", "most"] spNumTo) (Gare_successors : Kn P w K mg base 2 "are_successors" ["value", "count"] spSucc)
    (Gas_tuples : Kn P w K mg base 3 "as_tuples" ["value"] spAs2) :
    FnOk P w K mg base CX0 4 f fd ["self", "owners", "priorities", "successors"] (spInit C) := by
  refine F.ok sc_Game___init__ (fun vs H Q E h => ?_) (fun cdv A outer s H vs Q E hr h => ?_)
  · obtain ⟨p, dx, a, b, c, os, ps, rs, rows, rfl, _⟩ := h
    rfl
  obtain ⟨p, dx, a, b, c, os, ps, rs, rows, rfl, hp, ea, eb, ec, er, V0, q⟩ := h
  obtain ⟨tg, egp⟩ := T.gp
  have hu := hr.units
  have nd := sc_Game___init__.nd
  refine ⟨_, pss_cons (ps_for PassesOwn.never rfl (pi_range1 rfl M.range (pa_cons (pe_callB call_len_seq (by rfl) M.len PySem.boot_len (pa_cons (pv 1) pa_nil)) pa_nil)) (pg_name (i := 4) nd rfl (.inl rfl)) (pss_one (ps_if (pt_not (PW.pt (pw_and (pt_val (pe_call Gis_number_to.ok (hr.mono (by decide)) (by rfl) Gis_number_to.m Gis_number_to.kp Gis_number_to.b .nil pass0 (pa_cons (pe_ix ix_list (pv 1) (pv 4) (fun _ _ => rfl)) (pa_cons pe_int pa_nil)))) (pw_and (pt_val (pe_call Gis_number_to.ok (hr.mono (by decide)) (by rfl) Gis_number_to.m Gis_number_to.kp Gis_number_to.b .nil pass0 (pa_cons (pe_ix ix_list (pv 2) (pv 4) (fun _ _ => rfl)) (pa_cons (pe_glob (v := .int 30) (by rfl) egp ⟨_, rfl⟩) pa_nil)))) (pw_and1 (pt_val (pe_call Gare_successors.ok (hr.mono (by decide)) (by rfl) Gare_successors.m Gare_successors.kp Gare_successors.b .nil pass0 (pa_cons (pe_ix ix_list (pv 3) (pv 4) (fun _ _ => rfl)) (pa_cons (pe_callB call_len_seq (by rfl) M.len PySem.boot_len (pa_cons (pv 1) pa_nil)) pa_nil))))))))) (pss_one ps_never) pss_nil)))
    (pss_cons (ps_fld (pv 0) (pe_tupleOf (by rfl) M.tuple (pv 1)) rfl)
    (pss_cons (ps_fld (pv 0) (pe_tupleOf (by rfl) M.tuple (pv 2)) rfl)
    (pss_cons (ps_fld (pv 0) (pe_call Gas_tuples.ok (hr.mono (by decide)) (by rfl) Gas_tuples.m Gas_tuples.kp Gas_tuples.b .nil pass0 (pa_cons (pv 3) pa_nil)) rfl)
    (pss_cons (ps_fld (pv 0) (pe_callBK (cr_maxDef rfl (Nat.lt_of_le_of_lt (Nat.add_le_add_left (by decide) _) hu)) (by rfl) M.max (by decide +kernel) (pa_cons (pe_fld (pv 0) rfl) pa_nil) (pk_cons pe_int pk_nil)) rfl)
    (pss_cons (ps_fld (pv 0) (pe_op op_fdiv (pe_op op_add (pe_fld (pv 0) rfl) pe_int) pe_int) rfl)
    (pss_one (ps_fld (pv 0) (pe_op op_sub (pe_op op_add (pe_fld (pv 0) rfl) pe_int) (pe_op op_mod (pe_fld (pv 0) rfl) pe_int)) rfl))))))), ?_⟩
  have n1 := V0.n
  refine ⟨_, rfl, a, _, rfl, .inl (SqL.of ea), _, rfl, (by rw [List.length_map]; omega), (by rw [List.length_map]; omega), ?_⟩
  have hn : (((os.map V.int).length : Nat) : Int).toNat = os.length := by rw [List.length_map]; rfl
  rw [hn]
  refine for_range (n := os.length) (fun i σ H' => Same H H' ∧ ∃ y : Option V, σ = [some (.ref p), some (.ref a), some (.ref b), some (.ref c), y]) ⟨fun _ _ e => e, Option.none, rfl⟩ ?_ ?_
  · rintro i σ H' hi ⟨sm, y, rfl⟩
    have eo : os[i]? = some os[i] := List.getElem?_eq_getElem hi
    have hip : i < ps.length := by rw [V0.l1]; exact hi
    have hir : i < rows.length := by rw [V0.l2]; exact hi
    have ep : ps[i]? = some ps[i] := List.getElem?_eq_getElem hip
    have erw : rows[i]? = some rows[i] := List.getElem?_eq_getElem hir
    obtain ⟨r, hr', ex⟩ := pr_getR er erw
    have b1 := V0.o _ (List.getElem_mem hi)
    have b2 := V0.p _ (List.getElem_mem hip)
    have b3 := V0.r _ (List.getElem_mem hir)
    refine ⟨_, rfl, _, rfl, a, _, _, _, rfl, rfl, SqL.of (sm _ _ ea), (by rw [Int.zero_add]; exact atI_nat (at_map eo)), os[i], 1, rfl, b1.1, b1.2, true, rfl, iteT ?_⟩
    refine ⟨_, rfl, _, rfl, b, _, _, _, rfl, rfl, SqL.of (sm _ _ eb), (by rw [Int.zero_add]; exact atI_nat (at_map ep)), ps[i], 30, rfl, b2.1, b2.2, true, rfl, iteT ?_⟩
    refine ⟨_, rfl, _, rfl, c, _, _, _, rfl, rfl, SqL.of (sm _ _ ec), (by rw [Int.zero_add]; exact atI_nat (at_map hr')), _, rfl, a, _, rfl, .inl (SqL.of (sm _ _ ea)), r, rows[i], _, rfl, sm _ _ ex, (by rw [List.length_map]; exact b3), fun H2 s2 => ⟨true, rfl, iteF ?_⟩⟩
    exact ⟨sm.trans s2, _, rfl⟩
  · rintro σ H0 ⟨sm0, y, rfl⟩
    have hp0 := sm0 _ _ hp
    have kp0 : Kp H H0 p := fun q o e _ => sm0 _ _ e
    have npa : ∀ {x : Addr} {l : List V}, H x = some (.lst l) → x ≠ p := fun e => ne_of e hp (fun z => nomatch z)
    refine ⟨_, rfl, .inl ⟨a, _, rfl, SqL.of (kp0 _ _ ea (npa ea)), fun a' ha' => ?_⟩⟩
    have s1 := same_new ha' (.tup (os.map V.int))
    refine ⟨_, rfl, p, C, dx, _, rfl, s1 _ _ hp0, T.cl, T.nO, by decide, ?_⟩
    have pa : a' ≠ p := (ne_of_none hp0 ha').symm
    have kp1 : Kp H (upd (upd H0 a' (.tup (os.map V.int))) p (.ins C dx (fl1 a'))) p := (kp0.new ha' _).upd _
    have ga1 : (upd (upd H0 a' (.tup (os.map V.int))) p (.ins C dx (fl1 a'))) a' = some (.tup (os.map V.int)) := by rw [upd_ne pa, upd_same]
    have gp1 : (upd (upd H0 a' (.tup (os.map V.int))) p (.ins C dx (fl1 a'))) p = some (.ins C dx (fl1 a')) := upd_same
    show tSeq _ _ _ [some (.ref p), some (.ref a), some (.ref b), some (.ref c), y] (upd (upd H0 a' (.tup (os.map V.int))) p (.ins C dx (fl1 a')))
    generalize (upd (upd H0 a' (.tup (os.map V.int))) p (.ins C dx (fl1 a'))) = G1 at kp1 ga1 gp1 ⊢
    refine ⟨_, rfl, .inl ⟨b, _, rfl, SqL.of (kp1 _ _ eb (npa eb)), fun b' hb' => ?_⟩⟩
    have s2 := same_new hb' (.tup (ps.map V.int))
    refine ⟨_, rfl, p, C, dx, _, rfl, s2 _ _ gp1, T.cl, T.nP, Nat.lt_of_le_of_lt (fl1_len a') (by decide), ?_⟩
    have pb : b' ≠ p := (ne_of_none gp1 hb').symm
    have kp2 : Kp H (upd (upd G1 b' (.tup (ps.map V.int))) p (.ins C dx (fl2 a' b'))) p := (kp1.new hb' _).upd _
    have ga2 : (upd (upd G1 b' (.tup (ps.map V.int))) p (.ins C dx (fl2 a' b'))) a' = some (.tup (os.map V.int)) := by rw [upd_ne pa]; exact s2 _ _ ga1
    have gb2 : (upd (upd G1 b' (.tup (ps.map V.int))) p (.ins C dx (fl2 a' b'))) b' = some (.tup (ps.map V.int)) := by rw [upd_ne pb, upd_same]
    have gp2 : (upd (upd G1 b' (.tup (ps.map V.int))) p (.ins C dx (fl2 a' b'))) p = some (.ins C dx (fl2 a' b')) := upd_same
    show tSeq _ _ _ [some (.ref p), some (.ref a), some (.ref b), some (.ref c), y] (upd (upd G1 b' (.tup (ps.map V.int))) p (.ins C dx (fl2 a' b')))
    generalize (upd (upd G1 b' (.tup (ps.map V.int))) p (.ins C dx (fl2 a' b'))) = G2 at kp2 ga2 gb2 gp2 ⊢
    refine ⟨_, rfl, c, rs, rows, rfl, kp2 _ _ ec (npa ec), pr_kp er kp2 hp, ?_, fun xs hx => (V0.r xs hx).2.2.2, fun c' ts G3 s3 hc' gc3 gr3 => ?_⟩
    · rw [er.length, V0.l2]; exact V0.n
    refine ⟨_, rfl, p, C, dx, _, rfl, s3 _ _ gp2, T.cl, T.nS, Nat.lt_of_le_of_lt (fl2_len a' b') (by decide), ?_⟩
    have pc : c' ≠ p := (ne_of_none gp2 hc').symm
    have pt : ∀ {x : Addr} {l : List V}, G3 x = some (.tup l) → x ≠ p := fun e => ne_of e (s3 _ _ gp2) (fun z => nomatch z)
    have kp4 : Kp H (upd G3 p (.ins C dx (fl3 a' b' c'))) p := (kp2.same s3).upd _
    have ga4 : (upd G3 p (.ins C dx (fl3 a' b' c'))) a' = some (.tup (os.map V.int)) := by rw [upd_ne pa]; exact s3 _ _ ga2
    have gb4 : (upd G3 p (.ins C dx (fl3 a' b' c'))) b' = some (.tup (ps.map V.int)) := by rw [upd_ne pb]; exact s3 _ _ gb2
    have gc4 : (upd G3 p (.ins C dx (fl3 a' b' c'))) c' = some (.tup (ts.map V.ref)) := by rw [upd_ne pc]; exact gc3
    have gr4 : Paired (fun t xs => (upd G3 p (.ins C dx (fl3 a' b' c'))) t = some (.tup (xs.map V.int))) ts rows := L2.Paired.mapP gr3 fun t xs e => by rw [upd_ne (pt e)]; exact e
    have gp4 : (upd G3 p (.ins C dx (fl3 a' b' c'))) p = some (.ins C dx (fl3 a' b' c')) := upd_same
    show tSeq _ _ _ [some (.ref p), some (.ref a), some (.ref b), some (.ref c), y] (upd G3 p (.ins C dx (fl3 a' b' c')))
    generalize (upd G3 p (.ins C dx (fl3 a' b' c'))) = G4 at kp4 ga4 gb4 gc4 gr4 gp4 ⊢
    -- top
    have fin : ∀ m : Int, IsTop m ps → ∀ (D : Ends), D = { nx := fun x H' => Q V.non H', rt := Q } → sFld K (tVar 0) (tC (.int m)) "top" { D with nx := tSeq (sFld K (tVar 0) (tOp (rI CDiv fun i j => .int (i / j)) (tOp (rI0 fun i j => .int (i + j)) (tFld K (tVar 0) "top") (tC (.int 1))) (tC (.int 2))) "height") (sFld K (tVar 0) (tOp (rI0 fun i j => .int (i - j)) (tOp (rI0 fun i j => .int (i + j)) (tFld K (tVar 0) "top") (tC (.int 2))) (tOp (rI (fun _ j => 0 < j) fun i j => .int (i % j)) (tFld K (tVar 0) "top") (tC (.int 2)))) "ceiling") D } [some (.ref p), some (.ref a), some (.ref b), some (.ref c), y] G4 := by
      rintro m hm D rfl
      refine ⟨_, rfl, p, C, dx, _, rfl, gp4, T.cl, T.nT, Nat.lt_of_le_of_lt (fl3_len a' b' c') (by decide), ?_⟩
      refine ⟨_, rfl, p, C, dx, _, _, rfl, upd_same, T.cl, T.nT, fl4_top a' b' c' m, _, _, rfl, rfl, _, _, rfl, rfl, ⟨by decide, by decide⟩, _, rfl, p, C, dx, _, rfl, upd_same, T.cl, T.nH, Nat.lt_of_le_of_lt (fl4_len a' b' c' m) (by decide), ?_⟩
      refine ⟨_, rfl, p, C, dx, _, _, rfl, upd_same, T.cl, T.nT, fl5_top a' b' c' m, _, _, rfl, rfl, _, rfl, p, C, dx, _, _, rfl, upd_same, T.cl, T.nT, fl5_top a' b' c' m, _, _, rfl, rfl, (by show (0 : Int) < 2; decide), _, _, rfl, rfl, _, rfl, p, C, dx, _, rfl, upd_same, T.cl, T.nC, Nat.lt_of_le_of_lt (fl5_len a' b' c' m) (by decide), ?_⟩
      have pt4 : ∀ {x : Addr} {l : List V}, G4 x = some (.tup l) → x ≠ p := fun e => ne_of e gp4 (fun z => nomatch z)
      refine q _ a' b' c' ts m ⟨upd_same, ?_, ?_, ?_, ?_, hm⟩ (((kp4.upd _).upd _).upd _)
      · rw [upd_ne pa, upd_ne pa, upd_ne pa]; exact ga4
      · rw [upd_ne pb, upd_ne pb, upd_ne pb]; exact gb4
      · rw [upd_ne pc, upd_ne pc, upd_ne pc]; exact gc4
      · exact L2.Paired.mapP gr4 fun t xs e => by rw [upd_ne (pt4 e), upd_ne (pt4 e), upd_ne (pt4 e)]; exact e
    refine ⟨_, rfl, p, C, dx, _, _, rfl, gp4, T.cl, T.nP, fl3_pri a' b' c', b', ps, 0, rfl, rfl, sqT gb4, fun e => ?_, fun m h1 h2 => ?_⟩
    · exact fin 0 (.inl ⟨e, rfl⟩) _ rfl
    · exact fin m (.inr ⟨h1, h2⟩) _ rfl
end
end GM
set_option Elab.async false
set_option linter.all false
set_option maxRecDepth 100000
set_option maxHeartbeats 4000000
set_option pp.maxSteps 150
set_option pp.deepTerms false
namespace GM
open PySem PySem.Spec PyProof.Rows L2
/-! ### _law_graph -/
theorem Dg.all : ∀ {ds ss : List Int}, Dg ds ss → ∀ {m : Int}, (∀ s ∈ ss, s ≤ m) → ∀ d ∈ ds, 0 ≤ d ∧ d < m
  | [], [], _, _, _, d, h => nomatch h
  | d :: ds, s :: ss, h, m, k, e, he => by
    rcases List.mem_cons.mp he with rfl | he
    · have := k s List.mem_cons_self
      have h2 := h.1.2
      exact ⟨h.1.1, by omega⟩
    · exact Dg.all h.2 (fun s hs => k s (List.mem_cons_of_mem _ hs)) e he
  | [], _ :: _, h, _, _, _, _ => h.elim
  | _ :: _, [], h, _, _, _, _ => h.elim
/-- a drawn game: three lists -/
structure GraphAt (H : Hp) (g : Addr) (os ps : List Int) (rows : List (List Int)) (o p s : Addr) (rs : List Addr) : Prop where
  g0 : H g = some (.lst [.ref o, .ref p, .ref s])
  o0 : H o = some (.lst (os.map V.int))
  p0 : H p = some (.lst (ps.map V.int))
  s0 : H s = some (.lst (rs.map V.ref))
  r0 : Paired (fun r xs => H r = some (.lst (xs.map V.int))) rs rows
theorem GraphAt.same {H H' : Hp} {g : Addr} {os ps : List Int} {rows : List (List Int)} {o p s : Addr} {rs : List Addr} (h : GraphAt H g os ps rows o p s rs) (k : Same H H') : GraphAt H' g os ps rows o p s rs :=
  ⟨k _ _ h.g0, k _ _ h.o0, k _ _ h.p0, k _ _ h.s0, L2.Paired.mapP h.r0 fun _ _ e => k _ _ e⟩
def spGraph (K : PySem.W.Frag) : Sp := fun vs H Q _ => ∃ (a : Addr) (ns : List Int) (at' n : Nat) (top : Int), vs = [.ref a, .int (at' : Int), .int (n : Int), .int top] ∧ SqL K H a (ns.map V.int) ∧ ns.length ≤ 63 ∧ at' ≤ 900 ∧ n ≤ 60 ∧ 2 ≤ top ∧ top ≤ 30 ∧
  ∀ H' g os ps rows o p s rs, Same H H' → H g = none → GraphAt H' g os ps rows o p s rs → Valid os ps rows → os.length = n → Q (.ref g) H'
theorem dInt (a b : Int) : decide (V.int a = V.int b) = decide (a = b) := decide_eq_decide.mpr ⟨V.int.inj, fun h => congrArg V.int h⟩
theorem asc_map {l : List Nat} (h : l.Pairwise (· < ·)) : (l.map fun i : Nat => (i : Int)).Pairwise (· < ·) := by
  rw [List.pairwise_map]
  exact h.imp fun z => by omega
theorem asc_filter (p : Nat → Bool) (n : Nat) : ((List.range n).filter p).Pairwise (· < ·) := List.pairwise_lt_range.filter p
section
variable {P : Program} {w : World} {K : PySem.W.Frag} {mg : Str → Option Value} {base : Heap} (M : Blt mg)
include M
theorem ok_graph {f : Addr} {fd : FuncData} (F : Fun K "_law_graph" "_law_graph" s__law_graph f fd) (G_law_cell : Kn P w K mg base 1 "_law_cell" ["script", "k"] (spCell K)) (G_law_digits : Kn P w K mg base 1 "_law_digits" ["cell", "sizes"] (spDigits K)) :
    FnOk P w K mg base CX0 2 f fd ["script", "at", "count", "top"] (spGraph K) := by
  refine F.ok sc__law_graph (fun vs H Q E h => ?_) (fun cdv A outer s H vs Q E hr h => ?_)
  · obtain ⟨a, ns, at', n, top, rfl, _⟩ := h
    rfl
  obtain ⟨a, ns, at', n, top, rfl, hS, hl, hat, hn, ht0, ht, q⟩ := h
  have nd := sc__law_graph.nd
  refine ⟨_, pss_cons (ps_set (i := 4) nd rfl (.inr rfl) (pe_call G_law_digits.ok (hr.mono (by decide)) (by rfl) G_law_digits.m G_law_digits.kp G_law_digits.b .nil pass0 (pa_cons (pe_call G_law_cell.ok (hr.mono (by decide)) (by rfl) G_law_cell.m G_law_cell.kp G_law_cell.b .nil pass0 (pa_cons (pv 0) (pa_cons (pv 1) pa_nil))) (pa_cons (pe_lst (pa_cons pe_int (pa_cons pe_int (pa_cons pe_int (pa_cons pe_int pa_nil))))) pa_nil))))
    (pss_cons (ps_set (i := 5) nd rfl (.inr rfl) (pe_ix ix_list (pe_lst (pa_cons pe_int (pa_cons pe_int (pa_cons pe_int (pa_cons pe_int pa_nil))))) (pe_ix ix_list (pv 4) pe_int (fun _ _ => rfl)) (fun _ _ => rfl)))
    (C8.pss_cut (ps_if (PW.pt (pw_and (pt_cmpR op_gt (pv 2) pe_int (nomark _)) (pw_and1 (pt_cmpR op_eq (pe_ix ix_list (pv 4) pe_int (fun _ _ => rfl)) pe_int (nomark _))))) (pss_one (ps_set (i := 5) nd rfl (.inr rfl) (pe_op op_mul pe_int (pv 2)))) pss_nil)
    (pss_cons (ps_set (i := 6) nd rfl (.inl rfl) (pe_lst pa_nil))
    (pss_cons (ps_set (i := 7) nd rfl (.inl rfl) (pe_lst pa_nil))
    (pss_cons (ps_set (i := 8) nd rfl (.inl rfl) (pe_lst pa_nil))
    (pss_cons (ps_for PassesOwn.never rfl (pi_range1 rfl M.range (pa_cons (pv 2) pa_nil)) (pg_name (i := 9) nd rfl (.inr rfl)) (pss_cons (ps_set (i := 10) nd rfl (.inr rfl) (pe_call G_law_digits.ok (hr.mono (by decide)) (by rfl) G_law_digits.m G_law_digits.kp G_law_digits.b .nil pass0 (pa_cons (pe_call G_law_cell.ok (hr.mono (by decide)) (by rfl) G_law_cell.m G_law_cell.kp G_law_cell.b .nil pass0 (pa_cons (pv 0) (pa_cons (pe_op op_add (pe_op op_add (pv 1) pe_int) (pv 9)) pa_nil))) (pa_cons (pe_op op_cat (pe_lst (pa_cons pe_int (pa_cons (pe_op op_add (pv 3) pe_int) (pa_cons (pv 2) pa_nil)))) (pe_lc (own := [("u", 12)]) (g := gName 12) (tt := tYes) rfl nd (pi_range1 rfl M.range (pa_cons (pv 2) pa_nil)) (blkOk_by (N := n__law_graph) (sc := defScope s__law_graph) (by decide +kernel)) (fun _ _ _ _ _ => pg_name (i := 12) nd rfl (Or.inl rfl)) (fun _ _ _ _ _ => pts_nil) (fun _ _ _ _ _ => (pv 5)))) pa_nil))))
      (pss_cons (ps_setLc (i := 11) (own := [("u", 12)]) (g := gName 12) (tt := _) rfl nd rfl rfl (sw_true rfl rfl rfl (by decide +kernel)) (pi_range1 rfl M.range (pa_cons (pv 2) pa_nil)) (blkOk_by (N := n__law_graph) (sc := defScope s__law_graph) (by decide +kernel)) (fun _ _ _ _ _ => pg_name (i := 12) nd rfl (Or.inl rfl)) (fun _ _ _ _ _ => pts_one (PW.pt (pw_or (pt_cmpR op_eq (pe_ix (show IxR _ (rIxL K) from ix_list) (pv 10) (pe_op op_add pe_int (pv 12)) (fun _ _ => rfl)) pe_int (nomark _)) (pw_or1 (PW.pt (pw_and (pt_cmpR op_eq (pe_ix (show IxR _ (rIxL K) from ix_list) (pv 4) pe_int (fun _ _ => rfl)) pe_int (nomark _)) (pw_and1 (pt_cmpR op_eq (pv 12) (pe_op op_add (pv 9) pe_int) (nomark _))))))))) (fun _ _ _ _ _ => (pv 12)))
      (C8.pss_cut (ps_if (pt_cmpR op_eq (pe_callB call_len_seq (by rfl) M.len PySem.boot_len (pa_cons (pv 11) pa_nil)) pe_int (nomark _)) (pss_one (ps_set (i := 11) nd rfl (.inl rfl) (pe_lst (pa_cons (pe_ix ix_list (pv 10) pe_int (fun _ _ => rfl)) pa_nil)))) pss_nil)
      (pss_cons (ps_expr (pe_bm PySem.F.plainAttrs_list PySem.F.slot_list_append PySem.F.type_list_append mt_append (pv 6) (pa_cons (pe_ix ix_list (pv 10) pe_int (fun _ _ => rfl)) pa_nil)))
      (pss_cons (ps_expr (pe_bm PySem.F.plainAttrs_list PySem.F.slot_list_append PySem.F.type_list_append mt_append (pv 7) (pa_cons (pe_ix ix_list (pe_lst (pa_cons (pe_ix ix_list (pv 10) pe_int (fun _ _ => rfl)) (pa_cons (pe_ix ix_list (pv 10) pe_int (fun _ _ => rfl)) (pa_cons (pe_op op_mod (pe_callTy call_int1 (by rfl) M.int PyProof.Rows.boot_int (pa_cons (pe_ix ix_list (pv 10) pe_int (fun _ _ => rfl)) pa_nil)) pe_int) pa_nil)))) (pe_ix ix_list (pv 4) pe_int (fun _ _ => rfl)) (fun _ _ => rfl)) pa_nil)))
      (pss_one (ps_expr (pe_bm PySem.F.plainAttrs_list PySem.F.slot_list_append PySem.F.type_list_append mt_append (pv 8) (pa_cons (pv 11) pa_nil))))))))))
    (pss_one (ps_ret (pe_lst (pa_cons (pv 6) (pa_cons (pv 7) (pa_cons (pv 8) pa_nil)))))))))))), ?_⟩
  refine ⟨_, rfl, _, rfl, a, ns, at', rfl, hS, hl, by omega, fun z0 => ⟨le_line (n := 4) (by decide), fun l0 hl0 => ⟨z0, l0, [2, 4, 3, 2], rfl, SqL.of upd_same, by decide, by decide, fun p0 ds0 H1 s1 hp0 ep0 hd0 => ?_⟩⟩⟩
  have sm1 : Same H H1 := (same_new hl0 _).trans s1
  obtain ⟨d0, r0, rfl, b0, hd0⟩ := hd0.cons
  obtain ⟨d1, r1, rfl, b1, hd0⟩ := hd0.cons
  obtain ⟨d2, r2, rfl, b2, hd0⟩ := hd0.cons
  obtain ⟨d3, r3, rfl, b3, hd0⟩ := hd0.cons
  cases hd0.nil
  obtain ⟨c0, ec0, c1, c2⟩ : ∃ c : Int, atI [V.int 2, V.int 3, V.int 5, V.int 9] d1 = some (.int c) ∧ 0 < c ∧ c ≤ 240 := by
    rcases (show d1 = 0 ∨ d1 = 1 ∨ d1 = 2 ∨ d1 = 3 by omega) with rfl | rfl | rfl | rfl <;> exact ⟨_, rfl, by decide, by decide⟩
  refine ⟨le_line (n := 4) (by decide), fun l1 hl1 => ⟨_, rfl, p0, _, 1, .int d1, rfl, rfl, SqL.of (same_new hl1 _ _ _ ep0), rfl, l1, _, d1, _, rfl, rfl, SqL.of upd_same, ec0, ?_⟩⟩
  have s2 := same_new hl1 (.lst [V.int 2, V.int 3, V.int 5, V.int 9])
  have sm2 := sm1.trans s2
  have ep02 := s2 _ _ ep0
  refine ⟨fun σ H' => Same H H' ∧ H' p0 = some (.lst ([d0, d1, d2, d3].map V.int)) ∧ ∃ c : Int, 0 < c ∧ c ≤ 240 ∧ σ = [some (.ref a), some (.int (at' : Int)), some (.int (n : Int)), some (.int top), some (.ref p0), some (.int c), Option.none, Option.none, Option.none, Option.none, Option.none, Option.none, Option.none], ?_, ?_⟩
  · refine ⟨_, rfl, _, _, rfl, rfl, _, rfl, ite2 (fun g1 => ?_) (fun g1 => ?_)⟩
    · have g1' : (10 : Int) < n := of_decide_eq_true g1
      refine ⟨_, rfl, p0, _, 3, .int d3, rfl, rfl, SqL.of ep02, rfl, rfl, _, rfl, ite2 (fun _ => ?_) (fun _ => ?_)⟩
      · exact ⟨_, rfl, _, _, rfl, rfl, .inl ⟨by decide, by decide⟩, sm2, ep02, _, by omega, by omega, rfl⟩
      · exact ⟨sm2, ep02, _, c1, c2, rfl⟩
    · exact iteF ⟨sm2, ep02, _, c1, c2, rfl⟩
  clear c1 c2 ec0 sm2 ep02 s2 sm1 ep0 s1
  rintro σ H2 ⟨sm2, ep02, c, c1, c2, rfl⟩
  refine ⟨Nat.zero_le _, fun o no => ⟨Nat.zero_le _, fun p np => ⟨Nat.zero_le _, fun sx ns' => ?_⟩⟩⟩
  have sO := same_new no (.lst [])
  have sP := same_new np (.lst [])
  have sS := same_new ns' (.lst [])
  have nop : o ≠ p := ne_of_none upd_same np
  have nps : p ≠ sx := ne_of_none upd_same ns'
  have nos : o ≠ sx := ne_of_none (sP _ _ upd_same) ns'
  refine ⟨_, rfl, _, rfl, by omega, by omega, ?_⟩
  have hnn : ((n : Int)).toNat = n := rfl
  rw [hnn]
  refine for_range (n := n) (fun i σ H' => Same H2 H' ∧ ∃ (os ps : List Int) (rs : List Addr) (rows : List (List Int)) (y9 y10 y11 : Option V), H' o = some (.lst (os.map V.int)) ∧ H' p = some (.lst (ps.map V.int)) ∧ H' sx = some (.lst (rs.map V.ref)) ∧
      Paired (fun r xs => r ≠ o ∧ r ≠ p ∧ r ≠ sx ∧ H' r = some (.lst (xs.map V.int))) rs rows ∧ os.length = i ∧ ps.length = i ∧ rows.length = i ∧ (∀ x ∈ os, 0 ≤ x ∧ x ≤ 1) ∧ (∀ x ∈ ps, 0 ≤ x ∧ x ≤ 30) ∧ (∀ x ∈ rows, Asc (n : Int) x) ∧
      σ = [some (.ref a), some (.int (at' : Int)), some (.int (n : Int)), some (.int top), some (.ref p0), some (.int c), some (.ref o), some (.ref p), some (.ref sx), y9, y10, y11, Option.none])
    ⟨((sO.trans sP).trans sS), [], [], [], [], Option.none, Option.none, Option.none, by rw [upd_ne nos, upd_ne nop]; exact upd_same, by rw [upd_ne nps]; exact upd_same, upd_same, .nil, rfl, rfl, rfl, (fun x h => nomatch h), (fun x h => nomatch h), (fun x h => nomatch h), rfl⟩ ?_ ?_
  · rintro i σ H3 hi ⟨sm3, os, ps, rs, rows, y9, y10, y11, eo, ep, es, pr, l1, l2, l3, v1, v2, v3, rfl⟩
    refine ⟨_, rfl, _, rfl, _, _, rfl, rfl, _, rfl, _, _, rfl, rfl, a, ns, at' + 1 + i, (show [V.ref a, V.int ((at' : Int) + 1 + (0 + (i : Int)))] = [V.ref a, V.int ((at' + 1 + i : Nat) : Int)] by rw [show (at' : Int) + 1 + (0 + (i : Int)) = ((at' + 1 + i : Nat) : Int) by omega]), (sm2.trans sm3).seq hS, hl, by omega, fun z1 => ?_⟩
    refine ⟨_, rfl, _, _, rfl, rfl, _, rfl, le_line (n := 3) (by decide), fun l4 hl4 => ⟨_, rfl, (n : Int), rfl, by omega, by omega, fun D1 hD1 => ?_⟩⟩
    refine lc_mapR (n := n) (fun _ => .int c) (by omega) hD1 (fun j H' k' nn hj sm h => ⟨rfl, tYI ⟨_, rfl, h⟩⟩) (fun H4 s4 eD1 => ?_)
    rw [const_range] at eD1
    refine ⟨l4, D1, _, _, rfl, rfl, s4 _ _ upd_same, eD1, le_line (by show 3 + (List.replicate n (V.int c)).length ≤ 1000; rw [List.length_replicate]; omega), fun q4 hq4 => ?_⟩
    have eq4 : upd H4 q4 (.lst ([V.int 2, V.int (top + 1), V.int (n : Int)] ++ List.replicate n (V.int c))) q4 = some (.lst (([2, top + 1, (n : Int)] ++ List.replicate n c).map V.int)) := by
      rw [upd_same, List.map_append, rep_map]; rfl
    have s34 := ((same_new hl4 (.lst [V.int 2, V.int (top + 1), V.int (n : Int)])).trans s4).trans (same_new hq4 (.lst ([V.int 2, V.int (top + 1), V.int (n : Int)] ++ List.replicate n (V.int c))))
    refine ⟨z1, q4, [2, top + 1, (n : Int)] ++ List.replicate n c, rfl, SqL.of eq4, by rw [List.length_append, List.length_replicate]; show 3 + n ≤ 1000; omega, fun s hs => ?_, fun p5 ds5 H5 s5 hp5 ep5 hd5 => ?_⟩
    · rcases List.mem_append.mp hs with hs | hs
      · simp only [List.mem_cons, List.not_mem_nil, or_false] at hs
        rcases hs with rfl | rfl | rfl <;> omega
      · rw [List.eq_of_mem_replicate hs]; omega
    obtain ⟨e0, r0, rfl, g0, hd5⟩ := hd5.cons
    obtain ⟨e1, r1, rfl, g1, hd5⟩ := hd5.cons
    obtain ⟨e2, rest, rfl, g2, hd5⟩ := hd5.cons
    have lr : rest.length = n := (Dg.len hd5).trans List.length_replicate
    have s35 := s34.trans s5
    have ep05 := s35 _ _ (sm3 _ _ ep02)
    have at5 : ∀ {j : Nat} {z : Int}, (e0 :: e1 :: e2 :: rest)[j]? = some z → atI ((e0 :: e1 :: e2 :: rest).map V.int) (j : Int) = some (.int z) := fun e => atI_nat (at_map e)
    refine ⟨_, rfl, (n : Int), rfl, by omega, by omega, fun D hD => ?_⟩
    refine lc_filterR (n := n) (fun u => decide (rest.getD u 0 = 0) || (decide (d0 = 1) && decide (u = i + 1))) (by omega) hD (fun u H' k' nn hu sm hk hno => ?_) (fun H6 s6 eD => ?_)
    · have hur : u < rest.length := by omega
      have ex : (e0 :: e1 :: e2 :: rest)[3 + u]? = some (rest.getD u 0) := by
        rw [show 3 + u = u + 3 by omega]
        show rest[u]? = _
        rw [List.getD_eq_getElem?_getD, List.getElem?_eq_getElem hur]; rfl
      refine ⟨rfl, ?_⟩
      refine ⟨_, rfl, _, rfl, _, _, rfl, rfl, p5, _, _, .int (rest.getD u 0), rfl, rfl, SqL.of (sm _ _ ep5), (show atI ((e0 :: e1 :: e2 :: rest).map V.int) ((3 : Int) + (0 + (u : Int))) = _ by rw [show (3 : Int) + (0 + (u : Int)) = ((3 + u : Nat) : Int) by omega]; exact at5 ex), rfl, _, rfl, ?_⟩
      have ep06 := sm _ _ ep05
      refine ite2 (fun c1 => ?_) (fun c1 => ?_)
      · rw [dInt] at c1
        refine iteT ⟨_, rfl, hk ?_ _ (.refl _)⟩
        rw [c1]; rfl
      · rw [dInt] at c1
        have c1' := Bool.eq_false_iff.mpr c1
        refine ⟨_, rfl, p0, _, 0, .int d0, rfl, rfl, SqL.of ep06, rfl, rfl, _, rfl, ite2 (fun c2 => ?_) (fun c2 => ?_)⟩
        · rw [dInt] at c2
          refine ⟨_, rfl, _, rfl, _, _, rfl, rfl, rfl, _, rfl, ite2 (fun c3 => ?_) (fun c3 => ?_)⟩
          · have c3' := V.int.inj (of_decide_eq_true c3)
            refine ⟨_, rfl, hk ?_ _ (.refl _)⟩
            rw [c1', c2, decide_eq_true (show u = i + 1 by omega)]; rfl
          · have c3' : ¬ u = i + 1 := fun e => c3 (decide_eq_true (congrArg V.int (by omega)))
            refine hno ?_ _ (.refl _)
            rw [c1', c2, decide_eq_false c3']; rfl
        · rw [dInt] at c2
          have c2' := Bool.eq_false_iff.mpr c2
          refine iteF (hno ?_ _ (.refl _))
          rw [c1', c2']; rfl
    · have s36 := s35.trans s6
      have nD : ∀ {x : Addr} {l : List V}, H3 x = some (.lst l) → D ≠ x := fun e z => by
        rw [z, s35 _ _ e] at hD
        cases hD
      have hsub : ∀ x ∈ (((List.range n).filter fun u => decide (rest.getD u 0 = 0) || (decide (d0 = 1) && decide (u = i + 1))).map fun i : Nat => (i : Int)), 0 ≤ x ∧ x < (n : Int) := by
        intro x hx
        obtain ⟨u, hu, rfl⟩ := List.mem_map.mp hx
        have := List.mem_range.mp (List.mem_filter.mp hu).1
        omega
      have hasc := asc_map (asc_filter (fun u => decide (rest.getD u 0 = 0) || (decide (d0 = 1) && decide (u = i + 1))) n)
      have hlen : (((List.range n).filter fun u => decide (rest.getD u 0 = 0) || (decide (d0 = 1) && decide (u = i + 1))).map fun i : Nat => (i : Int)).length ≤ n := by
        rw [List.length_map]
        exact Nat.le_trans (List.length_filter_le _ _) (by rw [List.length_range]; exact Nat.le_refl _)
      generalize (((List.range n).filter fun u => decide (rest.getD u 0 = 0) || (decide (d0 = 1) && decide (u = i + 1))).map fun i : Nat => (i : Int)) = tg at eD hsub hasc hlen
      have pr6 : Paired (fun r xs => r ≠ o ∧ r ≠ p ∧ r ≠ sx ∧ H6 r = some (.lst (xs.map V.int))) rs rows := L2.Paired.mapP pr fun r xs z => ⟨z.1, z.2.1, z.2.2.1, s36 _ _ z.2.2.2⟩
      refine ⟨fun σ H' => Same H6 H' ∧ ∃ (t : Addr) (xs : List Int), H' t = some (.lst (xs.map V.int)) ∧ Asc (n : Int) xs ∧ t ≠ o ∧ t ≠ p ∧ t ≠ sx ∧ σ = [some (.ref a), some (.int (at' : Int)), some (.int (n : Int)), some (.int top), some (.ref p0), some (.int c), some (.ref o), some (.ref p), some (.ref sx), some (.int (0 + (i : Int))), some (.ref p5), some (.ref t), Option.none], ?_, ?_⟩
      · refine ⟨_, rfl, D, _, rfl, .inl (SqL.of eD), rfl, _, rfl, ite2 (fun c1 => ?_) (fun c1 => ?_)⟩
        · refine ⟨_, rfl, p5, _, 2, .int e2, rfl, rfl, SqL.of (s6 _ _ ep5), at5 (j := 2) rfl, le_line (n := 1) (by decide), fun t ht => ?_⟩
          have nt : ∀ {x : Addr} {l : List V}, H3 x = some (.lst l) → t ≠ x := fun e z => by
            rw [z, s36 _ _ e] at ht
            cases ht
          exact ⟨same_new ht _, t, [e2], upd_same, ⟨List.pairwise_singleton _ _, fun x hx => by rw [List.mem_singleton.mp hx]; exact g2, (fun z => nomatch z), by show 1 ≤ 1000; decide⟩, nt eo, nt ep, nt es, rfl⟩
        · have hne : tg ≠ [] := fun z => by
            subst z
            exact c1 rfl
          exact ⟨.refl _, D, tg, eD, ⟨hasc, hsub, hne, by omega⟩, nD eo, nD ep, nD es, rfl⟩
      · rintro σ H7 ⟨sm7, t, xs, et, hax, nt1, nt2, nt3, rfl⟩
        have s37 := s36.trans sm7
        have eo7 := s37 _ _ eo
        have ep7 := s37 _ _ ep
        have es7 := s37 _ _ es
        have ep57 := sm7 _ _ (s6 _ _ ep5)
        have ep07 := sm7 _ _ (s6 _ _ ep05)
        have sm27 := sm3.trans s37
        have np5o : p5 ≠ o := fun z => by rw [z] at hp5; rw [s34 _ _ eo] at hp5; cases hp5
        have np5p : p5 ≠ p := fun z => by rw [z] at hp5; rw [s34 _ _ ep] at hp5; cases hp5
        have np0o : p0 ≠ o := ne_of_none ep02 no
        have np0p : p0 ≠ p := ne_of_none (sO _ _ ep02) np
        -- owners.append(row[0])
        refine ⟨_, rfl, .inl ⟨rfl, _, SqL.of eo7⟩, _, rfl, p5, _, 0, .int e0, rfl, rfl, SqL.of ep57, at5 (j := 0) rfl, o, _, _, rfl, rfl, eo7, by rw [List.length_map, l1]; exact lt_line (by omega), ?_⟩
        have a1 : upd H7 o (.lst (os.map V.int ++ [V.int e0])) o = some (.lst ((os ++ [e0]).map V.int)) := by rw [upd_same, List.map_append]; rfl
        have a2 : upd H7 o (.lst (os.map V.int ++ [V.int e0])) p = some (.lst (ps.map V.int)) := by rw [upd_ne nop.symm]; exact ep7
        have a3 : upd H7 o (.lst (os.map V.int ++ [V.int e0])) sx = some (.lst (rs.map V.ref)) := by rw [upd_ne nos.symm]; exact es7
        have a4 : upd H7 o (.lst (os.map V.int ++ [V.int e0])) p5 = some (.lst ((e0 :: e1 :: e2 :: rest).map V.int)) := by rw [upd_ne np5o]; exact ep57
        have a5 : upd H7 o (.lst (os.map V.int ++ [V.int e0])) p0 = some (.lst ([d0, d1, d2, d3].map V.int)) := by rw [upd_ne np0o]; exact ep07
        have a6 : upd H7 o (.lst (os.map V.int ++ [V.int e0])) t = some (.lst (xs.map V.int)) := by rw [upd_ne nt1]; exact et
        have a7 : Paired (fun r xs => r ≠ o ∧ r ≠ p ∧ r ≠ sx ∧ upd H7 o (.lst (os.map V.int ++ [V.int e0])) r = some (.lst (xs.map V.int))) rs rows := L2.Paired.mapP pr6 fun r xs z => ⟨z.1, z.2.1, z.2.2.1, by rw [upd_ne z.1]; exact sm7 _ _ z.2.2.2⟩
        have a8 : Same H2 (upd H7 o (.lst (os.map V.int ++ [V.int e0]))) := same_upd sm27 no _
        show tSeq _ _ _ [some (.ref a), some (.int (at' : Int)), some (.int (n : Int)), some (.int top), some (.ref p0), some (.int c), some (.ref o), some (.ref p), some (.ref sx), some (.int (0 + (i : Int))), some (.ref p5), some (.ref t), Option.none] (upd H7 o (.lst (os.map V.int ++ [V.int e0])))
        generalize upd H7 o (.lst (os.map V.int ++ [V.int e0])) = H8 at a1 a2 a3 a4 a5 a6 a7 a8 ⊢
        -- priorities.append(..)
        obtain ⟨pv0, epv, pv1, pv2⟩ : ∃ z : Int, atI [V.int e1, V.int e1, V.int (e1 % 3)] d2 = some (.int z) ∧ 0 ≤ z ∧ z ≤ 30 := by
          rcases (show d2 = 0 ∨ d2 = 1 ∨ d2 = 2 by omega) with rfl | rfl | rfl
          · exact ⟨_, rfl, by omega, by omega⟩
          · exact ⟨_, rfl, by omega, by omega⟩
          · exact ⟨_, rfl, by omega, by omega⟩
        refine ⟨_, rfl, .inl ⟨rfl, _, SqL.of a2⟩, _, rfl, p5, _, 1, .int e1, rfl, rfl, SqL.of a4, at5 (j := 1) rfl, _, rfl, p5, _, 1, .int e1, rfl, rfl, SqL.of a4, at5 (j := 1) rfl, _, rfl, p5, _, 1, .int e1, rfl, rfl, SqL.of a4, at5 (j := 1) rfl, .inl ⟨_, rfl, _, _, rfl, rfl, (by show (0 : Int) < 3; decide), le_line (n := 3) (by decide), fun l8 hl8 => ?_⟩⟩
        have s8 := same_new hl8 (.lst [V.int e1, V.int e1, V.int (e1 % 3)])
        refine ⟨_, rfl, p0, _, 2, .int d2, rfl, rfl, SqL.of (s8 _ _ a5), rfl, l8, _, d2, _, rfl, rfl, SqL.of upd_same, epv, p, _, _, rfl, rfl, s8 _ _ a2, by rw [List.length_map, l2]; exact lt_line (by omega), ?_⟩
        generalize upd H8 l8 (.lst [V.int e1, V.int e1, V.int (e1 % 3)]) = H9 at s8 ⊢
        have b1' : upd H9 p (.lst (ps.map V.int ++ [V.int pv0])) o = some (.lst ((os ++ [e0]).map V.int)) := by rw [upd_ne nop]; exact s8 _ _ a1
        have b2' : upd H9 p (.lst (ps.map V.int ++ [V.int pv0])) p = some (.lst ((ps ++ [pv0]).map V.int)) := by rw [upd_same, List.map_append]; rfl
        have b3' : upd H9 p (.lst (ps.map V.int ++ [V.int pv0])) sx = some (.lst (rs.map V.ref)) := by rw [upd_ne nps.symm]; exact s8 _ _ a3
        have b6' : upd H9 p (.lst (ps.map V.int ++ [V.int pv0])) t = some (.lst (xs.map V.int)) := by rw [upd_ne nt2]; exact s8 _ _ a6
        have b7' : Paired (fun r xs => r ≠ o ∧ r ≠ p ∧ r ≠ sx ∧ upd H9 p (.lst (ps.map V.int ++ [V.int pv0])) r = some (.lst (xs.map V.int))) rs rows := L2.Paired.mapP a7 fun r xs z => ⟨z.1, z.2.1, z.2.2.1, by rw [upd_ne z.2.1]; exact s8 _ _ z.2.2.2⟩
        have b8' : Same H2 (upd H9 p (.lst (ps.map V.int ++ [V.int pv0]))) := fun b u e => by
          rw [upd_ne (ne_of_none (sO _ _ e) np)]
          exact s8 _ _ (a8 _ _ e)
        generalize upd H9 p (.lst (ps.map V.int ++ [V.int pv0])) = H10 at b1' b2' b3' b6' b7' b8' ⊢
        -- successors.append(targets)
        refine ⟨_, rfl, .inl ⟨rfl, _, SqL.of b3'⟩, _, rfl, sx, _, _, rfl, rfl, b3', by rw [List.length_map, b7'.length, l3]; exact lt_line (by omega), ?_⟩
        refine ⟨fun b u e => ?_, os ++ [e0], ps ++ [pv0], rs ++ [t], rows ++ [xs], _, _, _, ?_, ?_, ?_, ?_, ?_, ?_, ?_, ?_, ?_, ?_, rfl⟩
        · rw [upd_ne (ne_of_none (sP _ _ (sO _ _ e)) ns')]; exact b8' _ _ e
        · rw [upd_ne nos]; exact b1'
        · rw [upd_ne nps]; exact b2'
        · rw [upd_same, List.map_append]; rfl
        · exact (L2.Paired.mapP b7' fun r xs z => ⟨z.1, z.2.1, z.2.2.1, by rw [upd_ne z.2.2.1]; exact z.2.2.2⟩).snoc ⟨nt1, nt2, nt3, by rw [upd_ne nt3]; exact b6'⟩
        · rw [List.length_append, l1]; rfl
        · rw [List.length_append, l2]; rfl
        · rw [List.length_append, l3]; rfl
        · intro x hx
          rcases List.mem_append.mp hx with hx | hx
          · exact v1 x hx
          · rw [List.mem_singleton.mp hx]; omega
        · intro x hx
          rcases List.mem_append.mp hx with hx | hx
          · exact v2 x hx
          · rw [List.mem_singleton.mp hx]; exact ⟨pv1, pv2⟩
        · intro x hx
          rcases List.mem_append.mp hx with hx | hx
          · exact v3 x hx
          · rw [List.mem_singleton.mp hx]; exact hax
  · rintro σ H3 ⟨sm3, os, ps, rs, rows, y9, y10, y11, eo, ep, es, pr, l1, l2, l3, v1, v2, v3, rfl⟩
    refine ⟨_, rfl, _, rfl, _, rfl, le_line (n := 3) (by decide), fun g hg => ?_⟩
    have sg := same_new hg (.lst [V.ref o, V.ref p, V.ref sx])
    refine q _ g os ps rows o p sx rs ((sm2.trans sm3).trans sg) ((sm2.trans sm3).free hg) ⟨upd_same, sg _ _ eo, sg _ _ ep, sg _ _ es, L2.Paired.mapP pr fun r xs z => sg _ _ z.2.2.2⟩ ⟨by omega, by omega, by omega, v1, v2, fun x hx => by rw [l1]; exact v3 x hx⟩ l1
end
end GM
set_option Elab.async false
set_option linter.all false
set_option maxRecDepth 100000
set_option maxHeartbeats 4000000
set_option pp.maxSteps 150
set_option pp.deepTerms false
namespace GM
open PySem PySem.Spec PyProof.Rows L2
/-! ### _law_same of nested tuples -/
inductive DT where
  | non
  | int (i : Int)
  | tup (ds : List DT)
/-- v stands for d, tuples nested at most n deep -/
def rep : Nat → Hp → V → DT → Prop
  | 0, _, v, d => (d = .non ∧ v = .non) ∨ ∃ i, d = .int i ∧ v = .int i
  | n + 1, H, v, d => ((d = .non ∧ v = .non) ∨ ∃ i, d = .int i ∧ v = .int i) ∨ ∃ a xs ds, d = .tup ds ∧ v = .ref a ∧ H a = some (.tup xs) ∧ xs.length ≤ 1000 ∧ Paired (fun x e => rep n H x e) xs ds
def spSameD (n : Nat) : Sp := fun vs H Q _ => ∃ (t u : V) (d : DT), vs = [t, u] ∧ rep n H t d ∧ rep n H u d ∧ Q (.bl true) H
section
variable {P : Program} {w : World} {K : PySem.W.Frag} {mg : Str → Option Value} {base : Heap} (M : Blt mg)
include M
theorem ok_sameD {f : Addr} {fd : FuncData} (F : Fun K "_law_same" "_law_same" s__law_same f fd) (bA : Binds K fd ["told", "due"] []) (mA : mg "_law_same" = some (.ref f)) (G_law_whole : Kn P w K mg base 1 "_law_whole" ["value"] spWhole) :
    ∀ n, FnOk P w K mg base CX0 (n + 2) f fd ["told", "due"] (spSameD n) := by
  have flat : ∀ (G_law_same : Kn P w K mg base 0 "_law_same" ["told", "due"] (fun _ _ _ _ => False)) (cdv : Value) (A : Around) (outer : List Env) (s : Shared) (H : Hp) (x : V) (Q : VK) (E : XK), Room 1 (A.deeper (envOfC "_law_same" (defScope s__law_same) s.heap.objs.size f cdv)) → ((x = .non) ∨ ∃ i, x = .int i) → Q (.bl true) H →
      ∃ t, PSs (cxOf CX0 P w K mg base n__law_same "_law_same" (defScope s__law_same) f cdv A outer s H E).nox (defBody s__law_same) t ∧ t { nx := fun _ H' => Q .non H', rt := Q } (start n__law_same [x, x]) H := by
    intro G_law_same cdv A outer s H x Q E hr hx q
    have nd := sc__law_same.nd
    refine ⟨_, pss_cons (ps_if (pt_val (pe_callB call_isi (by rfl) M.isinstance boot_isinstance (pa_cons (pv 1) (pa_cons (pe_bltn (v := .ty "tuple") (by rfl) M.tuple PyProof.Rows.boot_tuple rfl) pa_nil)))) (pss_cons (ps_if (PW.pt (pw_or (pt_not (pt_val (pe_callB call_isi (by rfl) M.isinstance boot_isinstance (pa_cons (pv 0) (pa_cons (pe_bltn (v := .ty "tuple") (by rfl) M.tuple PyProof.Rows.boot_tuple rfl) pa_nil))))) (pw_or1 (pt_cmpR op_ne (pe_callB call_len_seq (by rfl) M.len PySem.boot_len (pa_cons (pv 0) pa_nil)) (pe_callB call_len_seq (by rfl) M.len PySem.boot_len (pa_cons (pv 1) pa_nil)) (nomark _))))) (pss_one (ps_ret pe_bl)) pss_nil)
      (pss_cons (ps_for PassesOwn.never rfl (pi_range1 rfl M.range (pa_cons (pe_callB call_len_seq (by rfl) M.len PySem.boot_len (pa_cons (pv 1) pa_nil)) pa_nil)) (pg_name (i := 2) nd rfl (.inl rfl)) (pss_one (ps_if (pt_not (pt_val (pe_call G_law_same.ok (hr.mono (by decide)) (by rfl) G_law_same.m G_law_same.kp G_law_same.b .nil pass0 (pa_cons (pe_ix ix_tup (pv 0) (pv 2) (fun _ _ => rfl)) (pa_cons (pe_ix ix_tup (pv 1) (pv 2) (fun _ _ => rfl)) pa_nil))))) (pss_one (ps_ret pe_bl)) pss_nil)))
      (pss_one (ps_ret pe_bl)))) pss_nil)
    (pss_cons (ps_if (pt_cmpR op_isN (pv 1) pe_non (nomark _)) (pss_one (ps_ret (pe_cmpR op_isN (pv 0) pe_non (nomark _)))) pss_nil)
    (pss_one (ps_ret (pe_and (pe_call G_law_whole.ok (hr.mono (by decide)) (by rfl) G_law_whole.m G_law_whole.kp G_law_whole.b .nil pass0 (pa_cons (pv 0) pa_nil)) (pe_one (pe_cmpR op_eq (pv 0) (pv 1) (nomark _))))))), ?_⟩
    rcases hx with rfl | ⟨i, rfl⟩
    · refine ⟨_, rfl, _, _, _, _, false, rfl, .ty "tuple", .base .non, kit_ty (by decide +kernel), false, rfl, iteF ?_⟩
      exact ⟨_, rfl, rfl, _, rfl, iteT ⟨_, rfl, rfl, q⟩⟩
    · refine ⟨_, rfl, _, _, _, _, false, rfl, .ty "tuple", .base (.int i), kit_ty (by decide +kernel), false, rfl, iteF ?_⟩
      refine ⟨_, rfl, rfl, _, rfl, iteF ?_⟩
      refine ⟨_, rfl, i, rfl, true, rfl, iteT ⟨_, rfl, _, rfl, rfl, ?_⟩⟩
      show Q (.bl (decide (V.int i = V.int i))) H
      rw [decide_eq_true rfl]
      exact q
  have eqx : ∀ {t u : V} {d : DT}, ((d = .non ∧ t = .non) ∨ ∃ i, d = .int i ∧ t = .int i) → ((d = .non ∧ u = .non) ∨ ∃ i, d = .int i ∧ u = .int i) → t = u ∧ (t = .non ∨ ∃ i, t = .int i) := by
    rintro t u d (⟨h1, h2⟩ | ⟨i, h1, h2⟩) (⟨h3, h4⟩ | ⟨j, h3, h4⟩)
    · exact ⟨by rw [h2, h4], .inl h2⟩
    · rw [h1] at h3; exact nomatch h3
    · rw [h1] at h3; exact nomatch h3
    · rw [h1] at h3
      cases h3
      exact ⟨by rw [h2, h4], .inr ⟨i, h2⟩⟩
  have GN : Kn P w K mg base 0 "_law_same" ["told", "due"] (fun _ _ _ _ => False) := ⟨f, fd, neverOk fun _ _ _ _ h => h, bA, F.kp, mA⟩
  intro n
  induction n with
  | zero =>
    refine F.ok sc__law_same (fun vs H Q E h => ?_) (fun cdv A outer s H vs Q E hr h => ?_)
    · obtain ⟨t, u, d, rfl, _⟩ := h
      rfl
    obtain ⟨t, u, d, rfl, h1, h2, q⟩ := h
    obtain ⟨rfl, hx⟩ := eqx h1 h2
    exact flat GN cdv A outer s H t Q E hr hx q
  | succ n ih =>
    refine F.ok sc__law_same (fun vs H Q E h => ?_) (fun cdv A outer s H vs Q E hr h => ?_)
    · obtain ⟨t, u, d, rfl, _⟩ := h
      rfl
    obtain ⟨t, u, d, rfl, h1, h2, q⟩ := h
    rcases h1 with h1 | ⟨a, xs, ds, rfl, rfl, ea, la, pa⟩
    · rcases h2 with h2 | ⟨b, ys, ds, rfl, rfl, eb, lb, pb⟩
      · obtain ⟨rfl, hx⟩ := eqx h1 h2
        exact flat GN cdv A outer s H t Q E (hr.mono (by omega)) hx q
      · rcases h1 with ⟨h, _⟩ | ⟨_, h, _⟩ <;> exact nomatch h
    · rcases h2 with h2 | ⟨b, ys, ds2, hds, rfl, eb, lb, pb⟩
      · rcases h2 with ⟨h, _⟩ | ⟨_, h, _⟩ <;> exact nomatch h
      cases hds
      have G_law_same : Kn P w K mg base (n + 2) "_law_same" ["told", "due"] (spSameD n) := ⟨f, fd, ih, bA, F.kp, mA⟩
      have lab : ys.length = xs.length := by rw [pa.length, pb.length]
      have nd := sc__law_same.nd
      refine ⟨_, pss_cons (ps_if (pt_val (pe_callB call_isi (by rfl) M.isinstance boot_isinstance (pa_cons (pv 1) (pa_cons (pe_bltn (v := .ty "tuple") (by rfl) M.tuple PyProof.Rows.boot_tuple rfl) pa_nil)))) (pss_cons (ps_if (PW.pt (pw_or (pt_not (pt_val (pe_callB call_isi (by rfl) M.isinstance boot_isinstance (pa_cons (pv 0) (pa_cons (pe_bltn (v := .ty "tuple") (by rfl) M.tuple PyProof.Rows.boot_tuple rfl) pa_nil))))) (pw_or1 (pt_cmpR op_ne (pe_callB call_len_seq (by rfl) M.len PySem.boot_len (pa_cons (pv 0) pa_nil)) (pe_callB call_len_seq (by rfl) M.len PySem.boot_len (pa_cons (pv 1) pa_nil)) (nomark _))))) (pss_one (ps_ret pe_bl)) pss_nil)
      (pss_cons (ps_for PassesOwn.never rfl (pi_range1 rfl M.range (pa_cons (pe_callB call_len_seq (by rfl) M.len PySem.boot_len (pa_cons (pv 1) pa_nil)) pa_nil)) (pg_name (i := 2) nd rfl (.inl rfl)) (pss_one (ps_if (pt_not (pt_val (pe_call G_law_same.ok (hr.mono (by omega)) (by rfl) G_law_same.m G_law_same.kp G_law_same.b .nil pass0 (pa_cons (pe_ix ix_tup (pv 0) (pv 2) (fun _ _ => rfl)) (pa_cons (pe_ix ix_tup (pv 1) (pv 2) (fun _ _ => rfl)) pa_nil))))) (pss_one (ps_ret pe_bl)) pss_nil)))
      (pss_one (ps_ret pe_bl)))) pss_nil)
    (pss_cons (ps_if (pt_cmpR op_isN (pv 1) pe_non (nomark _)) (pss_one (ps_ret (pe_cmpR op_isN (pv 0) pe_non (nomark _)))) pss_nil)
    (pss_one (ps_ret (pe_and (pe_call G_law_whole.ok (hr.mono (by omega)) (by rfl) G_law_whole.m G_law_whole.kp G_law_whole.b .nil pass0 (pa_cons (pv 0) pa_nil)) (pe_one (pe_cmpR op_eq (pv 0) (pv 1) (nomark _))))))), ?_⟩
      refine ⟨_, rfl, _, _, _, _, true, rfl, .ty "tuple", .base (.tup eb), kit_ty (by decide +kernel), true, rfl, iteT ?_⟩
      refine ⟨_, rfl, _, _, _, _, true, rfl, .ty "tuple", .base (.tup ea), kit_ty (by decide +kernel), true, rfl, iteF ?_⟩
      refine ⟨_, rfl, a, _, rfl, .inr (sqT ea), _, rfl, b, _, rfl, .inr (sqT eb), rfl, _, rfl, iteNS (by rw [lab]) ?_⟩
      refine ⟨_, rfl, b, _, rfl, .inr (sqT eb), _, rfl, by omega, by omega, ?_⟩
      rw [show (((ys.length : Nat) : Int)).toNat = ys.length from rfl]
      refine for_range (n := ys.length) (fun i σ H' => H' = H ∧ ∃ y : Option V, σ = [some (.ref a), some (.ref b), y]) ⟨rfl, Option.none, rfl⟩ ?_ ?_
      · rintro i σ H' hi ⟨rfl, y, rfl⟩
        have ey : ys[i]? = some ys[i] := List.getElem?_eq_getElem hi
        have ex : xs[i]? = some (xs[i]'(by omega)) := List.getElem?_eq_getElem (by omega)
        obtain ⟨d1, hd1, r1⟩ := pr_get pa ex
        obtain ⟨d2, hd2, r2⟩ := pr_get pb ey
        rw [hd1] at hd2
        cases hd2
        refine ⟨_, rfl, _, rfl, a, _, _, _, rfl, rfl, sqT ea, (by rw [Int.zero_add]; exact atI_nat ex), _, rfl, _, rfl, b, _, _, _, rfl, rfl, sqT eb, (by rw [Int.zero_add]; exact atI_nat ey), _, _, d1, rfl, r1, r2, true, rfl, iteF ?_⟩
        exact ⟨rfl, _, rfl⟩
      · rintro σ H' ⟨rfl, y, rfl⟩
        exact q
end
end GM
set_option Elab.async false
set_option linter.all false
set_option maxRecDepth 100000
set_option maxHeartbeats 4000000
namespace GM
open PySem PySem.Spec PyProof.Rows L2
/-! ### the walk of a map -/
def itn (f : Nat → Nat) (v : Nat) : Nat → Nat
  | 0 => v
  | k + 1 => f (itn f v k)
def orb (f : Nat → Nat) (v k : Nat) : List Nat := (List.range k).map (itn f v)
theorem orb_len (f : Nat → Nat) (v k : Nat) : (orb f v k).length = k := by unfold orb; rw [List.length_map, List.length_range]
theorem orb_succ (f : Nat → Nat) (v k : Nat) : orb f v (k + 1) = orb f v k ++ [itn f v k] := by unfold orb; rw [List.range_succ, List.map_append]; rfl
theorem orb_at {f : Nat → Nat} {v k i : Nat} (h : i < k) : (orb f v k)[i]? = some (itn f v i) := by unfold orb; rw [List.getElem?_map, List.getElem?_range h]; rfl
theorem orb_mem {f : Nat → Nat} {v k : Nat} {x : Nat} (h : x ∈ orb f v k) : ∃ i, i < k ∧ x = itn f v i := by
  unfold orb at h
  obtain ⟨i, hi, rfl⟩ := List.mem_map.mp h
  exact ⟨i, List.mem_range.mp hi, rfl⟩
theorem itn_lt {f : Nat → Nat} {n v : Nat} (hf : ∀ u, u < n → f u < n) (hv : v < n) : ∀ k, itn f v k < n
  | 0 => hv
  | k + 1 => hf _ (itn_lt hf hv k)
theorem nodup_len : ∀ (n : Nat) (l : List Nat), l.Nodup → (∀ x ∈ l, x < n) → l.length ≤ n
  | 0, [], _, _ => Nat.le_refl _
  | 0, x :: l, _, h => absurd (h x List.mem_cons_self) (Nat.not_lt_zero _)
  | n + 1, l, hd, h => by
    by_cases c : n ∈ l
    · have e := nodup_len n (l.erase n) (hd.erase n) (fun x hx => by
        have h1 := h x (List.mem_of_mem_erase hx)
        have h2 : x ≠ n := fun z => (hd.mem_erase_iff.mp hx).1 z
        omega)
      rw [List.length_erase_of_mem c] at e
      omega
    · have e := nodup_len n l hd (fun x hx => by
        have h1 := h x hx
        have h2 : x ≠ n := fun z => c (z ▸ hx)
        omega)
      omega
theorem orb_le {f : Nat → Nat} {n v k : Nat} (hf : ∀ u, u < n → f u < n) (hv : v < n) (hd : (orb f v k).Nodup) : k ≤ n := by
  have e := nodup_len n _ hd (fun x hx => by obtain ⟨i, _, rfl⟩ := orb_mem hx; exact itn_lt hf hv i)
  rw [orb_len] at e
  exact e
theorem orb_nodup {f : Nat → Nat} {v k : Nat} (hd : (orb f v k).Nodup) (h : itn f v k ∉ orb f v k) : (orb f v (k + 1)).Nodup := by
  rw [orb_succ]
  refine List.nodup_append.mpr ⟨hd, List.nodup_cons.mpr ⟨List.not_mem_nil, List.nodup_nil⟩, fun a ha b hb => ?_⟩
  rw [List.mem_singleton.mp hb]
  exact fun z => h (z ▸ ha)
/-- where the walk meets itself -/
structure Meets (f : Nat → Nat) (v k j : Nat) : Prop where
  nd : (orb f v k).Nodup
  lt : j < k
  eq : itn f v j = itn f v k
theorem nodup_inj {l : List Nat} (h : l.Nodup) {i j x : Nat} (hi : l[i]? = some x) (hj : l[j]? = some x) : i = j := by
  obtain ⟨li, ei⟩ := List.getElem?_eq_some_iff.mp hi
  obtain ⟨lj, ej⟩ := List.getElem?_eq_some_iff.mp hj
  have pw := List.pairwise_iff_getElem.mp h
  rcases Nat.lt_trichotomy i j with c | c | c
  · exact absurd (ei.trans ej.symm) (pw i j li lj c)
  · exact c
  · exact absurd (ej.trans ei.symm) (pw j i lj li c)
theorem Meets.one {f : Nat → Nat} {v k j k' j' : Nat} (a : Meets f v k j) (b : Meets f v k' j') : k = k' ∧ j = j' := by
  have key : ∀ {k j k' j' : Nat}, Meets f v k j → Meets f v k' j' → ¬ k < k' := fun {k j k' j'} a b h => by
    have h1 : (orb f v k')[j]? = some (itn f v k) := by rw [orb_at (Nat.lt_trans a.lt h), a.eq]
    have h2 : (orb f v k')[k]? = some (itn f v k) := orb_at h
    have := nodup_inj b.nd h1 h2
    have := a.lt
    omega
  have ek : k = k' := by
    have := key a b
    have := key b a
    omega
  subst ek
  refine ⟨rfl, ?_⟩
  have h1 : (orb f v k)[j]? = some (itn f v k) := by rw [orb_at a.lt, a.eq]
  have h2 : (orb f v k)[j']? = some (itn f v k) := by rw [orb_at b.lt, b.eq]
  exact nodup_inj a.nd h1 h2
theorem meets_of {f : Nat → Nat} {v k : Nat} (hd : (orb f v k).Nodup) (h : itn f v k ∈ orb f v k) : ∃ j, Meets f v k j := by
  obtain ⟨j, hj, e⟩ := orb_mem h
  exact ⟨j, hd, hj, e.symm⟩
theorem gd_at {α : Type} {l : List α} {i : Nat} {d : α} (h : i < l.length) : l[i]? = some (l.getD i d) := by
  rw [List.getD_eq_getElem?_getD, List.getElem?_eq_getElem h]; rfl
/-! ### flat lists of numbers -/
def nV (k : Nat) : V := .int (k : Int)
theorem flat_nV (l : List Nat) : (l.map nV).all flatV = true := by
  rw [List.all_map]
  exact List.all_eq_true.mpr fun _ _ => rfl
theorem inV_nV (x : Nat) (l : List Nat) : inV (nV x) (l.map nV) = decide (x ∈ l) := by
  unfold inV
  rw [List.any_map]
  by_cases c : x ∈ l
  · rw [decide_eq_true c]
    refine List.any_eq_true.mpr ⟨x, c, ?_⟩
    show ((x : Int) == (x : Int)) = true
    exact beq_self_eq_true _
  · rw [decide_eq_false c]
    refine List.any_eq_false.mpr fun y hy h => c ?_
    have e : ((y : Int) == (x : Int)) = true := h
    have e2 := beq_iff_eq.mp e
    have e3 : y = x := by omega
    exact e3 ▸ hy
theorem eqV_nV (x y : Nat) : eqV (nV x) (nV y) = decide (x = y) := by
  show ((x : Int) == (y : Int)) = _
  by_cases c : x = y
  · rw [decide_eq_true c, c]; exact beq_self_eq_true _
  · rw [decide_eq_false c]
    exact beq_eq_false_iff_ne.mpr (by omega)
end GM
set_option Elab.async false
set_option linter.all false
set_option maxRecDepth 100000
set_option maxHeartbeats 4000000
set_option pp.maxSteps 150
set_option pp.deepTerms false
namespace GM
open PySem PySem.Spec PyProof.Rows L2
/-! ### _followed -/
/-- a play that repeats: two tuples in a tuple -/
def PlayAt (H : Hp) (t : Addr) (f : Nat → Nat) (v : Nat) : Prop := ∃ (k j : Nat) (a b : Addr), Meets f v k j ∧ H t = some (.tup [.ref a, .ref b]) ∧ H a = some (.tup (((orb f v k).take j).map nV)) ∧ H b = some (.tup (((orb f v k).drop j).map nV))
def mvF (ms : List Nat) (u : Nat) : Nat := ms.getD u 0
theorem mv_at {ms : List Nat} {u : Nat} (h : u < ms.length) : ms[u]? = some (mvF ms u) := by
  unfold mvF
  rw [List.getD_eq_getElem?_getD, List.getElem?_eq_getElem h]; rfl
def spFollow : Sp := fun vs H Q _ => ∃ (m : Addr) (ms : List Nat) (v : Nat), vs = [.ref m, nV v] ∧ H m = some (.lst (ms.map nV)) ∧ ms.length ≤ 60 ∧ v < ms.length ∧ (∀ u, u < ms.length → mvF ms u < ms.length) ∧
  ∀ t H', Same H H' → H t = none → PlayAt H' t (mvF ms) v → Q (.ref t) H'
section
variable {P : Program} {w : World} {K : PySem.W.Frag} {mg : Str → Option Value} {base : Heap} (M : Blt mg)
include M
theorem ok_follow {f : Addr} {fd : FuncData} (F : Fun K "_followed" "_followed" s__followed f fd) : FnOk P w K mg base CX0 1 f fd ["moves", "start"] spFollow := by
  refine F.ok sc__followed (fun vs H Q E h => ?_) (fun cdv A outer s H vs Q E hr h => ?_)
  · obtain ⟨m, ms, v, rfl, _⟩ := h
    rfl
  obtain ⟨m, ms, v, rfl, em, hl, hv, hb, q⟩ := h
  have nd := sc__followed.nd
  refine ⟨_, pss_cons (ps_set (i := 2) nd rfl (.inl rfl) (pe_lst pa_nil))
    (pss_cons (ps_set (i := 3) nd rfl (.inl rfl) (pv 1))
    (pss_cons (ps_while PassesOwn.never (pt_cmpR op_notIn_seq (pv 3) (pv 2) rfl) (pss_cons (ps_expr (pe_bm PySem.F.plainAttrs_list PySem.F.slot_list_append PySem.F.type_list_append mt_append (pv 2) (pa_cons (pv 3) pa_nil)))
      (pss_one (ps_set (i := 3) nd rfl (.inl rfl) (pe_ix ix_list (pv 0) (pv 3) (fun _ _ => rfl))))))
    (pss_cons (ps_set (i := 4) nd rfl (.inl rfl) (pe_bm PySem.F.plainAttrs_list PySem.F.slot_list_index PySem.F.type_list_index mt_index (pv 2) (pa_cons (pv 3) pa_nil)))
    (pss_one (ps_ret (pe_tup (pa_cons (pe_tupleOf (by rfl) M.tuple (pe_slice sl_list (pv 2) po_none (po_some (pv 4)))) (pa_cons (pe_tupleOf (by rfl) M.tuple (pe_slice sl_list (pv 2) (po_some (pv 4)) po_none)) pa_nil)))))))), ?_⟩
  refine ⟨Nat.zero_le _, fun o no => ⟨_, rfl, ?_⟩⟩
  have s0 := same_new no (.lst [])
  have e0 : (upd H o (.lst [])) o = some (.lst ((orb (mvF ms) v 0).map nV)) := upd_same
  have sq : ∀ {H' : Hp}, Same (upd H o (.lst [])) H' → H' m = some (.lst (ms.map nV)) := fun sm => sm _ _ (s0 _ _ em)
  refine ⟨fun c σ H' => ∃ k, c + k = ms.length + 1 ∧ (orb (mvF ms) v k).Nodup ∧ Same H H' ∧ H' o = some (.lst ((orb (mvF ms) v k).map nV)) ∧ σ = [some (.ref m), some (nV v), some (.ref o), some (nV (itn (mvF ms) v k)), Option.none], ⟨ms.length + 1, 0, rfl, List.nodup_nil, s0, e0, rfl⟩, ?_⟩
  rintro c σ H1 ⟨k, hck, nd1, sm, eo, rfl⟩
  have kl : k ≤ ms.length := orb_le hb hv nd1
  have lk : itn (mvF ms) v k < ms.length := itn_lt hb hv k
  refine ⟨_, rfl, _, rfl, o, _, rfl, .inl (SqL.of eo), rfl, flat_nV _, _, rfl, ?_⟩
  rw [inV_nV]
  by_cases hin : itn (mvF ms) v k ∈ orb (mvF ms) v k
  · rw [decide_eq_true hin]
    refine iteF ?_
    obtain ⟨j, hm⟩ := meets_of nd1 hin
    have ej : (orb (mvF ms) v k)[j]? = some (itn (mvF ms) v k) := by rw [orb_at hm.lt, hm.eq]
    refine ⟨_, rfl, .inl ⟨rfl, _, SqL.of eo⟩, _, rfl, o, _, _, j, nV (itn (mvF ms) v k), rfl, rfl, SqL.of eo, rfl, flat_nV _, at_map ej, ?_, ?_, ?_⟩
    · rw [eqV_nV]; exact decide_eq_true rfl
    · intro i z hi hz
      obtain ⟨x, hx, rfl⟩ := map_atV hz
      rw [eqV_nV]
      refine decide_eq_false fun z => ?_
      rw [z] at hx
      have := nodup_inj nd1 hx ej
      omega
    refine ⟨_, rfl, _, rfl, _, rfl, o, _, rfl, SqL.of eo, fun p1 hp1 => ?_⟩
    rw [cut_hi]
    refine .inl ⟨p1, _, rfl, SqL.of upd_same, fun p2 hp2 => ?_⟩
    have t1 := same_new hp1 (.lst (((orb (mvF ms) v k).map nV).take j))
    have t2 := same_new hp2 (.tup (((orb (mvF ms) v k).map nV).take j))
    have eo2 := t2 _ _ (t1 _ _ eo)
    refine ⟨_, rfl, _, rfl, _, rfl, o, _, rfl, SqL.of eo2, fun p3 hp3 => ?_⟩
    rw [cut_lo]
    refine .inl ⟨p3, _, rfl, SqL.of upd_same, fun p4 hp4 => ⟨le_line (n := 2) (by decide), fun t ht => ?_⟩⟩
    have t3 := same_new hp3 (.lst (((orb (mvF ms) v k).map nV).drop j))
    have t4 := same_new hp4 (.tup (((orb (mvF ms) v k).map nV).drop j))
    have t5 := same_new ht (.tup [V.ref p2, V.ref p4])
    have e2 := t5 _ _ (t4 _ _ (t3 _ _ (upd_same (H := upd H1 p1 (.lst (((orb (mvF ms) v k).map nV).take j))) (a := p2) (o := .tup (((orb (mvF ms) v k).map nV).take j)))))
    refine q t _ (((((sm.trans t1).trans t2).trans t3).trans t4).trans t5) ?_ ⟨k, j, p2, p4, hm, upd_same, ?_, ?_⟩
    · exact ((((sm.trans t1).trans t2).trans t3).trans t4).free ht
    · rw [List.map_take]; exact e2
    · rw [List.map_drop]; exact t5 _ _ upd_same
  · rw [decide_eq_false hin]
    refine iteT ⟨fun σ H' => ∃ k, (c - 1) + k = ms.length + 1 ∧ (orb (mvF ms) v k).Nodup ∧ Same H H' ∧ H' o = some (.lst ((orb (mvF ms) v k).map nV)) ∧ σ = [some (.ref m), some (nV v), some (.ref o), some (nV (itn (mvF ms) v k)), Option.none], fun σ' H' z => ⟨c - 1, by omega, z⟩, ?_⟩
    refine ⟨_, rfl, .inl ⟨rfl, _, SqL.of eo⟩, _, rfl, o, _, _, rfl, rfl, eo, ?_, ?_⟩
    · rw [List.length_map, orb_len]; exact lt_line (by omega)
    have nd2 := orb_nodup nd1 hin
    have sm2 := same_upd sm no (.lst ((orb (mvF ms) v k).map nV ++ [nV (itn (mvF ms) v k)]))
    have ex : ms[itn (mvF ms) v k]? = some (mvF ms (itn (mvF ms) v k)) := mv_at lk
    refine ⟨_, rfl, _, rfl, m, _, _, _, rfl, rfl, SqL.of (sm2 _ _ em), atI_nat (at_map ex), ?_⟩
    refine ⟨k + 1, by omega, nd2, sm2, ?_, rfl⟩
    rw [upd_same, orb_succ, List.map_append]; rfl
end
end GM
set_option Elab.async false
set_option linter.all false
set_option maxRecDepth 100000
set_option maxHeartbeats 4000000
set_option pp.maxSteps 150
set_option pp.deepTerms false
namespace GM
open PySem PySem.Spec PyProof.Rows L2
/-! ### duel -/
def SqV (H : Hp) (a : Addr) (xs : List V) : Prop := H a = some (.lst xs) ∨ H a = some (.tup xs)
theorem SqV.same {H H' : Hp} {a : Addr} {xs : List V} (h : SqV H a xs) (s : Same H H') : SqV H' a xs := h.imp (s _ _) (s _ _)
/-- what a plan has at the player's own vertices -/
structure PlanOk (os : List Int) (rows : List (List Int)) (who : Int) (pl : List V) : Prop where
  len : pl.length = os.length
  own : ∀ u, u < os.length → os.getD u 0 = who → pl.getD u .non = .non ∨ ∃ z : Nat, (z : Int) ∈ rows.getD u [] ∧ pl.getD u .non = nV z
def stepV (os : List Int) (pa pb : List V) (u : Nat) : V := if os.getD u 0 = 0 then pa.getD u .non else pb.getD u .non
def nxt (os : List Int) (rows : List (List Int)) (pa pb : List V) (u : Nat) : Nat := match stepV os pa pb u with
  | .int z => z.toNat
  | _ => ((rows.getD u []).getD 0 0).toNat
def movesL (os : List Int) (rows : List (List Int)) (pa pb : List V) : List Nat := (List.range os.length).map (nxt os rows pa pb)
theorem movesL_len {os : List Int} {rows : List (List Int)} {pa pb : List V} : (movesL os rows pa pb).length = os.length := by unfold movesL; rw [List.length_map, List.length_range]
theorem movesL_at {os : List Int} {rows : List (List Int)} {pa pb : List V} {u : Nat} (h : u < os.length) : (movesL os rows pa pb)[u]? = some (nxt os rows pa pb u) := by
  unfold movesL; rw [List.getElem?_map, List.getElem?_range h]; rfl
theorem movesL_mv {os : List Int} {rows : List (List Int)} {pa pb : List V} {u : Nat} (h : u < os.length) : mvF (movesL os rows pa pb) u = nxt os rows pa pb u := by
  have e := mv_at (ms := movesL os rows pa pb) (u := u) (by rw [movesL_len]; exact h)
  rw [movesL_at h] at e
  exact (Option.some.inj e).symm
theorem step_own {os ps : List Int} {rows : List (List Int)} {pa pb : List V} (V0 : Valid os ps rows) (ha : PlanOk os rows 0 pa) (hb : PlanOk os rows 1 pb) {u : Nat} (h : u < os.length) :
    (stepV os pa pb u = .non ∨ ∃ z : Nat, (z : Int) ∈ rows.getD u [] ∧ stepV os pa pb u = nV z) := by
  unfold stepV
  have ho : os.getD u 0 = 0 ∨ os.getD u 0 = 1 := by
    have e : os[u]? = some (os.getD u 0) := gd_at h
    have := V0.o _ (List.mem_of_getElem? e)
    omega
  rcases ho with c | c
  · rw [if_pos c]; exact ha.own u h c
  · rw [if_neg (by omega)]; exact hb.own u h c
theorem row_first {os ps : List Int} {rows : List (List Int)} (V0 : Valid os ps rows) {u : Nat} (h : u < os.length) : ∃ z : Nat, (rows.getD u [])[0]? = some (z : Int) ∧ z < os.length ∧ (z : Int) = (rows.getD u []).getD 0 0 := by
  have er : rows[u]? = some (rows.getD u []) := gd_at (by rw [V0.l2]; exact h)
  obtain ⟨_, h2, h3, _⟩ := V0.r _ (List.mem_of_getElem? er)
  cases hq : rows.getD u [] with
  | nil => exact absurd hq h3
  | cons z r =>
    have hz := h2 z (by rw [hq]; exact List.mem_cons_self)
    exact ⟨z.toNat, by show some z = some ((z.toNat : Nat) : Int); rw [show ((z.toNat : Nat) : Int) = z by omega], by omega, by show ((z.toNat : Nat) : Int) = z; omega⟩
theorem row_in {os ps : List Int} {rows : List (List Int)} (V0 : Valid os ps rows) {u z : Nat} (h : u < os.length) (hz : (z : Int) ∈ rows.getD u []) : z < os.length := by
  have er : rows[u]? = some (rows.getD u []) := gd_at (by rw [V0.l2]; exact h)
  obtain ⟨_, h2, _, _⟩ := V0.r _ (List.mem_of_getElem? er)
  have := h2 _ hz
  omega
theorem nxt_non {os : List Int} {rows : List (List Int)} {pa pb : List V} {u : Nat} (h : stepV os pa pb u = .non) : nxt os rows pa pb u = ((rows.getD u []).getD 0 0).toNat := by unfold nxt; rw [h]
theorem nxt_int {os : List Int} {rows : List (List Int)} {pa pb : List V} {u z : Nat} (h : stepV os pa pb u = nV z) : nxt os rows pa pb u = z := by unfold nxt; rw [h]; exact Int.toNat_natCast z
theorem nxt_lt {os ps : List Int} {rows : List (List Int)} {pa pb : List V} (V0 : Valid os ps rows) (ha : PlanOk os rows 0 pa) (hb : PlanOk os rows 1 pb) {u : Nat} (h : u < os.length) : nxt os rows pa pb u < os.length := by
  rcases step_own V0 ha hb h with c | ⟨z, hz, c⟩
  · obtain ⟨z, _, h2, h3⟩ := row_first V0 h
    rw [nxt_non c, ← h3]; exact h2
  · rw [nxt_int c]; exact row_in V0 h hz
theorem moves_lt {os ps : List Int} {rows : List (List Int)} {pa pb : List V} (V0 : Valid os ps rows) (ha : PlanOk os rows 0 pa) (hb : PlanOk os rows 1 pb) {u : Nat} (h : u < (movesL os rows pa pb).length) : mvF (movesL os rows pa pb) u < (movesL os rows pa pb).length := by
  rw [movesL_len] at h ⊢
  rw [movesL_mv h]
  exact nxt_lt V0 ha hb h
def spDuel (C : Addr) : Sp := fun vs H Q _ => ∃ (p va vb : Addr) (v : Nat) (os ps : List Int) (rows : List (List Int)) (dx a b c : Addr) (ts : List Addr) (m : Int) (pa pb : List V), vs = [.ref p, .ref va, .ref vb, nV v] ∧ GameAt C H p os ps rows dx a b c ts m ∧ Valid os ps rows ∧ os.length ≤ 60 ∧
  SqV H va pa ∧ SqV H vb pb ∧ PlanOk os rows 0 pa ∧ PlanOk os rows 1 pb ∧ v < os.length ∧ ∀ t H', Same H H' → H t = none → PlayAt H' t (mvF (movesL os rows pa pb)) v → Q (.ref t) H'
section
variable {P : Program} {w : World} {K : PySem.W.Frag} {mg : Str → Option Value} {base : Heap} {C : Addr} (M : Blt mg) (T : GTxt K mg C)
include M T
theorem ok_duel {f : Addr} {fd : FuncData} (F : Fun K "duel" "duel" s_duel f fd) (G_followed : Kn P w K mg base 1 "_followed" ["moves", "start"] spFollow) : FnOk P w K mg base CX0 2 f fd ["game", "first", "second", "start"] (spDuel C) := by
  refine F.ok sc_duel (fun vs H Q E h => ?_) (fun cdv A outer s H vs Q E hr h => ?_)
  · obtain ⟨p, va, vb, v, os, ps, rows, dx, a, b, c, ts, m, pa, pb, rfl, _⟩ := h
    rfl
  obtain ⟨p, va, vb, v, os, ps, rows, dx, a, b, c, ts, m, pa, pb, rfl, G, V0, h60, ea, eb, oa, ob, hv, q⟩ := h
  have nd := sc_duel.nd
  refine ⟨_, pss_cons (ps_set (i := 4) nd rfl (.inl rfl) (pe_tup (pa_cons (pv 1) (pa_cons (pv 2) pa_nil))))
    (pss_cons (ps_set (i := 5) nd rfl (.inl rfl) (pe_lst pa_nil))
    (pss_cons (ps_for PassesOwn.never rfl (pi_enumT (by rfl) M.enumerate (pa_cons (pe_fld (pv 0) rfl) pa_nil)) (pg_tup rfl (pgs_cons (pg_name (i := 6) nd rfl (.inl rfl)) (pgs_cons (pg_name (i := 7) nd rfl (.inl rfl)) pgs_nil))) (pss_cons (ps_set (i := 8) nd rfl (.inl rfl) (pe_ix ix_seq (pe_ix ix_tup (pv 4) (pe_ix ix_tup (pe_fld (pv 0) rfl) (pv 6) (fun _ _ => rfl)) (fun _ _ => rfl)) (pv 6) (fun _ _ => rfl)))
      (pss_one (ps_expr (pe_bm PySem.F.plainAttrs_list PySem.F.slot_list_append PySem.F.type_list_append mt_append (pv 5) (pa_cons (pe_ifExp (pt_cmpR op_isN (pv 8) pe_non (nomark _)) (pe_ix ix_tup (pv 7) pe_int (fun _ _ => rfl)) (pv 8)) pa_nil))))))
    (pss_one (ps_ret (pe_call G_followed.ok (hr.mono (by decide)) (by rfl) G_followed.m G_followed.kp G_followed.b .nil pass0 (pa_cons (pv 5) (pa_cons (pv 3) pa_nil))))))), ?_⟩
  refine ⟨_, rfl, _, rfl, le_line (n := 2) (by decide), fun t ht => ⟨Nat.zero_le _, fun o no => ?_⟩⟩
  have s0 : Same H (upd H t (.tup [V.ref va, V.ref vb])) := same_new ht _
  have et : (upd H t (.tup [V.ref va, V.ref vb])) t = some (.tup [V.ref va, V.ref vb]) := upd_same
  have eo0 : (upd (upd H t (.tup [V.ref va, V.ref vb])) o (.lst [])) o = some (.lst (((movesL os rows pa pb).take 0).map nV)) := upd_same
  generalize upd H t (.tup [V.ref va, V.ref vb]) = H0 at s0 et no eo0 ⊢
  have so := same_new no (.lst [])
  have G1 := G.same (s0.trans so)
  have hrl : rows.length = os.length := V0.l2
  have htl : ts.length = os.length := by rw [G.or.length]; exact hrl
  refine ⟨_, rfl, p, C, dx, _, _, rfl, G1.ob, T.cl, T.nS, fld_suc a b c m, c, ts.map V.ref, rfl, sqT G1.oc, ?_⟩
  refine for_et (xs := ts.map V.ref) (fun i σ H' => Same H0 H' ∧ H' o = some (.lst (((movesL os rows pa pb).take i).map nV)) ∧ ∃ y6 y7 y8 : Option V, σ = [some (.ref p), some (.ref va), some (.ref vb), some (nV v), some (.ref t), some (.ref o), y6, y7, y8]) ⟨so, eo0, Option.none, Option.none, Option.none, rfl⟩ (fun i σ H' _ z => sqT (z.1 _ _ (s0 _ _ G.oc))) ?_ ?_
  · rintro i x Tp σ H1 hx ⟨sm, eo, y6, y7, y8, rfl⟩ hTp
    obtain ⟨tr, htr, rfl⟩ := map_atV hx
    obtain ⟨xs, hxs, etr⟩ := pr_get G.or htr
    have hi : i < os.length := by rw [← htl]; exact lt_of_at htr
    have exs : rows.getD i [] = xs := by rw [List.getD_eq_getElem?_getD, hxs]; rfl
    have sT := same_new hTp (.tup [.int (i : Nat), V.ref tr])
    have eo1 := sT _ _ eo
    have sm1 := sm.trans sT
    have sH := s0.trans sm1
    have eTp : upd H1 Tp (.tup [.int (i : Nat), V.ref tr]) Tp = some (.tup [.int (i : Nat), V.ref tr]) := upd_same
    generalize upd H1 Tp (.tup [.int (i : Nat), V.ref tr]) = H2 at sT eo1 sm1 sH eTp ⊢
    have G2 := G.same sH
    have eo2 : os[i]? = some (os.getD i 0) := gd_at hi
    refine ⟨Tp, _, rfl, sqT eTp, rfl, ?_⟩
    have hst : ∀ (k : V → Hp → Prop), k (stepV os pa pb i) H2 → (tOp (rIx K) (tOp (rIxT K) (tVar 4) (tOp (rIxT K) (tFld K (tVar 0) "owners") (tVar 6))) (tVar 6)) [some (.ref p), some (.ref va), some (.ref vb), some (nV v), some (.ref t), some (.ref o), some (nV i), some (.ref tr), y8] H2 k := by
      intro k hk
      have ho : os.getD i 0 = 0 ∨ os.getD i 0 = 1 := by
        have := V0.o _ (List.mem_of_getElem? eo2)
        omega
      have et2 := sm1 _ _ et
      have ixq : ∀ {va : Addr} {pl : List V}, SqV H2 va pl → pl.length = os.length → pl.getD i .non = stepV os pa pb i → rIx K (V.ref va) (nV i) H2 k := by
        intro va pl e hl es
        have at_ : pl[i]? = some (stepV os pa pb i) := by rw [← es]; exact gd_at (by omega)
        rcases e with e | e
        · exact .inl ⟨va, _, _, _, rfl, rfl, SqL.of e, atI_nat at_, hk⟩
        · exact .inr (.inl ⟨va, _, _, _, rfl, rfl, sqT e, atI_nat at_, hk⟩)
      rcases ho with c1 | c1
      · refine ⟨_, rfl, _, rfl, p, C, dx, _, _, rfl, G2.ob, T.cl, T.nO, fld_own a b c m, _, rfl, a, _, _, _, rfl, rfl, sqT G2.oa, atI_nat (at_map eo2), t, _, _, .ref va, rfl, rfl, sqT et2, by rw [c1]; rfl, _, rfl, ?_⟩
        exact ixq (ea.same sH) oa.len (by unfold stepV; rw [if_pos c1])
      · refine ⟨_, rfl, _, rfl, p, C, dx, _, _, rfl, G2.ob, T.cl, T.nO, fld_own a b c m, _, rfl, a, _, _, _, rfl, rfl, sqT G2.oa, atI_nat (at_map eo2), t, _, _, .ref vb, rfl, rfl, sqT et2, by rw [c1]; rfl, _, rfl, ?_⟩
        exact ixq (eb.same sH) ob.len (by unfold stepV; rw [if_neg (by omega)])
    refine ⟨_, _, rfl, _, _, rfl, rfl, ?_⟩
    refine hst _ ?_
    have lt2 : ((movesL os rows pa pb).take i).length = i := by rw [List.length_take, movesL_len]; omega
    have fin : ∀ (z : Nat), nxt os rows pa pb i = z → (upd H2 o (.lst (((movesL os rows pa pb).take i).map nV ++ [nV z]))) o = some (.lst (((movesL os rows pa pb).take (i + 1)).map nV)) := by
      intro z hz
      rw [upd_same, tk1 (movesL_at hi), List.map_append, hz]; rfl
    rcases step_own V0 oa ob hi with c1 | ⟨z, hz, c1⟩
    · rw [c1]
      refine ⟨_, rfl, .inl ⟨rfl, _, SqL.of eo1⟩, _, rfl, rfl, _, rfl, iteT ?_⟩
      obtain ⟨z, hz, hzl, hz2⟩ := row_first V0 hi
      rw [exs] at hz hz2
      have hn : nxt os rows pa pb i = z := by rw [nxt_non c1, exs, ← hz2]; exact Int.toNat_natCast z
      refine ⟨_, rfl, tr, _, 0, nV z, rfl, rfl, sqT (sH _ _ etr), (atI_nat (at_map hz) : _), ?_⟩
      refine ⟨o, _, _, rfl, rfl, eo1, by rw [List.length_map, lt2]; exact lt_line (by omega), ?_⟩
      exact ⟨same_upd sm1 no _, fin z hn, _, _, _, rfl⟩
    · rw [c1]
      refine ⟨_, rfl, .inl ⟨rfl, _, SqL.of eo1⟩, _, rfl, rfl, _, rfl, iteF ?_⟩
      refine ⟨_, rfl, o, _, _, rfl, rfl, eo1, by rw [List.length_map, lt2]; exact lt_line (by omega), ?_⟩
      exact ⟨same_upd sm1 no _, fin z (nxt_int c1), _, _, _, rfl⟩
  · rintro σ H1 ⟨sm, eo, y6, y7, y8, rfl⟩
    rw [List.length_map, htl, List.take_of_length_le (by rw [movesL_len]; exact Nat.le_refl _)] at eo
    refine ⟨_, rfl, _, rfl, o, movesL os rows pa pb, v, rfl, eo, by rw [movesL_len]; exact h60, by rw [movesL_len]; exact hv, fun u hu => moves_lt V0 oa ob hu, fun t2 H2 s2 ht2 hp => q t2 H2 ((s0.trans sm).trans s2) ((s0.trans sm).free ht2) hp⟩
end
end GM
set_option Elab.async false
set_option linter.all false
set_option maxRecDepth 100000
set_option maxHeartbeats 4000000
set_option pp.maxSteps 150
set_option pp.deepTerms false
namespace GM
open PySem PySem.Spec PyProof.Rows L2
/-! ### _law_duel -/
def spLDuel : Sp := fun vs H Q _ => ∃ (g pl va vb : Addr) (v : Nat) (os ps : List Int) (rows : List (List Int)) (o p s : Addr) (rs : List Addr) (pa pb : List V), vs = [.ref g, .ref pl, nV v] ∧ GraphAt H g os ps rows o p s rs ∧ Valid os ps rows ∧ os.length ≤ 60 ∧
  H pl = some (.lst [.ref va, .ref vb]) ∧ H va = some (.lst pa) ∧ H vb = some (.lst pb) ∧ PlanOk os rows 0 pa ∧ PlanOk os rows 1 pb ∧ v < os.length ∧ ∀ t H', Same H H' → H t = none → PlayAt H' t (mvF (movesL os rows pa pb)) v → Q (.ref t) H'
section
variable {P : Program} {w : World} {K : PySem.W.Frag} {mg : Str → Option Value} {base : Heap} {C : Addr} (M : Blt mg)
include M
theorem ok_lduel {f : Addr} {fd : FuncData} (F : Fun K "_law_duel" "_law_duel" s__law_duel f fd) : FnOk P w K mg base CX0 1 f fd ["game", "plans", "v"] spLDuel := by
  refine F.ok sc__law_duel (fun vs H Q E h => ?_) (fun cdv A outer s H vs Q E hr h => ?_)
  · obtain ⟨g, pl, va, vb, v, os, ps, rows, o, p, s, rs, pa, pb, rfl, _⟩ := h
    rfl
  obtain ⟨g, pl, va, vb, v, os, ps, rows, o, p, sx, rs, pa, pb, rfl, G, V0, h60, epl, ea, eb, oa, ob, hv, q⟩ := h
  have nd := sc__law_duel.nd
  refine ⟨_, pss_cons (ps_set (i := 3) nd rfl (.inl rfl) (pe_lst pa_nil))
    (pss_cons (ps_set (i := 4) nd rfl (.inl rfl) (pv 2))
    (pss_cons (ps_for PassesOwn.never rfl (pi_range1 rfl M.range (pa_cons (pe_op op_add (pe_callB call_len_seq (by rfl) M.len PySem.boot_len (pa_cons (pe_ix ix_list (pv 0) pe_int (fun _ _ => rfl)) pa_nil)) pe_int) pa_nil)) (pg_name (i := 5) nd rfl (.inl rfl)) (pss_cons (ps_if (pt_cmpR op_in_seq (pv 4) (pv 3) rfl) (pss_one ps_break) pss_nil)
      (pss_cons (ps_expr (pe_bm PySem.F.plainAttrs_list PySem.F.slot_list_append PySem.F.type_list_append mt_append (pv 3) (pa_cons (pv 4) pa_nil)))
      (pss_cons (ps_set (i := 6) nd rfl (.inl rfl) (pe_ix ix_list (pe_ix ix_list (pv 1) (pe_ix ix_list (pe_ix ix_list (pv 0) pe_int (fun _ _ => rfl)) (pv 4) (fun _ _ => rfl)) (fun _ _ => rfl)) (pv 4) (fun _ _ => rfl)))
      (pss_cons (ps_if (pt_cmpR op_isN (pv 6) pe_non (nomark _)) (pss_one (ps_set (i := 6) nd rfl (.inl rfl) (pe_ix ix_list (pe_ix ix_list (pe_ix ix_list (pv 0) pe_int (fun _ _ => rfl)) (pv 4) (fun _ _ => rfl)) pe_int (fun _ _ => rfl)))) pss_nil)
      (pss_one (ps_set (i := 4) nd rfl (.inl rfl) (pv 6))))))))
    (pss_cons (ps_set (i := 7) nd rfl (.inl rfl) (pe_bm PySem.F.plainAttrs_list PySem.F.slot_list_index PySem.F.type_list_index mt_index (pv 3) (pa_cons (pv 4) pa_nil)))
    (pss_one (ps_ret (pe_tup (pa_cons (pe_tupleOf (by rfl) M.tuple (pe_slice sl_list (pv 3) po_none (po_some (pv 7)))) (pa_cons (pe_tupleOf (by rfl) M.tuple (pe_slice sl_list (pv 3) (po_some (pv 7)) po_none)) pa_nil)))))))), ?_⟩
  refine ⟨Nat.zero_le _, fun st no => ⟨_, rfl, ?_⟩⟩
  have ss := same_new no (.lst [])
  have G1 := G.same ss
  refine ⟨_, rfl, g, _, 0, .ref o, rfl, rfl, SqL.of G1.g0, rfl, o, _, rfl, .inl (SqL.of G1.o0), _, _, rfl, rfl, _, rfl, by rw [List.length_map]; omega, by rw [List.length_map]; omega, ?_⟩
  have hn : (((os.map V.int).length : Nat) + 1 : Int).toNat = os.length + 1 := by rw [List.length_map]; rfl
  rw [hn]
  have hm60 : (movesL os rows pa pb).length ≤ 60 := by rw [movesL_len]; exact h60
  have hb := fun u hu => moves_lt (u := u) V0 oa ob hu
  have hvm : v < (movesL os rows pa pb).length := by rw [movesL_len]; exact hv
  have hrl : rows.length = os.length := V0.l2
  have hsl : rs.length = os.length := by rw [G.r0.length]; exact hrl
  refine for_range (n := os.length + 1) (fun i σ H' => Same H H' ∧ (orb (mvF (movesL os rows pa pb)) v i).Nodup ∧ H' st = some (.lst ((orb (mvF (movesL os rows pa pb)) v i).map nV)) ∧ ∃ y5 y6 : Option V, σ = [some (.ref g), some (.ref pl), some (nV v), some (.ref st), some (nV (itn (mvF (movesL os rows pa pb)) v i)), y5, y6, Option.none])
    ⟨ss, List.nodup_nil, upd_same, Option.none, Option.none, rfl⟩ ?_ ?_
  · rintro i σ H1 hi ⟨sm, nd1, eo, y5, y6, rfl⟩
    have lk : itn (mvF (movesL os rows pa pb)) v i < os.length := by rw [← movesL_len (rows := rows) (pa := pa) (pb := pb)]; exact itn_lt hb hvm i
    refine ⟨_, rfl, _, rfl, st, _, rfl, .inl (SqL.of eo), rfl, flat_nV _, _, rfl, ?_⟩
    rw [inV_nV]
    by_cases hin : itn (mvF (movesL os rows pa pb)) v i ∈ orb (mvF (movesL os rows pa pb)) v i
    · rw [decide_eq_true hin]
      refine iteT ?_
      obtain ⟨j, hm⟩ := meets_of nd1 hin
      generalize mvF (movesL os rows pa pb) = F at *
      have ej : (orb F v i)[j]? = some (itn F v i) := by rw [orb_at hm.lt, hm.eq]
      refine ⟨_, rfl, .inl ⟨rfl, _, SqL.of eo⟩, _, rfl, st, _, _, j, nV (itn F v i), rfl, rfl, SqL.of eo, rfl, flat_nV _, at_map ej, ?_, ?_, ?_⟩
      · rw [eqV_nV]; exact decide_eq_true rfl
      · intro i2 z hi2 hz
        obtain ⟨x, hx, rfl⟩ := map_atV hz
        rw [eqV_nV]
        refine decide_eq_false fun z => ?_
        rw [z] at hx
        have := nodup_inj nd1 hx ej
        omega
      refine ⟨_, rfl, _, rfl, _, rfl, st, _, rfl, SqL.of eo, fun p1 hp1 => ?_⟩
      rw [cut_hi]
      refine .inl ⟨p1, _, rfl, SqL.of upd_same, fun p2 hp2 => ?_⟩
      have t1 := same_new hp1 (.lst (((orb F v i).map nV).take j))
      have t2 := same_new hp2 (.tup (((orb F v i).map nV).take j))
      have eo2 := t2 _ _ (t1 _ _ eo)
      refine ⟨_, rfl, _, rfl, _, rfl, st, _, rfl, SqL.of eo2, fun p3 hp3 => ?_⟩
      rw [cut_lo]
      refine .inl ⟨p3, _, rfl, SqL.of upd_same, fun p4 hp4 => ⟨le_line (n := 2) (by decide), fun t ht => ?_⟩⟩
      have t3 := same_new hp3 (.lst (((orb F v i).map nV).drop j))
      have t4 := same_new hp4 (.tup (((orb F v i).map nV).drop j))
      have t5 := same_new ht (.tup [V.ref p2, V.ref p4])
      have e2 := t5 _ _ (t4 _ _ (t3 _ _ (upd_same (H := upd H1 p1 (.lst (((orb F v i).map nV).take j))) (a := p2) (o := .tup (((orb F v i).map nV).take j)))))
      refine q t _ (((((sm.trans t1).trans t2).trans t3).trans t4).trans t5) ?_ ⟨i, j, p2, p4, hm, upd_same, ?_, ?_⟩
      · exact ((((sm.trans t1).trans t2).trans t3).trans t4).free ht
      · rw [List.map_take]; exact e2
      · rw [List.map_drop]; exact t5 _ _ upd_same
    · rw [decide_eq_false hin]
      refine iteF ?_
      have nd2 := orb_nodup nd1 hin
      have emv : itn (mvF (movesL os rows pa pb)) v (i + 1) = nxt os rows pa pb (itn (mvF (movesL os rows pa pb)) v i) := movesL_mv lk
      have eorb := orb_succ (mvF (movesL os rows pa pb)) v i
      have hil : (orb (mvF (movesL os rows pa pb)) v i).length = i := orb_len _ _ _
      generalize itn (mvF (movesL os rows pa pb)) v (i + 1) = u2 at emv ⊢
      generalize hu : itn (mvF (movesL os rows pa pb)) v i = u at *
      refine ⟨_, rfl, .inl ⟨rfl, _, SqL.of eo⟩, _, rfl, st, _, _, rfl, rfl, eo, by rw [List.length_map, hil]; exact lt_line (by omega), ?_⟩
      have sm2 := same_upd sm no (.lst ((orb (mvF (movesL os rows pa pb)) v i).map nV ++ [nV u]))
      have eo2 : (upd H1 st (.lst ((orb (mvF (movesL os rows pa pb)) v i).map nV ++ [nV u]))) st = some (.lst ((orb (mvF (movesL os rows pa pb)) v (i + 1)).map nV)) := by
        rw [upd_same, eorb, List.map_append]; rfl
      generalize upd H1 st (.lst ((orb (mvF (movesL os rows pa pb)) v i).map nV ++ [nV u])) = H2 at sm2 eo2 ⊢
      have G2 := G.same sm2
      have eou : os[u]? = some (os.getD u 0) := gd_at lk
      have ho : os.getD u 0 = 0 ∨ os.getD u 0 = 1 := by
        have := V0.o _ (List.mem_of_getElem? eou)
        omega
      have key : ∀ (k : V → Hp → Prop), k (stepV os pa pb u) H2 → (tOp (rIxL K) (tOp (rIxL K) (tVar 1) (tOp (rIxL K) (tOp (rIxL K) (tVar 0) (tC (.int 0))) (tVar 4))) (tVar 4)) [some (.ref g), some (.ref pl), some (nV v), some (.ref st), some (nV u), y5, y6, Option.none] H2 k := by
        intro k hk
        rcases ho with c1 | c1
        · have at_ : pa[u]? = some (stepV os pa pb u) := by unfold stepV; rw [if_pos c1]; exact gd_at (by rw [oa.len]; exact lk)
          exact ⟨_, rfl, _, rfl, g, _, 0, .ref o, rfl, rfl, SqL.of G2.g0, rfl, _, rfl, o, _, _, _, rfl, rfl, SqL.of G2.o0, atI_nat (at_map eou), pl, _, _, .ref va, rfl, rfl, SqL.of (sm2 _ _ epl), by rw [c1]; rfl, _, rfl, va, _, _, _, rfl, rfl, SqL.of (sm2 _ _ ea), atI_nat at_, hk⟩
        · have at_ : pb[u]? = some (stepV os pa pb u) := by unfold stepV; rw [if_neg (by omega)]; exact gd_at (by rw [ob.len]; exact lk)
          exact ⟨_, rfl, _, rfl, g, _, 0, .ref o, rfl, rfl, SqL.of G2.g0, rfl, _, rfl, o, _, _, _, rfl, rfl, SqL.of G2.o0, atI_nat (at_map eou), pl, _, _, .ref vb, rfl, rfl, SqL.of (sm2 _ _ epl), by rw [c1]; rfl, _, rfl, vb, _, _, _, rfl, rfl, SqL.of (sm2 _ _ eb), atI_nat at_, hk⟩
      refine key _ ?_
      rcases step_own V0 oa ob lk with c1 | ⟨z, hz, c1⟩
      · rw [c1]
        obtain ⟨z, hz, hzl, hz2⟩ := row_first V0 lk
        have hn : nxt os rows pa pb u = z := by rw [nxt_non c1, ← hz2]; exact Int.toNat_natCast z
        have hr1 : rows[u]? = some (rows.getD u []) := gd_at (by rw [hrl]; exact lk)
        obtain ⟨r1, hr2, er1⟩ := pr_getR G2.r0 hr1
        refine ⟨_, rfl, rfl, _, rfl, iteT ⟨_, rfl, g, _, 2, .ref sx, rfl, rfl, SqL.of G2.g0, rfl, _, rfl, sx, _, _, _, rfl, rfl, SqL.of G2.s0, atI_nat (at_map hr2), r1, _, 0, nV z, rfl, rfl, SqL.of er1, (atI_nat (at_map hz) : _), _, rfl, ?_⟩⟩
        exact ⟨sm2, nd2, eo2, _, _, by rw [emv, hn]; rfl⟩
      · rw [c1]
        refine ⟨_, rfl, rfl, _, rfl, iteF ⟨_, rfl, ?_⟩⟩
        exact ⟨sm2, nd2, eo2, _, _, by rw [emv, nxt_int c1]; rfl⟩
  · rintro σ H1 ⟨sm, nd1, _⟩
    have := orb_le hb hvm nd1
    rw [movesL_len] at this
    omega
end
end GM
set_option Elab.async false
set_option linter.all false
set_option maxRecDepth 100000
set_option maxHeartbeats 4000000
set_option pp.maxSteps 150
set_option pp.deepTerms false
namespace GM
open PySem PySem.Spec PyProof.Rows L2
/-! ### _law_plan -/
def spPlan (K : PySem.W.Frag) : Sp := fun vs H Q _ => ∃ (g : Addr) (who cell : Int) (os ps : List Int) (rows : List (List Int)) (o p s : Addr) (rs : List Addr), vs = [.ref g, .int who, .int cell] ∧ GraphAt H g os ps rows o p s rs ∧ Valid os ps rows ∧ os.length ≤ 60 ∧
  ∀ H' t pl ds, Same H H' → H t = none → H' t = some (.lst pl) → PlanOk os rows who pl → DpAll K (newH H H') pl ds → (∀ d ∈ ds, Sm 1 1 d) → Q (.ref t) H'
theorem own_snoc {os : List Int} {rows : List (List Int)} {who : Int} {pl : List V} {x : V} (h : ∀ u, u < pl.length → os.getD u 0 = who → pl.getD u .non = .non ∨ ∃ z : Nat, (z : Int) ∈ rows.getD u [] ∧ pl.getD u .non = nV z)
    (hx : os.getD pl.length 0 = who → x = .non ∨ ∃ z : Nat, (z : Int) ∈ rows.getD pl.length [] ∧ x = nV z) :
    ∀ u, u < (pl ++ [x]).length → os.getD u 0 = who → (pl ++ [x]).getD u .non = .non ∨ ∃ z : Nat, (z : Int) ∈ rows.getD u [] ∧ (pl ++ [x]).getD u .non = nV z := by
  intro u hu ho
  rw [List.length_append] at hu
  simp only [List.length_cons, List.length_nil] at hu
  by_cases c : u < pl.length
  · have e : (pl ++ [x]).getD u .non = pl.getD u .non := by
      rw [List.getD_eq_getElem?_getD, List.getD_eq_getElem?_getD, List.getElem?_append_left c]
    rw [e]; exact h u c ho
  · have eu : u = pl.length := by omega
    subst eu
    have e : (pl ++ [x]).getD pl.length .non = x := by
      rw [List.getD_eq_getElem?_getD, List.getElem?_append_right (Nat.le_refl _), Nat.sub_self]; rfl
    rw [e]; exact hx ho
section
variable {P : Program} {w : World} {K : PySem.W.Frag} {mg : Str → Option Value} {base : Heap} {C : Addr} (M : Blt mg)
include M
theorem ok_plan {f : Addr} {fd : FuncData} (F : Fun K "_law_plan" "_law_plan" s__law_plan f fd) (G_law_digits : Kn P w K mg base 1 "_law_digits" ["cell", "sizes"] (spDigits K)) : FnOk P w K mg base CX0 2 f fd ["game", "who", "cell"] (spPlan K) := by
  refine F.ok sc__law_plan (fun vs H Q E h => ?_) (fun cdv A outer s H vs Q E hr h => ?_)
  · obtain ⟨g, who, cell, os, ps, rows, o, p, s, rs, rfl, _⟩ := h
    rfl
  obtain ⟨g, who, cell, os, ps, rows, o, p, sx, rs, rfl, G, V0, h60, q⟩ := h
  have nd := sc__law_plan.nd
  refine ⟨_, pss_cons (ps_set (i := 3) nd rfl (.inl rfl) (pe_callB call_len_seq (by rfl) M.len PySem.boot_len (pa_cons (pe_ix ix_list (pv 0) pe_int (fun _ _ => rfl)) pa_nil)))
    (pss_cons (ps_set (i := 4) nd rfl (.inl rfl) (pe_call G_law_digits.ok (hr.mono (by decide)) (by rfl) G_law_digits.m G_law_digits.kp G_law_digits.b .nil pass0 (pa_cons (pv 2) (pa_cons (pe_op op_cat (pe_lst (pa_cons pe_int pa_nil)) (pe_lc (own := [("v", 6)]) (g := gName 6) (tt := tYes) rfl nd (pi_range1 rfl M.range (pa_cons (pv 3) pa_nil)) (blkOk_by (N := n__law_plan) (sc := defScope s__law_plan) (by decide +kernel)) (fun _ _ _ _ _ => pg_name (i := 6) nd rfl (Or.inl rfl)) (fun _ _ _ _ _ => pts_nil) (fun _ _ _ _ _ => pe_int))) pa_nil))))
    (pss_cons (ps_set (i := 5) nd rfl (.inl rfl) (pe_lst pa_nil))
    (pss_cons (ps_for PassesOwn.never rfl (pi_range1 rfl M.range (pa_cons (pv 3) pa_nil)) (pg_name (i := 6) nd rfl (.inl rfl)) (pss_cons (ps_set (i := 7) nd rfl (.inl rfl) (pe_ix ix_list (pv 4) (pe_op op_add pe_int (pv 6)) (fun _ _ => rfl)))
      (pss_cons (ps_set (i := 8) nd rfl (.inl rfl) (pe_ix ix_list (pe_ix ix_list (pe_ix ix_list (pv 0) pe_int (fun _ _ => rfl)) (pv 6) (fun _ _ => rfl)) (pe_op op_mod (pe_callTy call_int1 (by rfl) M.int PyProof.Rows.boot_int (pa_cons (pv 7) pa_nil)) (pe_callB call_len_seq (by rfl) M.len PySem.boot_len (pa_cons (pe_ix ix_list (pe_ix ix_list (pv 0) pe_int (fun _ _ => rfl)) (pv 6) (fun _ _ => rfl)) pa_nil))) (fun _ _ => rfl)))
      (C8.pss_cut (ps_if (pt_cmpR op_ne (pe_ix ix_list (pe_ix ix_list (pv 0) pe_int (fun _ _ => rfl)) (pv 6) (fun _ _ => rfl)) (pv 1) (nomark _)) (pss_one (ps_set (i := 8) nd rfl (.inl rfl) (pe_ix ix_list (pe_lst (pa_cons pe_non (pa_cons (pv 8) (pa_cons (pv 7) (pa_cons pe_str (pa_cons (pe_op op_sub (pe_un un_neg pe_int) (pv 7)) (pa_cons (pe_tup (pa_cons (pv 8) pa_nil)) (pa_cons (pe_lst (pa_cons (pv 8) pa_nil)) (pa_cons pe_bl pa_nil))))))))) (pe_op op_mod (pe_op op_fdiv (pe_callTy call_int1 (by rfl) M.int PyProof.Rows.boot_int (pa_cons (pv 7) pa_nil)) pe_int) pe_int) (fun _ _ => rfl)))) (pss_one (ps_if (PW.pt (pw_or (pt_cmpR op_eq (pe_ix ix_list (pv 4) pe_int (fun _ _ => rfl)) pe_int (nomark _)) (pw_or1 (PW.pt (pw_and (pt_cmpR op_eq (pe_ix ix_list (pv 4) pe_int (fun _ _ => rfl)) pe_int (nomark _)) (pw_and1 (pt_cmpR op_eq (pe_op op_mod (pe_op op_fdiv (pe_callTy call_int1 (by rfl) M.int PyProof.Rows.boot_int (pa_cons (pv 7) pa_nil)) pe_int) pe_int) pe_int (nomark _)))))))) (pss_one (ps_set (i := 8) nd rfl (.inl rfl) pe_non)) pss_nil)))
      (pss_one (ps_expr (pe_bm PySem.F.plainAttrs_list PySem.F.slot_list_append PySem.F.type_list_append mt_append (pv 5) (pa_cons (pv 8) pa_nil))))))))
    (pss_one (ps_ret (pv 5)))))), ?_⟩
  have hrl : rows.length = os.length := V0.l2
  have hsl : rs.length = os.length := by rw [G.r0.length]; exact hrl
  refine ⟨_, rfl, g, _, 0, .ref o, rfl, rfl, SqL.of G.g0, rfl, o, _, rfl, .inl (SqL.of G.o0), ?_⟩
  rw [List.length_map]
  refine ⟨_, rfl, le_line (n := 1) (by decide), fun l1 hl1 => ⟨_, rfl, _, rfl, by omega, by omega, fun D1 hD1 => ?_⟩⟩
  have t1 := same_new hl1 (.lst [V.int 3])
  refine lc_mapR (n := os.length) (fun _ => .int 2520) (by omega) hD1 (fun j H' k' nn hj sm h => ⟨rfl, tYI h⟩) (fun H2 s2 eD1 => ?_)
  rw [const_range] at eD1
  refine ⟨l1, D1, _, _, rfl, rfl, s2 _ _ upd_same, eD1, le_line (by show 1 + (List.replicate os.length (V.int 2520)).length ≤ 1000; rw [List.length_replicate]; omega), fun q4 hq4 => ?_⟩
  have eq4 : upd H2 q4 (.lst ([V.int 3] ++ List.replicate os.length (V.int 2520))) q4 = some (.lst (([(3 : Int)] ++ List.replicate os.length (2520 : Int)).map V.int)) := by
    rw [upd_same, List.map_append, rep_map]; rfl
  have s4 := (t1.trans s2).trans (same_new hq4 (.lst ([V.int 3] ++ List.replicate os.length (V.int 2520))))
  refine ⟨cell, q4, [(3 : Int)] ++ List.replicate os.length (2520 : Int), rfl, SqL.of eq4, by rw [List.length_append, List.length_replicate]; show 1 + os.length ≤ 1000; omega, fun s hs => ?_, fun p5 ds5 H5 s5 hp5 ep5 hd5 => ?_⟩
  · rcases List.mem_append.mp hs with hs | hs
    · simp only [List.mem_cons, List.not_mem_nil, or_false] at hs
      subst hs; decide
    · rw [List.eq_of_mem_replicate hs]; decide
  obtain ⟨e0, rest, rfl, g0, hd5⟩ := hd5.cons
  have lr : rest.length = os.length := (Dg.len hd5).trans List.length_replicate
  have hrest : ∀ d ∈ rest, 0 ≤ d ∧ d < 2520 := hd5.all (fun s hs => by rw [List.eq_of_mem_replicate hs]; exact Int.le_refl _)
  have s45 := s4.trans s5
  clear eq4 eD1
  generalize H5 = H1 at s45 ep5 ⊢
  refine ⟨Nat.zero_le _, fun pa no => ⟨_, rfl, _, rfl, by omega, by omega, ?_⟩⟩
  have hnn : ((os.length : Nat) : Int).toNat = os.length := rfl
  rw [hnn]
  have no' : H pa = none := s45.free no
  refine for_range (n := os.length) (fun i σ H' => Same H1 H' ∧ (∃ (pl : List V) (ds : List PyData), H' pa = some (.lst pl) ∧ pl.length = i ∧ DpAll K (nw H H' pa) pl ds ∧ (∀ d ∈ ds, Sm 1 1 d) ∧ (∀ u, u < pl.length → os.getD u 0 = who → pl.getD u .non = .non ∨ ∃ z : Nat, (z : Int) ∈ rows.getD u [] ∧ pl.getD u .non = nV z)) ∧
      ∃ y6 y7 y8 : Option V, σ = [some (.ref g), some (.int who), some (.int cell), some (.int (os.length : Nat)), some (.ref p5), some (.ref pa), y6, y7, y8])
    ⟨same_new no _, ⟨[], [], upd_same, rfl, .nil, (fun _ h => nomatch h), fun u hu => absurd hu (Nat.not_lt_zero _)⟩, Option.none, Option.none, Option.none, rfl⟩ ?_ ?_
  · rintro i σ H3 hi ⟨sm, ⟨pl, ds, ep, lp, dp, hs, own⟩, y6, y7, y8, rfl⟩
    have ex : (e0 :: rest)[1 + i]? = some (rest.getD i 0) := by
      rw [Nat.add_comm, List.getElem?_cons_succ]; exact gd_at (by omega)
    have hnum := hrest (rest.getD i 0) (List.mem_of_getElem? (gd_at (by omega)))
    have G3 := G.same (s45.trans sm)
    have hr1 : rows[i]? = some (rows.getD i []) := gd_at (by omega)
    obtain ⟨r1, hr2, er1⟩ := pr_getR G3.r0 hr1
    obtain ⟨h1, h2, h3, h4⟩ := V0.r _ (List.mem_of_getElem? hr1)
    have hpos : 0 < (rows.getD i []).length := List.length_pos_iff.mpr h3
    generalize hnm : rest.getD i 0 = num at *
    refine ⟨_, rfl, _, rfl, _, _, rfl, rfl, p5, _, _, _, rfl, rfl, SqL.of (sm _ _ ep5), (by rw [show (1 : Int) + (0 + (i : Int)) = ((1 + i : Nat) : Int) by omega]; exact atI_nat (at_map ex)), ?_⟩
    have hlen : (((rows.getD i []).map V.int).length : Int) = ((rows.getD i []).length : Nat) := by rw [List.length_map]
    obtain ⟨k, hk, ek⟩ : ∃ k : Nat, k < (rows.getD i []).length ∧ num % (((rows.getD i []).map V.int).length : Int) = (k : Int) := by
      rw [hlen]
      have a1 := Int.emod_nonneg num (show (((rows.getD i []).length : Nat) : Int) ≠ 0 by omega)
      have a2 := Int.emod_lt_of_pos num (show (0 : Int) < (((rows.getD i []).length : Nat) : Int) by omega)
      exact ⟨(num % (((rows.getD i []).length : Nat) : Int)).toNat, by omega, by omega⟩
    obtain ⟨z, hz, hzr⟩ : ∃ z : Nat, (rows.getD i [])[k]? = some (z : Int) ∧ z < os.length := by
      have e1 : (rows.getD i [])[k]? = some ((rows.getD i []).getD k 0) := gd_at hk
      have e2 := h2 _ (List.mem_of_getElem? e1)
      exact ⟨((rows.getD i []).getD k 0).toNat, by rw [e1]; exact congrArg some (by omega), by omega⟩
    have eou : os[i]? = some (os.getD i 0) := gd_at hi
    rw [Int.zero_add]
    refine ⟨_, rfl, g, _, 2, .ref sx, rfl, rfl, SqL.of G3.g0, rfl, _, rfl, sx, _, _, _, rfl, rfl, SqL.of G3.s0, atI_nat (at_map hr2), _, rfl, .inl ⟨_, rfl, _, rfl, g, _, 2, .ref sx, rfl, rfl, SqL.of G3.g0, rfl, _, rfl, sx, _, _, _, rfl, rfl, SqL.of G3.s0, atI_nat (at_map hr2), r1, _, rfl, .inl (SqL.of er1), _, _, rfl, rfl, (by rw [hlen]; omega), r1, _, _, nV z, rfl, rfl, SqL.of er1, (by rw [ek]; exact atI_nat (at_map hz)), ?_⟩⟩
    refine ⟨fun σ H' => Same H3 H' ∧ ∃ (x : V) (d : PyData), Dp K (nw H H' pa) x d ∧ Sm 1 1 d ∧ (os.getD i 0 = who → x = .non ∨ ∃ z : Nat, (z : Int) ∈ rows.getD i [] ∧ x = nV z) ∧ σ = [some (.ref g), some (.int who), some (.int cell), some (.int (os.length : Nat)), some (.ref p5), some (.ref pa), some (nV i), some (.int num), some x], ?_, ?_⟩
    · refine ⟨_, rfl, g, _, 0, .ref o, rfl, rfl, SqL.of G3.g0, rfl, _, rfl, o, _, _, _, rfl, rfl, SqL.of G3.o0, atI_nat (at_map eou), _, rfl, rfl, _, rfl, ?_⟩
      rw [dInt]
      have npa : ∀ {b : Addr}, H3 b = Option.none → b ≠ pa := fun e z => by rw [z, ep] at e; exact nomatch e
      by_cases c1 : os.getD i 0 = who
      · rw [decide_eq_true c1]
        refine iteF ?_
        have ep5' := sm _ _ ep5
        have at0 : atI ((e0 :: rest).map V.int) 0 = some (.int e0) := atI_nat (j := 0) rfl
        refine ⟨_, rfl, p5, _, 0, .int e0, rfl, rfl, SqL.of ep5', at0, rfl, _, rfl, ite2 (fun _ => ?_) (fun _ => ?_)⟩
        · exact ⟨.refl _, _, _, .non, sm_non.mono (by decide) (by decide), fun _ => .inl rfl, rfl⟩
        · refine ⟨_, rfl, p5, _, 0, .int e0, rfl, rfl, SqL.of ep5', at0, rfl, _, rfl, ite2 (fun _ => ?_) (fun _ => ?_)⟩
          · exact ⟨_, rfl, .inl ⟨_, rfl, _, _, rfl, rfl, ⟨by decide, by decide⟩, _, _, rfl, rfl, (by show (0 : Int) < 3; decide), rfl, _, rfl, ite2 (fun _ => ⟨.refl _, _, _, .non, sm_non.mono (by decide) (by decide), fun _ => .inl rfl, rfl⟩) (fun _ => ⟨.refl _, _, _, .int _, (sm_int (by omega) (by omega)).mono (by decide) (by decide), fun _ => .inr ⟨z, List.mem_of_getElem? hz, rfl⟩, rfl⟩)⟩⟩
          · exact ⟨.refl _, _, _, .int _, (sm_int (by omega) (by omega)).mono (by decide) (by decide), fun _ => .inr ⟨z, List.mem_of_getElem? hz, rfl⟩, rfl⟩
      · rw [decide_eq_false c1]
        refine iteT ?_
        refine ⟨_, rfl, _, rfl, _, rfl, _, rfl, _, _, rfl, rfl, _, rfl, le_line (n := 1) (by decide), fun t1 ht1 => ⟨_, rfl, le_line (n := 1) (by decide), fun t2 ht2 => ⟨le_line (n := 8) (by decide), fun t3 ht3 => ?_⟩⟩⟩
        obtain ⟨x, d, ex', dx, sx'⟩ : ∃ (x : V) (d : PyData), atI [V.non, nV z, .int num, .str "x", .int (-1 - num), .ref t1, .ref t2, .bl true] (num / 3 % 8) = some x ∧ Dp K (nw H (upd (upd (upd H3 t1 (.tup [nV z])) t2 (.lst [nV z])) t3 (.lst [V.non, nV z, .int num, .str "x", .int (-1 - num), .ref t1, .ref t2, .bl true])) pa) x d ∧ Sm 1 1 d := by
          have j0 := Int.emod_nonneg (num / 3) (show (8 : Int) ≠ 0 by decide)
          have j1 := Int.emod_lt_of_pos (num / 3) (show (0 : Int) < 8 by decide)
          generalize num / 3 % 8 = j at j0 j1 ⊢
          have n1 : t1 ≠ pa := npa ht1
          have f1 : H t1 = Option.none := (s45.trans sm).free ht1
          have f2 : H t2 = Option.none := (s45.trans sm).free ((same_new ht1 (.tup [nV z])).free ht2)
          have n2 : t2 ≠ pa := fun e => by
            rw [e, same_new ht1 (.tup [nV z]) _ _ ep] at ht2
            exact nomatch ht2
          have m3 := same_new ht3 (.lst [V.non, nV z, .int num, .str "x", .int (-1 - num), .ref t1, .ref t2, .bl true])
          have e2 := m3 _ _ (upd_same (H := upd H3 t1 (.tup [nV z])) (a := t2) (o := .lst [nV z]))
          have e1 := m3 _ _ (same_new ht2 (.lst [nV z]) _ _ (upd_same (H := H3) (a := t1) (o := .tup [nV z])))
          have di : ∀ {H : Hp}, DpAll K H [nV z] [.int z] := .cons (.int _) .nil
          rcases (show j = 0 ∨ j = 1 ∨ j = 2 ∨ j = 3 ∨ j = 4 ∨ j = 5 ∨ j = 6 ∨ j = 7 by omega) with rfl | rfl | rfl | rfl | rfl | rfl | rfl | rfl
          · exact ⟨_, _, rfl, .non, sm_non.mono (by decide) (by decide)⟩
          · exact ⟨_, _, rfl, .int _, (sm_int (by omega) (by omega)).mono (by decide) (by decide)⟩
          · exact ⟨_, _, rfl, .int _, (sm_int (by omega) (by omega)).mono (by decide) (by decide)⟩
          · exact ⟨_, _, rfl, .str "x", rfl, rfl, by decide, rfl, by decide⟩
          · exact ⟨_, _, rfl, .int _, (sm_int (by omega) (by omega)).mono (by decide) (by decide)⟩
          · exact ⟨_, _, rfl, .tup (sqT (by rw [nw_at f1 n1]; exact e1)) di, (sm_tup (sma_cons (sm_int (by omega) (by omega)) sma_nil))⟩
          · exact ⟨_, _, rfl, .lst (SqL.of (by rw [nw_at f2 n2]; exact e2)) di, (sm_lst (sma_cons (sm_int (by omega) (by omega)) sma_nil))⟩
          · exact ⟨_, _, rfl, .bl true, (sm_bl true).mono (by decide) (by decide)⟩
        refine ⟨_, rfl, .inl ⟨_, rfl, _, _, rfl, rfl, ⟨by decide, by decide⟩, _, _, rfl, rfl, (by show (0 : Int) < 8; decide), t3, _, _, _, rfl, rfl, SqL.of upd_same, ex', ?_⟩⟩
        exact ⟨((same_new ht1 _).trans (same_new ht2 _)).trans (same_new ht3 _), x, d, dx, sx', fun h => absurd h c1, rfl⟩
    · rintro σ H4 ⟨s4', x, d, dx, sx', ho, rfl⟩
      have ep4 := s4' _ _ ep
      refine ⟨_, rfl, .inl ⟨rfl, _, SqL.of ep4⟩, _, rfl, pa, _, _, rfl, rfl, ep4, by rw [lp]; exact lt_line (by omega), ?_⟩
      refine ⟨same_upd (sm.trans s4') no _, ⟨pl ++ [x], ds ++ [d], upd_same, by rw [List.length_append, lp]; rfl, ?_, ?_, own_snoc own (by rw [lp]; exact ho)⟩, _, _, _, rfl⟩
      · rw [nw_upd]
        exact dpa_snoc dx (dpa_same (nw_mono s4') dp)
      · intro e he
        rcases List.mem_append.mp he with h | h
        · exact hs e h
        · rw [List.mem_singleton.mp h]; exact sx'
  · rintro σ H3 ⟨sm, ⟨pl, ds, ep, lp, dp, hs, own⟩, y6, y7, y8, rfl⟩
    exact ⟨_, rfl, q H3 pa pl ds (s45.trans sm) no' ep ⟨lp, fun u hu => own u (by omega)⟩ (dpa_same nw_new dp) hs⟩
end
end GM
set_option Elab.async false
set_option linter.all false
set_option maxRecDepth 100000
set_option maxHeartbeats 4000000
namespace GM
open PySem PySem.Spec PyProof.Rows L2
/-! ### two plays that are the same -/
def ntD (l : List Nat) : DT := .tup (l.map fun k : Nat => DT.int (k : Int))
theorem rep_nums {H : Hp} {a : Addr} {l : List Nat} (h : H a = some (.tup (l.map nV))) (hl : l.length ≤ 1000) : rep 1 H (.ref a) (ntD l) := by
  refine .inr ⟨a, _, _, rfl, rfl, h, by rw [List.length_map]; exact hl, ?_⟩
  clear h hl
  induction l with
  | nil => exact .nil
  | cons k l ih => exact .cons (.inr ⟨k, rfl, rfl⟩) ih
theorem rep_up : ∀ {n : Nat} {H : Hp} {v : V} {d : DT}, rep n H v d → rep (n + 1) H v d
  | 0, _, _, _, h => .inl h
  | n + 1, _, _, _, .inl h => .inl h
  | n + 1, _, _, _, .inr ⟨a, xs, ds, h1, h2, h3, h4, h5⟩ => .inr ⟨a, xs, ds, h1, h2, h3, h4, L2.Paired.mapP h5 fun _ _ z => rep_up z⟩
theorem play_rep {H H' : Hp} {t t' : Addr} {f : Nat → Nat} {v : Nat} (h : PlayAt H t f v) (h' : PlayAt H' t' f v) (hk : ∀ k j, Meets f v k j → k ≤ 1000) : ∃ d, rep 2 H (.ref t) d ∧ rep 2 H' (.ref t') d := by
  obtain ⟨k, j, a, b, m, e1, e2, e3⟩ := h
  obtain ⟨k', j', a', b', m', f1, f2, f3⟩ := h'
  obtain ⟨rfl, rfl⟩ := m.one m'
  have l1 : ((orb f v k).take j).length ≤ 1000 := by rw [List.length_take, orb_len]; have := hk _ _ m; omega
  have l2 : ((orb f v k).drop j).length ≤ 1000 := by rw [List.length_drop, orb_len]; have := hk _ _ m; omega
  exact ⟨.tup [ntD ((orb f v k).take j), ntD ((orb f v k).drop j)], .inr ⟨t, _, _, rfl, rfl, e1, (by show 2 ≤ 1000; decide), .cons (rep_nums e2 l1) (.cons (rep_nums e3 l2) .nil)⟩, .inr ⟨t', _, _, rfl, rfl, f1, (by show 2 ≤ 1000; decide), .cons (rep_nums f2 l1) (.cons (rep_nums f3 l2) .nil)⟩⟩
theorem rep_same : ∀ {n : Nat} {H H' : Hp} {v : V} {d : DT}, Same H H' → rep n H v d → rep n H' v d
  | 0, _, _, _, _, _, h => h
  | n + 1, _, _, _, _, _, .inl h => .inl h
  | n + 1, _, _, _, _, s, .inr ⟨a, xs, ds, h1, h2, h3, h4, h5⟩ => .inr ⟨a, xs, ds, h1, h2, s _ _ h3, h4, L2.Paired.mapP h5 fun _ _ z => rep_same s z⟩
theorem PlayAt.same {H H' : Hp} {t : Addr} {f : Nat → Nat} {v : Nat} (h : PlayAt H t f v) (s : Same H H') : PlayAt H' t f v := by
  obtain ⟨k, j, a, b, m, e1, e2, e3⟩ := h
  exact ⟨k, j, a, b, m, s _ _ e1, s _ _ e2, s _ _ e3⟩
/-! ### the players change their parts -/
theorem own_turn {os : List Int} {u : Nat} (h : u < os.length) : (os.map fun z => 1 - z).getD u 0 = 1 - os.getD u 0 := by
  rw [List.getD_eq_getElem?_getD, List.getD_eq_getElem?_getD, List.getElem?_map, List.getElem?_eq_getElem h]; rfl
theorem plan_turn {os : List Int} {rows : List (List Int)} {who : Int} {pl : List V} (h : PlanOk os rows (1 - who) pl) : PlanOk (os.map fun z => 1 - z) rows who pl := by
  refine ⟨by rw [List.length_map]; exact h.len, fun u hu ho => ?_⟩
  rw [List.length_map] at hu
  rw [own_turn hu] at ho
  exact h.own u hu (by omega)
theorem moves_turn {os ps : List Int} {rows : List (List Int)} {pa pb : List V} (V0 : Valid os ps rows) : movesL (os.map fun z => 1 - z) rows pb pa = movesL os rows pa pb := by
  unfold movesL
  rw [List.length_map]
  refine List.map_congr_left fun u hu => ?_
  have h := List.mem_range.mp hu
  have e : stepV (os.map fun z => 1 - z) pb pa u = stepV os pa pb u := by
    unfold stepV
    rw [own_turn h]
    have e0 : os[u]? = some (os.getD u 0) := gd_at h
    have := V0.o _ (List.mem_of_getElem? e0)
    by_cases c : os.getD u 0 = 0
    · rw [if_pos c, if_neg (by omega)]
    · rw [if_neg c, if_pos (by omega)]
  unfold nxt
  rw [e]
/-! ### objects that a range makes, with a word of each -/
section
variable {K : PySem.W.Frag} {g : TG} {tt : TT} {te : TE} {vs : List Nat} {σ : L2.St} {H1 : Hp} {D : Addr} {Qd : Hp → Prop}
theorem lc_objR {n : Nat} (Pw : Nat → Addr → Hp → Prop) (mono : ∀ i a H H', Same H H' → Pw i a H → Pw i a H') (hlen : n ≤ 1000) (hD : H1 D = none)
    (hs : ∀ i H (k : V → Hp → Prop) (nn : Hp → Prop), i < n → Same H1 H → H D ≠ none → (∀ p H', Same H H' → H p = none → Pw i p (del H' D) → k (.ref p) H') → g (.int (0 + i)) (wipe σ vs) H fun σ2 H2 => wipe σ2 vs = wipe σ vs ∧ tt σ2 H2 fun b H3 => if b = true then te σ2 H3 k else nn H3)
    (hd : ∀ H' ps, Same H1 H' → H' D = some (.lst (ps.map V.ref)) → Paired (fun p i => H1 p = none ∧ Pw i p H') ps (List.range n) → Qd H') :
    ∃ W : Nat → Nat → Hp → Prop, (∃ m, W 0 m (upd H1 D (.lst []))) ∧ ∀ i m H, W i m H →
      ((Itr 0 n).stop i H ∧ Qd H) ∨ ((Itr 0 n).go i H ∧ ∃ Nx : Hp → Prop, (∀ H', Nx H' → ∃ m', m' < m ∧ W (i + 1) m' H') ∧ ∀ x H', (Itr 0 n).yld i H x H' → g x (wipe σ vs) H' fun σ2 H2 => wipe σ2 vs = wipe σ vs ∧ tt σ2 H2 fun b H3 =>
        if b = true then te σ2 H3 fun y H4 => ∃ acc, H4 D = some (.lst acc) ∧ acc.length < sizeLine ∧ Nx (upd H4 D (.lst (acc ++ [y]))) else Nx H3) := by
  refine lc_range (lo := 0) (n := n) (fun i H => i ≤ n ∧ Same H1 H ∧ ∃ ps : List Addr, H D = some (.lst (ps.map V.ref)) ∧ Paired (fun p i => H1 p = none ∧ Pw i p (del H D)) ps (List.range i)) ⟨Nat.zero_le _, same_new hD _, [], upd_same, .nil⟩ ?_ ?_
  · rintro i H hi ⟨_, sm, ps, eD, pw⟩
    have lp : ps.length = i := by rw [pw.length, List.length_range]
    refine hs i H _ (fun H3 => i + 1 ≤ n ∧ Same H1 H3 ∧ ∃ ps : List Addr, H3 D = some (.lst (ps.map V.ref)) ∧ Paired (fun p i => H1 p = none ∧ Pw i p (del H3 D)) ps (List.range (i + 1))) hi sm (by rw [eD]; exact Option.some_ne_none _) fun p H' s' hp e' => ⟨_, s' _ _ eD, ?_, by omega, same_upd (sm.trans s') hD _, ps ++ [p], ?_, ?_⟩
    · rw [List.length_map, lp]; exact lt_line (by omega)
    · rw [upd_same, List.map_append]; rfl
    · rw [List.range_succ, del_upd]
      exact (L2.Paired.mapP pw fun b j z => ⟨z.1, mono _ _ _ _ (del_mono s') z.2⟩).snoc ⟨sm.free hp, e'⟩
  · rintro H ⟨_, sm, ps, eD, pw⟩
    exact hd H ps sm eD (L2.Paired.mapP pw fun b j z => ⟨z.1, mono _ _ _ _ del_up z.2⟩)
end
/-- a plan at an address -/
def PlanAt (K : PySem.W.Frag) (os : List Int) (rows : List (List Int)) (who : Nat) (a : Addr) (H : Hp) : Prop := ∃ (pl : List V) (ds : List PyData), H a = some (.lst pl) ∧ PlanOk os rows who pl ∧ DpAll K H pl ds ∧ ∀ d ∈ ds, Sm 1 1 d
theorem PlanAt.same {K : PySem.W.Frag} {os : List Int} {rows : List (List Int)} {who : Nat} {a : Addr} {H H' : Hp} (s : Same H H') (h : PlanAt K os rows who a H) : PlanAt K os rows who a H' := by
  obtain ⟨pl, ds, e, o, d, m⟩ := h
  exact ⟨pl, ds, s _ _ e, o, dpa_same s d, m⟩
theorem sm_plan {os : List Int} {rows : List (List Int)} {who : Int} {K : PySem.W.Frag} {H : Hp} {pl : List V} {ds : List PyData} (o : PlanOk os rows who pl) (d : DpAll K H pl ds) (m : ∀ d ∈ ds, Sm 1 1 d) (hn : os.length ≤ 60) : SmA 1 120 ds := by
  refine (sma_all m).mono (Nat.le_refl _) ?_
  have := dpa_len d
  have := o.len
  omega
end GM
set_option Elab.async false
set_option linter.all false
set_option maxRecDepth 100000
set_option maxHeartbeats 4000000
set_option pp.maxSteps 150
set_option pp.deepTerms false
namespace GM
open PySem PySem.Spec PyProof.Rows L2
/-! ### law -/
theorem pr_of {α β : Type} {R : α → β → Prop} : ∀ {as : List α} {bs : List β}, as.length = bs.length → (∀ (i : Nat) a b, as[i]? = some a → bs[i]? = some b → R a b) → Paired R as bs
  | [], [], _, _ => .nil
  | [], _ :: _, h, _ => by simp at h
  | _ :: _, [], h, _ => by simp at h
  | a :: as, b :: bs, h, f => .cons (f 0 a b rfl rfl) (pr_of (by simpa using h) fun i x y h1 h2 => f (i + 1) x y (by simpa using h1) (by simpa using h2))
/-- how a game is made -/
structure KG (P : Program) (w : World) (K : PySem.W.Frag) (mg : Str → Option Value) (base : Heap) (C : Addr) where
  f : Addr
  fd : FuncData
  cm : Mk K C f
  ok : FnOk P w K mg base CX0 4 f fd ["self", "owners", "priorities", "successors"] (spInit C)
  b : Binds K fd ["self", "owners", "priorities", "successors"] []
theorem rg_mem {a b : Int} {z : V} (h : z ∈ rgV a b) : ∃ e : Int, z = .int e ∧ a ≤ e ∧ e < b := by
  unfold rgV at h
  obtain ⟨i, hi, rfl⟩ := List.mem_map.mp h
  have := List.mem_range.mp hi
  exact ⟨_, rfl, by omega, by omega⟩
def spLaw (K : PySem.W.Frag) : Sp := fun vs H Q _ => ∃ (a : Addr) (ns : List Int), vs = [.ref a] ∧ SqL K H a (ns.map V.int) ∧ ns.length ≤ 63 ∧ ∀ H', Q (.bl true) H'
section
variable {P : Program} {w : World} {K : PySem.W.Frag} {mg : Str → Option Value} {base : Heap} {C : Addr} (M : Blt mg) (T : GTxt K mg C)
include M T
theorem ok_law {f : Addr} {fd : FuncData} (F : Fun K "law" "law" s_law f fd) (zr : mg "repr" = Option.none) (zv : mg "reversed" = Option.none) (GG : KG P w K mg base C) (G_law_cell : Kn P w K mg base 1 "_law_cell" ["script", "k"] (spCell K)) (G_law_digits : Kn P w K mg base 1 "_law_digits" ["cell", "sizes"] (spDigits K))
    (G_law_graph : Kn P w K mg base 2 "_law_graph" ["script", "at", "count", "top"] (spGraph K)) (G_law_plan : Kn P w K mg base 2 "_law_plan" ["game", "who", "cell"] (spPlan K)) (G_law_duel : Kn P w K mg base 1 "_law_duel" ["game", "plans", "v"] spLDuel)
    (Gduel : Kn P w K mg base 2 "duel" ["game", "first", "second", "start"] (spDuel C)) (G_law_same : Kn P w K mg base 4 "_law_same" ["told", "due"] (spSameD 2)) : FnG P w K mg base CX0 6 f fd ["script"] (spLaw K) := by
  refine okG F sc_law (fun vs H Q E h => ?_) (fun cdv A outer s H vs Q E hgd hr h => ?_)
  · obtain ⟨a, ns, rfl, _⟩ := h
    rfl
  obtain ⟨a, ns, rfl, hS, hl, q⟩ := h
  have hu := hr.units
  have hgd' : (A.deeper (envOfC "law" (defScope s_law) s.heap.objs.size f cdv)).guards = some [] := hgd
  have nd := sc_law.nd
  refine ⟨_, pss_cons (ps_set (i := 1) nd rfl (.inl rfl) (pe_call G_law_digits.ok (hr.mono (by decide)) (by rfl) G_law_digits.m G_law_digits.kp G_law_digits.b .nil pass0 (pa_cons (pe_call G_law_cell.ok (hr.mono (by decide)) (by rfl) G_law_cell.m G_law_cell.kp G_law_cell.b .nil pass0 (pa_cons (pv 0) (pa_cons pe_int pa_nil))) (pa_cons (pe_lst (pa_cons pe_int (pa_cons pe_int (pa_cons pe_int (pa_cons pe_int (pa_cons pe_int (pa_cons pe_int pa_nil))))))) pa_nil))))
    (pss_cons (ps_set (i := 2) nd rfl (.inl rfl) (pe_op op_add pe_int (pe_ix ix_list (pe_lst (pa_cons (pe_ix ix_list (pv 1) pe_int (fun _ _ => rfl)) (pa_cons (pe_op op_add pe_int (pe_ix ix_list (pv 1) pe_int (fun _ _ => rfl))) pa_nil))) (pe_ix ix_list (pv 1) pe_int (fun _ _ => rfl)) (fun _ _ => rfl))))
    (C8.pss_cut (ps_if (pt_cmpR op_eq (pe_ix ix_list (pv 1) pe_int (fun _ _ => rfl)) pe_int (nomark _)) (pss_one (ps_set (i := 2) nd rfl (.inl rfl) (pe_op op_add pe_int (pe_ix ix_list (pv 1) pe_int (fun _ _ => rfl))))) pss_nil)
    (pss_cons (ps_set (i := 3) nd rfl (.inr rfl) (pe_call G_law_graph.ok (hr.mono (by decide)) (by rfl) G_law_graph.m G_law_graph.kp G_law_graph.b .nil pass0 (pa_cons (pv 0) (pa_cons pe_int (pa_cons (pv 2) (pa_cons pe_int pa_nil))))))
    (pss_cons (ps_set (i := 4) nd rfl (.inl rfl) (pe_make GG.cm GG.ok (hr.mono (by decide)) (by rfl) T.mgC GG.b .nil pass0 (pa_cons (pe_callTy call_list_of (by rfl) M.list PyProof.Rows.boot_list (pa_cons (pe_ix ix_list (pv 3) pe_int (fun _ _ => rfl)) pa_nil)) (pa_cons (pe_callTy call_list_of (by rfl) M.list PyProof.Rows.boot_list (pa_cons (pe_ix ix_list (pv 3) pe_int (fun _ _ => rfl)) pa_nil)) (pa_cons (pe_lc (own := [("row", 13)]) (g := gName 13) (tt := tYes) rfl nd (pi_list (pe_ix ix_list (pv 3) pe_int (fun _ _ => rfl))) (blkOk_by (N := n_law) (sc := defScope s_law) (by decide +kernel)) (fun _ _ _ _ _ => pg_name (i := 13) nd rfl (Or.inl rfl)) (fun _ _ _ _ _ => pts_nil) (fun _ _ _ _ _ => (pe_callTy (show CallR _ (.type "list") (rLst K) from call_list_of) (by rfl) M.list PyProof.Rows.boot_list (pa_cons (pv 13) pa_nil)))) pa_nil)))))
    (pss_cons (ps_set (i := 5) nd rfl (.inl rfl) (pe_make GG.cm GG.ok (hr.mono (by decide)) (by rfl) T.mgC GG.b .nil pass0 (pa_cons (pe_lc (own := [("owner", 14)]) (g := gName 14) (tt := tYes) rfl nd (pi_list (pe_ix ix_list (pv 3) pe_int (fun _ _ => rfl))) (blkOk_by (N := n_law) (sc := defScope s_law) (by decide +kernel)) (fun _ _ _ _ _ => pg_name (i := 14) nd rfl (Or.inl rfl)) (fun _ _ _ _ _ => pts_nil) (fun _ _ _ _ _ => (pe_op op_sub pe_int (pv 14)))) (pa_cons (pe_callTy call_list_of (by rfl) M.list PyProof.Rows.boot_list (pa_cons (pe_ix ix_list (pv 3) pe_int (fun _ _ => rfl)) pa_nil)) (pa_cons (pe_lc (own := [("row", 13)]) (g := gName 13) (tt := tYes) rfl nd (pi_list (pe_ix ix_list (pv 3) pe_int (fun _ _ => rfl))) (blkOk_by (N := n_law) (sc := defScope s_law) (by decide +kernel)) (fun _ _ _ _ _ => pg_name (i := 13) nd rfl (Or.inl rfl)) (fun _ _ _ _ _ => pts_nil) (fun _ _ _ _ _ => (pe_callTy (show CallR _ (.type "list") (rLst K) from call_list_of) (by rfl) M.list PyProof.Rows.boot_list (pa_cons (pv 13) pa_nil)))) pa_nil)))))
    (pss_cons (ps_setLc (i := 6) (own := [("who", 15)]) (g := gName 15) (tt := tYes) rfl nd rfl rfl (sw_true rfl rfl rfl (by decide +kernel)) (pi_range1 rfl M.range (pa_cons pe_int pa_nil)) (blkOk_by (N := n_law) (sc := defScope s_law) (by decide +kernel)) (fun _ _ _ _ _ => pg_name (i := 15) nd rfl (Or.inl rfl)) (fun _ _ _ _ _ => pts_nil) (fun _ _ _ _ _ => (pe_call G_law_plan.ok (hr.mono (by decide)) (by rfl) G_law_plan.m G_law_plan.kp G_law_plan.b .nil pass0 (pa_cons (pv 3) (pa_cons (pv 15) (pa_cons (pe_call G_law_cell.ok (hr.mono (by decide)) (by rfl) G_law_cell.m G_law_cell.kp G_law_cell.b .nil pass0 (pa_cons (pv 0) (pa_cons (pe_op op_add pe_int (pv 15)) pa_nil))) pa_nil))))))
    (pss_cons (ps_setLc (i := 7) (own := [("who", 15)]) (g := gName 15) (tt := tYes) rfl nd rfl rfl (sw_true rfl rfl rfl (by decide +kernel)) (pi_range1 rfl M.range (pa_cons pe_int pa_nil)) (blkOk_by (N := n_law) (sc := defScope s_law) (by decide +kernel)) (fun _ _ _ _ _ => pg_name (i := 15) nd rfl (Or.inl rfl)) (fun _ _ _ _ _ => pts_nil) (fun _ _ _ _ _ => (pe_call G_law_plan.ok (hr.mono (by decide)) (by rfl) G_law_plan.m G_law_plan.kp G_law_plan.b .nil pass0 (pa_cons (pv 3) (pa_cons (pv 15) (pa_cons (pe_call G_law_cell.ok (hr.mono (by decide)) (by rfl) G_law_cell.m G_law_cell.kp G_law_cell.b .nil pass0 (pa_cons (pv 0) (pa_cons (pe_op op_add pe_int (pv 15)) pa_nil))) pa_nil))))))
    (pss_cons (ps_set (i := 8) nd rfl (.inl rfl) (pe_lst (pa_cons (pe_ix ix_list (pe_lst (pa_cons (pe_callTy call_list_of (by rfl) M.list PyProof.Rows.boot_list (pa_cons (pe_ix ix_list (pv 6) pe_int (fun _ _ => rfl)) pa_nil)) (pa_cons (pe_tupleOf (by rfl) M.tuple (pe_ix ix_list (pv 6) pe_int (fun _ _ => rfl))) pa_nil))) (pe_op op_mod (pe_callTy call_int1 (by rfl) M.int PyProof.Rows.boot_int (pa_cons (pe_ix ix_list (pv 1) pe_int (fun _ _ => rfl)) pa_nil)) pe_int) (fun _ _ => rfl)) (pa_cons (pe_ix ix_list (pe_lst (pa_cons (pe_callTy call_list_of (by rfl) M.list PyProof.Rows.boot_list (pa_cons (pe_ix ix_list (pv 6) pe_int (fun _ _ => rfl)) pa_nil)) (pa_cons (pe_tupleOf (by rfl) M.tuple (pe_ix ix_list (pv 6) pe_int (fun _ _ => rfl))) pa_nil))) (pe_op op_fdiv (pe_callTy call_int1 (by rfl) M.int PyProof.Rows.boot_int (pa_cons (pe_ix ix_list (pv 1) pe_int (fun _ _ => rfl)) pa_nil)) pe_int) (fun _ _ => rfl)) pa_nil))))
    (pss_cons (ps_set (i := 9) nd rfl (.inl rfl) (pe_callB (cr_repr hgd hu) (by rfl) zr (by decide +kernel) (pa_cons (pv 8) pa_nil)))
    (pss_cons (ps_for PassesOwn.never rfl (pi_list (pe_op op_cat (pe_listRg rfl (by rfl) M.list (prg_1 (by rfl) M.range (pv 2))) (pe_listRev rfl (by rfl) M.list (by rfl) zv (pe_listRg rfl (by rfl) M.list (prg_1 (by rfl) M.range (pv 2)))))) (pg_name (i := 10) nd rfl (.inl rfl)) (pss_cons (ps_set (i := 11) nd rfl (.inl rfl) (pe_call G_law_duel.ok (hr.mono (by decide)) (by rfl) G_law_duel.m G_law_duel.kp G_law_duel.b .nil pass0 (pa_cons (pv 3) (pa_cons (pv 6) (pa_cons (pv 10) pa_nil)))))
      (pss_cons (ps_if (PW.pt (pw_or (pt_not (pt_val (pe_call G_law_same.ok (hr.mono (by decide)) (by rfl) G_law_same.m G_law_same.kp G_law_same.b .nil pass0 (pa_cons (pe_call Gduel.ok (hr.mono (by decide)) (by rfl) Gduel.m Gduel.kp Gduel.b .nil pass0 (pa_cons (pv 4) (pa_cons (pe_ix ix_list (pv 8) pe_int (fun _ _ => rfl)) (pa_cons (pe_ix ix_list (pv 8) pe_int (fun _ _ => rfl)) (pa_cons (pv 10) pa_nil))))) (pa_cons (pv 11) pa_nil))))) (pw_or1 (pt_not (pt_val (pe_call G_law_same.ok (hr.mono (by decide)) (by rfl) G_law_same.m G_law_same.kp G_law_same.b .nil pass0 (pa_cons (pe_call Gduel.ok (hr.mono (by decide)) (by rfl) Gduel.m Gduel.kp Gduel.b .nil pass0 (pa_cons (pv 5) (pa_cons (pe_ix ix_list (pv 8) pe_int (fun _ _ => rfl)) (pa_cons (pe_ix ix_list (pv 8) pe_int (fun _ _ => rfl)) (pa_cons (pv 10) pa_nil))))) (pa_cons (pv 11) pa_nil)))))))) (pss_one (ps_ret pe_bl)) pss_nil)
      (pss_cons (ps_if (pt_not (pt_val (pe_call G_law_same.ok (hr.mono (by decide)) (by rfl) G_law_same.m G_law_same.kp G_law_same.b .nil pass0 (pa_cons (pe_call Gduel.ok (hr.mono (by decide)) (by rfl) Gduel.m Gduel.kp Gduel.b .nil pass0 (pa_cons (pv 4) (pa_cons (pe_ix ix_list (pv 8) pe_int (fun _ _ => rfl)) (pa_cons (pe_tupleOf (by rfl) M.tuple (pe_ix ix_list (pv 7) pe_int (fun _ _ => rfl))) (pa_cons (pv 10) pa_nil))))) (pa_cons (pe_call G_law_duel.ok (hr.mono (by decide)) (by rfl) G_law_duel.m G_law_duel.kp G_law_duel.b .nil pass0 (pa_cons (pv 3) (pa_cons (pe_lst (pa_cons (pe_ix ix_list (pv 6) pe_int (fun _ _ => rfl)) (pa_cons (pe_ix ix_list (pv 7) pe_int (fun _ _ => rfl)) pa_nil))) (pa_cons (pv 10) pa_nil)))) pa_nil))))) (pss_one (ps_ret pe_bl)) pss_nil)
      (pss_one (ps_if (pt_not (pt_val (pe_call G_law_same.ok (hr.mono (by decide)) (by rfl) G_law_same.m G_law_same.kp G_law_same.b .nil pass0 (pa_cons (pe_call Gduel.ok (hr.mono (by decide)) (by rfl) Gduel.m Gduel.kp Gduel.b .nil pass0 (pa_cons (pv 4) (pa_cons (pe_callTy call_list_of (by rfl) M.list PyProof.Rows.boot_list (pa_cons (pe_ix ix_list (pv 7) pe_int (fun _ _ => rfl)) pa_nil)) (pa_cons (pe_ix ix_list (pv 7) pe_int (fun _ _ => rfl)) (pa_cons (pv 10) pa_nil))))) (pa_cons (pe_call G_law_duel.ok (hr.mono (by decide)) (by rfl) G_law_duel.m G_law_duel.kp G_law_duel.b .nil pass0 (pa_cons (pv 3) (pa_cons (pv 7) (pa_cons (pv 10) pa_nil)))) pa_nil))))) (pss_one (ps_ret pe_bl)) pss_nil))))))
    (pss_cons (ps_set (i := 12) nd rfl (.inl rfl) (pe_tupleOf (by rfl) M.tuple (pe_lc (own := [("row", 13)]) (g := gName 13) (tt := tYes) rfl nd (pi_list (pe_ix ix_list (pv 3) pe_int (fun _ _ => rfl))) (blkOk_by (N := n_law) (sc := defScope s_law) (by decide +kernel)) (fun _ _ _ _ _ => pg_name (i := 13) nd rfl (Or.inl rfl)) (fun _ _ _ _ _ => pts_nil) (fun _ _ _ _ _ => (show PE _ _ (tThen _ (kTup K)) from pe_tupleOf (by rfl) M.tuple (pv 13))))))
    (pss_cons (ps_if (pt_cmpR (op_neD hu) (pe_tup (pa_cons (pe_fld (pv 4) rfl) (pa_cons (pe_fld (pv 4) rfl) (pa_cons (pe_fld (pv 4) rfl) pa_nil)))) (pe_tup (pa_cons (pe_tupleOf (by rfl) M.tuple (pe_ix ix_list (pv 3) pe_int (fun _ _ => rfl))) (pa_cons (pe_tupleOf (by rfl) M.tuple (pe_ix ix_list (pv 3) pe_int (fun _ _ => rfl))) (pa_cons (pv 12) pa_nil)))) (nomark _)) (pss_one (ps_ret pe_bl)) pss_nil)
    (pss_one (ps_ret (pe_cmpR op_eq (pe_callB (cr_repr hgd hu) (by rfl) zr (by decide +kernel) (pa_cons (pv 8) pa_nil)) (pv 9) (nomark _)))))))))))))))), ?_⟩
  refine ⟨_, rfl, a, ns, 0, rfl, hS, hl, by decide, fun z0 => ⟨le_line (n := 6) (by decide), fun l0 hl0 => ⟨z0, l0, [2, 9, 4, 4, 9, 40], rfl, SqL.of upd_same, by decide, by decide, fun p0 ds0 H1 s1 hp0 ep0 hd0 => ?_⟩⟩⟩
  have sm1 : Same H H1 := (same_new hl0 _).trans s1
  obtain ⟨d0, r0, rfl, b0, hd0⟩ := hd0.cons
  obtain ⟨d1, r1, rfl, b1, hd0⟩ := hd0.cons
  obtain ⟨d2, r2, rfl, b2, hd0⟩ := hd0.cons
  obtain ⟨d3, r3, rfl, b3, hd0⟩ := hd0.cons
  obtain ⟨d4, r4, rfl, b4, hd0⟩ := hd0.cons
  obtain ⟨d5, r5, rfl, b5, hd0⟩ := hd0.cons
  cases hd0.nil
  obtain ⟨c0, ec0, c1, c2⟩ : ∃ c : Int, atI [V.int d1, V.int (5 + d2)] d0 = some (.int c) ∧ 0 ≤ c ∧ c ≤ 8 := by
    rcases (show d0 = 0 ∨ d0 = 1 by omega) with rfl | rfl
    · exact ⟨_, rfl, by omega, by omega⟩
    · exact ⟨_, rfl, by omega, by omega⟩
  refine ⟨_, rfl, p0, _, 1, .int d1, rfl, rfl, SqL.of ep0, rfl, _, rfl, p0, _, 2, .int d2, rfl, rfl, SqL.of ep0, rfl, _, _, rfl, rfl, le_line (n := 2) (by decide), fun l1 hl1 => ⟨_, rfl, p0, _, 0, .int d0, rfl, rfl, SqL.of (same_new hl1 _ _ _ ep0), rfl, l1, _, d0, _, rfl, rfl, SqL.of upd_same, ec0, _, _, rfl, rfl, ?_⟩⟩
  have s2 := same_new hl1 (.lst [V.int d1, V.int (5 + d2)])
  have sm2 := sm1.trans s2
  have ep02 := s2 _ _ ep0
  refine ⟨fun σ H' => Same H H' ∧ H' p0 = some (.lst ([d0, d1, d2, d3, d4, d5].map V.int)) ∧ ∃ n : Nat, 1 ≤ n ∧ n ≤ 40 ∧ σ = [some (.ref a), some (.ref p0), some (.int (n : Int)), Option.none, Option.none, Option.none, Option.none, Option.none, Option.none, Option.none, Option.none, Option.none, Option.none, Option.none, Option.none, Option.none], ?_, ?_⟩
  · refine ⟨_, rfl, p0, _, 4, .int d4, rfl, rfl, SqL.of ep02, rfl, rfl, _, rfl, ite2 (fun _ => ?_) (fun _ => ?_)⟩
    · refine ⟨_, rfl, p0, _, 5, .int d5, rfl, rfl, SqL.of ep02, rfl, _, _, rfl, rfl, sm2, ep02, (1 + d5).toNat, by omega, by omega, ?_⟩
      rw [show (((1 + d5).toNat : Nat) : Int) = 1 + d5 by omega]; rfl
    · refine ⟨sm2, ep02, (1 + c0).toNat, by omega, by omega, ?_⟩
      rw [show (((1 + c0).toNat : Nat) : Int) = 1 + c0 by omega]; rfl
  clear ec0 c1 c2 sm2 ep02 s2 sm1 ep0 s1
  rintro σ H1 ⟨sm1, ep0, n, hn1, hn, rfl⟩
  refine ⟨_, rfl, _, rfl, a, ns, 3, n, 30, rfl, sm1.seq hS, hl, by decide, by omega, by decide, by decide, fun H2 g os ps rows o p sx rs s2 hg G V0 lo => ?_⟩
  have sm2 := sm1.trans s2
  have ep02 := s2 _ _ ep0
  have n60 : os.length ≤ 60 := by omega
  have lrs : rs.length = os.length := by rw [G.r0.length, V0.l2]
  -- made
  refine ⟨_, rfl, g, _, 0, .ref o, rfl, rfl, SqL.of G.g0, rfl, o, _, rfl, .inl (SqL.of G.o0), fun a1 ha1 => ?_⟩
  have t1 := same_new ha1 (.lst (os.map V.int))
  have e1 : upd H2 a1 (.lst (os.map V.int)) a1 = some (.lst (os.map V.int)) := upd_same
  generalize upd H2 a1 (.lst (os.map V.int)) = H4 at t1 e1 ⊢
  have G4 := G.same t1
  refine ⟨_, rfl, g, _, 1, .ref p, rfl, rfl, SqL.of G4.g0, rfl, p, _, rfl, .inl (SqL.of G4.p0), fun a2 ha2 => ?_⟩
  have t2 := same_new ha2 (.lst (ps.map V.int))
  have e2 : upd H4 a2 (.lst (ps.map V.int)) a2 = some (.lst (ps.map V.int)) := upd_same
  have e12 := t2 _ _ e1
  generalize upd H4 a2 (.lst (ps.map V.int)) = H5 at t2 e2 e12 ⊢
  have G5 := G4.same t2
  refine ⟨_, rfl, g, _, 2, .ref sx, rfl, rfl, SqL.of G5.g0, rfl, sx, rfl, ⟨_, SqL.of G5.s0⟩, fun D1 hD1 => ?_⟩
  refine lc_newL (xs := rs.map V.ref) (fun i _ ob => ∃ xs, rows[i]? = some xs ∧ ob = .lst (xs.map V.int)) (by rw [List.length_map]; omega) (SqL.of G5.s0) hD1 (fun i x H' k nn hx sm hk => ⟨rfl, tYI ?_⟩) (fun H6 rs1 s6 eD1 lrs1 pw1 => ?_)
  · obtain ⟨r, hr1, rfl⟩ := map_atV hx
    obtain ⟨xs, hxs, er⟩ := pr_get G5.r0 hr1
    exact ⟨_, rfl, r, _, rfl, .inl (SqL.of (sm _ _ er)), fun l hl' => hk l _ _ (same_new hl' _) hl' upd_same ⟨xs, hxs, rfl⟩⟩
  have pr1 : Paired (fun r xs => H6 r = some (.lst (xs.map V.int))) rs1 rows := pr_of (by rw [lrs1, List.length_map, lrs, V0.l2]) fun i r xs h1 h2 => by
    obtain ⟨ob, _, _, eo, ys, hy, rfl⟩ := pw1 i r (.ref (rs.getD i 0)) h1 (at_map (gd_at (by have := lt_of_at h2; rw [lrs]; rw [V0.l2] at this; exact this)))
    rw [h2] at hy
    cases hy
    exact eo
  have e26 := s6 _ _ e2
  have e16 := s6 _ _ e12
  have G6 := G5.same s6
  intro x dx nx ndx nex
  have mx : Same H6 (upd (upd H6 dx (.own x)) x (.ins C dx [])) := fun b o e => by
    rw [upd_ne (ne_of_none e nx), upd_ne (ne_of_none e ndx)]
    exact e
  refine ⟨x, dx, a1, a2, D1, os, ps, rs1, rows, rfl, upd_same, mx _ _ e16, mx _ _ e26, mx _ _ eD1, L2.Paired.mapP pr1 fun _ _ e => mx _ _ e, V0, fun H7 xa xb xc xts xm gm kp => ⟨rfl, ?_⟩⟩
  have s67 : Same H6 H7 := fun b o e => kp b o (mx _ _ e) (ne_of_none e nx)
  have G7 := G6.same s67
  have s37 : Same H2 H7 := ((t1.trans t2).trans s6).trans s67
  clear pw1 pr1 kp mx
  -- other
  refine ⟨_, rfl, g, _, 0, .ref o, rfl, rfl, SqL.of G7.g0, rfl, o, rfl, ⟨_, SqL.of G7.o0⟩, fun D2 hD2 => ?_⟩
  refine lc_mapI (fun z => 1 - z) (by omega) (SqL.of G7.o0) hD2 (fun i z H' k nn hz sm h => ⟨rfl, tYI ⟨_, rfl, _, _, rfl, rfl, h⟩⟩) (fun H8 s8 eD2 => ?_)
  have G8 := G7.same s8
  refine ⟨_, rfl, g, _, 1, .ref p, rfl, rfl, SqL.of G8.g0, rfl, p, _, rfl, .inl (SqL.of G8.p0), fun a3 ha3 => ?_⟩
  have t3 := same_new ha3 (.lst (ps.map V.int))
  have e3 : upd H8 a3 (.lst (ps.map V.int)) a3 = some (.lst (ps.map V.int)) := upd_same
  have eD29 := t3 _ _ eD2
  generalize upd H8 a3 (.lst (ps.map V.int)) = H9 at t3 e3 eD29 ⊢
  have G9 := G8.same t3
  refine ⟨_, rfl, g, _, 2, .ref sx, rfl, rfl, SqL.of G9.g0, rfl, sx, rfl, ⟨_, SqL.of G9.s0⟩, fun D3 hD3 => ?_⟩
  refine lc_newL (xs := rs.map V.ref) (fun i _ ob => ∃ xs, rows[i]? = some xs ∧ ob = .lst (xs.map V.int)) (by rw [List.length_map]; omega) (SqL.of G9.s0) hD3 (fun i x H' k nn hx sm hk => ⟨rfl, tYI ?_⟩) (fun H10 rs2 s10 eD3 lrs2 pw2 => ?_)
  · obtain ⟨r, hr1, rfl⟩ := map_atV hx
    obtain ⟨xs, hxs, er⟩ := pr_get G9.r0 hr1
    exact ⟨_, rfl, r, _, rfl, .inl (SqL.of (sm _ _ er)), fun l hl' => hk l _ _ (same_new hl' _) hl' upd_same ⟨xs, hxs, rfl⟩⟩
  have pr2 : Paired (fun r xs => H10 r = some (.lst (xs.map V.int))) rs2 rows := pr_of (by rw [lrs2, List.length_map, lrs, V0.l2]) fun i r xs h1 h2 => by
    obtain ⟨ob, _, _, eo, ys, hy, rfl⟩ := pw2 i r (.ref (rs.getD i 0)) h1 (at_map (gd_at (by have := lt_of_at h2; rw [lrs]; rw [V0.l2] at this; exact this)))
    rw [h2] at hy
    cases hy
    exact eo
  have V1 : Valid (os.map fun z => 1 - z) ps rows := ⟨by rw [List.length_map]; exact V0.l1, by rw [List.length_map]; exact V0.l2, by rw [List.length_map]; exact V0.n, fun x hx => by
    obtain ⟨z, hz, rfl⟩ := List.mem_map.mp hx
    have := V0.o z hz
    omega, V0.p, fun x hx => by rw [List.length_map]; exact V0.r x hx⟩
  intro y dy ny ndy ney
  have my : Same H10 (upd (upd H10 dy (.own y)) y (.ins C dy [])) := fun b o e => by
    rw [upd_ne (ne_of_none e ny), upd_ne (ne_of_none e ndy)]
    exact e
  refine ⟨y, dy, D2, a3, D3, os.map fun z => 1 - z, ps, rs2, rows, rfl, upd_same, my _ _ (s10 _ _ eD29), my _ _ (s10 _ _ e3), my _ _ eD3, L2.Paired.mapP pr2 fun _ _ e => my _ _ e, V1, fun H11 ya yb yc yts ym gy kp => ⟨rfl, ?_⟩⟩
  have s1011 : Same H10 H11 := fun b o e => kp b o (my _ _ e) (ne_of_none e ny)
  have s711 : Same H7 H11 := ((s8.trans t3).trans s10).trans s1011
  have s311 := s37.trans s711
  have Gf := G.same s311
  have gm11 := gm.same s711
  have ep11 := s311 _ _ ep02
  have sH := sm2.trans s311
  clear pw2 pr2 kp my s8 t3 s10 s1011 s37 t1 t2 s6 s67 e1 e2 e12 e26 e16 e3 eD29 eD2 G4 G5 G6 G7 G8 G9 gm s711 s311
  refine ⟨2, rfl, by decide, by decide, fun DA hDA => ?_⟩
  refine lc_objR (n := 2) (fun i a H => PlanAt K os rows i a H) (fun i a H H' s h => h.same s) (by decide) hDA (fun i H' k nn hi sm hDn hk => ⟨rfl, tYI ?_⟩) (fun H12 lsA sA eLA prA => ?_)
  · have m0 := (Same.refl H11).trans sm
    refine ⟨_, rfl, _, rfl, _, rfl, _, rfl, _, _, rfl, rfl, a, ns, 1 + i, (show [V.ref a, V.int ((1 : Int) + (0 + (i : Int)))] = [V.ref a, V.int ((1 + i : Nat) : Int)] by rw [show (1 : Int) + (0 + (i : Int)) = ((1 + i : Nat) : Int) by omega]), (sH.trans m0).seq hS, hl, by omega, fun z => ⟨g, 0 + (i : Int), z, os, ps, rows, o, p, sx, rs, rfl, Gf.same m0, V0, n60, fun H3 t pl ds s3 ht et po dd mm => hk t H3 s3 ht ⟨pl, ds, ?_, by rw [Int.zero_add] at po; exact po, dpa_same (new_del hDn) dd, mm⟩⟩⟩
    have nt : t ≠ DA := fun z => hDn (by rw [← z]; exact ht)
    rw [del_ne nt]; exact et
  have prA' : Paired (fun p i => H11 p = none ∧ PlanAt K os rows i p H12) lsA [0, 1] := prA
  obtain ⟨q0, q1, rfl, pq0, pq1⟩ : ∃ q0 q1, lsA = [q0, q1] ∧ PlanAt K os rows 0 q0 H12 ∧ PlanAt K os rows 1 q1 H12 := by
    cases prA' with
    | cons h0 t => cases t with
      | cons h1 t => cases t; exact ⟨_, _, rfl, h0.2, h1.2⟩
  refine ⟨2, rfl, by decide, by decide, fun DB hDB => ?_⟩
  refine lc_objR (n := 2) (fun i a H => PlanAt K os rows i a H) (fun i a H H' s h => h.same s) (by decide) hDB (fun i H' k nn hi sm hDn hk => ⟨rfl, tYI ?_⟩) (fun H13 lsB sB eLB prB => ?_)
  · have m0 := (sA).trans sm
    refine ⟨_, rfl, _, rfl, _, rfl, _, rfl, _, _, rfl, rfl, a, ns, 44 + i, (show [V.ref a, V.int ((44 : Int) + (0 + (i : Int)))] = [V.ref a, V.int ((44 + i : Nat) : Int)] by rw [show (44 : Int) + (0 + (i : Int)) = ((44 + i : Nat) : Int) by omega]), (sH.trans m0).seq hS, hl, by omega, fun z => ⟨g, 0 + (i : Int), z, os, ps, rows, o, p, sx, rs, rfl, Gf.same m0, V0, n60, fun H3 t pl ds s3 ht et po dd mm => hk t H3 s3 ht ⟨pl, ds, ?_, by rw [Int.zero_add] at po; exact po, dpa_same (new_del hDn) dd, mm⟩⟩⟩
    have nt : t ≠ DB := fun z => hDn (by rw [← z]; exact ht)
    rw [del_ne nt]; exact et
  have prB' : Paired (fun p i => H12 p = none ∧ PlanAt K os rows i p H13) lsB [0, 1] := prB
  obtain ⟨o0, o1, rfl, po0, po1⟩ : ∃ q0 q1, lsB = [q0, q1] ∧ PlanAt K os rows 0 q0 H13 ∧ PlanAt K os rows 1 q1 H13 := by
    cases prB' with
    | cons h0 t => cases t with
      | cons h1 t => cases t; exact ⟨_, _, rfl, h0.2, h1.2⟩
  have pq03 := pq0.same sB
  have pq13 := pq1.same sB
  clear prA prA' prB prB' pq0 pq1
  have eA := sB _ _ eLA
  have sAB := sA.trans sB
  obtain ⟨pl0, ds0, eq0, ok0, dd0, mm0⟩ := pq03
  obtain ⟨pl1, ds1, eq1, ok1, dd1, mm1⟩ := pq13
  obtain ⟨pm0, es0, fo0, oo0, ee0, nn0⟩ := po0
  obtain ⟨pm1, es1, fo1, oo1, ee1, nn1⟩ := po1
  have sma0 := sm_plan ok0 dd0 mm0 n60
  have sma1 := sm_plan ok1 dd1 mm1 n60
  have G13 := Gf.same sAB
  have gm13 := gm11.same sAB
  have gy13 := gy.same sAB
  have ep13 := sAB _ _ ep11
  have sH13 := sH.trans sAB
  clear ee0 ee1 nn0 nn1 mm0 mm1 Gf gm11 gy ep11 sH sA sB eLA sAB
  -- passed
  have pick : ∀ {Hx : Hp} {m1 m2 : Addr} {j : Int} {pl : List V} {ds : List PyData}, Hx m1 = some (.lst pl) → Hx m2 = some (.tup pl) → DpAll K Hx pl ds → SmA 1 120 ds → 0 ≤ j → j < 2 → ∃ (u : Addr) (D : PyData), atI [V.ref m1, V.ref m2] j = some (.ref u) ∧ SqV Hx u pl ∧ Dp K Hx (.ref u) D ∧ Sm 2 120 D := by
    intro Hx m1 m2 j pl ds e1 e2 dd sm j0 j1
    rcases (show j = 0 ∨ j = 1 by omega) with rfl | rfl
    · exact ⟨m1, _, rfl, .inl e1, .lst (SqL.of e1) dd, sm_lst sm⟩
    · exact ⟨m2, _, rfl, .inr e2, .tup (sqT e2) dd, sm_tup sm⟩
  refine ⟨_, rfl, DA, _, 0, .ref q0, rfl, rfl, SqL.of eA, rfl, q0, _, rfl, .inl (SqL.of eq0), fun m1 hm1 => ?_⟩
  have t1 := same_new hm1 (.lst pl0)
  have em1 : upd H13 m1 (.lst pl0) m1 = some (.lst pl0) := upd_same
  generalize upd H13 m1 (.lst pl0) = H14 at t1 em1 ⊢
  refine ⟨_, rfl, DA, _, 0, .ref q0, rfl, rfl, SqL.of (t1 _ _ eA), rfl, .inl ⟨q0, _, rfl, SqL.of (t1 _ _ eq0), fun m2 hm2 => ⟨le_line (n := 2) (by decide), fun m3 hm3 => ?_⟩⟩⟩
  have t2 := (same_new hm2 (.tup pl0)).trans (same_new hm3 (.lst [.ref m1, .ref m2]))
  have em2 : (upd (upd H14 m2 (.tup pl0)) m3 (.lst [.ref m1, .ref m2])) m2 = some (.tup pl0) := same_new hm3 _ _ _ upd_same
  have em3 : (upd (upd H14 m2 (.tup pl0)) m3 (.lst [.ref m1, .ref m2])) m3 = some (.lst [.ref m1, .ref m2]) := upd_same
  generalize upd (upd H14 m2 (.tup pl0)) m3 (.lst [.ref m1, .ref m2]) = H15 at t2 em2 em3 ⊢
  have t3 := t1.trans t2
  obtain ⟨u0, E0', eu0, su0, du0, sm0⟩ := pick (t2 _ _ em1) em2 (dpa_same t3 dd0) sma0 (Int.emod_nonneg d3 (show (2 : Int) ≠ 0 by decide)) (Int.emod_lt_of_pos d3 (by decide))
  refine ⟨_, rfl, p0, _, 3, .int d3, rfl, rfl, SqL.of (t3 _ _ ep13), rfl, .inl ⟨_, rfl, _, _, rfl, rfl, (by show (0 : Int) < 2; decide), m3, _, _, _, rfl, rfl, SqL.of em3, eu0, ?_⟩⟩
  have eA5 := t3 _ _ eA
  have eq15 := t3 _ _ eq1
  refine ⟨_, rfl, DA, _, 1, .ref q1, rfl, rfl, SqL.of eA5, rfl, q1, _, rfl, .inl (SqL.of eq15), fun m4 hm4 => ?_⟩
  have t4 := same_new hm4 (.lst pl1)
  have em4 : upd H15 m4 (.lst pl1) m4 = some (.lst pl1) := upd_same
  generalize upd H15 m4 (.lst pl1) = H16 at t4 em4 ⊢
  refine ⟨_, rfl, DA, _, 1, .ref q1, rfl, rfl, SqL.of (t4 _ _ eA5), rfl, .inl ⟨q1, _, rfl, SqL.of (t4 _ _ eq15), fun m5 hm5 => ⟨le_line (n := 2) (by decide), fun m6 hm6 => ?_⟩⟩⟩
  have t5 := (same_new hm5 (.tup pl1)).trans (same_new hm6 (.lst [.ref m4, .ref m5]))
  have em5 : (upd (upd H16 m5 (.tup pl1)) m6 (.lst [.ref m4, .ref m5])) m5 = some (.tup pl1) := same_new hm6 _ _ _ upd_same
  have em6 : (upd (upd H16 m5 (.tup pl1)) m6 (.lst [.ref m4, .ref m5])) m6 = some (.lst [.ref m4, .ref m5]) := upd_same
  generalize upd (upd H16 m5 (.tup pl1)) m6 (.lst [.ref m4, .ref m5]) = H17 at t5 em5 em6 ⊢
  have t6 := t4.trans t5
  have t7 := t3.trans t6
  obtain ⟨u1, E1', eu1, su1, du1, sm1'⟩ := pick (j := d3 / 2) (t5 _ _ em4) em5 (dpa_same t7 dd1) sma1 (by omega) (by omega)
  refine ⟨_, rfl, p0, _, 3, .int d3, rfl, rfl, SqL.of (t7 _ _ ep13), rfl, .inl ⟨_, rfl, _, _, rfl, rfl, ⟨by decide, by decide⟩, m6, _, _, _, rfl, rfl, SqL.of em6, eu1, le_line (n := 2) (by decide), fun PA hPA => ?_⟩⟩
  have t8 := same_new hPA (.lst [.ref u0, .ref u1])
  have ePA : upd H17 PA (.lst [.ref u0, .ref u1]) PA = some (.lst [.ref u0, .ref u1]) := upd_same
  generalize upd H17 PA (.lst [.ref u0, .ref u1]) = H18 at t8 ePA ⊢
  have t9 := t7.trans t8
  have t10 := t6.trans t8
  have dPA : Dp K H18 (.ref PA) (.list [E0', E1']) := .lst (SqL.of ePA) (.cons (dp_same t10 du0) (.cons (dp_same t8 du1) .nil))
  have smP : Sm 3 242 (.list [E0', E1']) := sm_lst ((sma_cons sm0 (sma_cons sm1' (sma_nil.mono (Nat.zero_le _) (Nat.le_refl _)))).mono (Nat.le_refl _) (by decide))
  have xu0 := su0.same t10
  have xu1 := su1.same t8
  have eA18 := t9 _ _ eA
  have eB18 := t9 _ _ eLB
  have eq0' := t9 _ _ eq0
  have eq1' := t9 _ _ eq1
  have fo0' := t9 _ _ fo0
  have fo1' := t9 _ _ fo1
  have G18 := G13.same t9
  have gm18 := gm13.same t9
  have gy18 := gy13.same t9
  clear em1 em2 em3 em4 em5 em6 t1 t2 t3 t4 t5 t6 t8 t10 eA5 eq15 eA eLB eq0 eq1 fo0 fo1 G13 gm13 gy13 ep13 su0 su1 du0 du1 sm0 sm1' sma0 sma1 t7 t9 dd0 dd1
  refine ⟨_, rfl, PA, _, rfl, dPA, smP.sh, smP.nd, Nat.le_trans smP.dep (by decide), smP.len (by decide), ?_⟩
  refine ⟨_, rfl, _, rfl, RgOk.of_le (by decide) (by omega) (by decide) (by omega), fun l1 hl1 => ?_⟩
  have w1 := same_new hl1 (.lst (rgV 0 (n : Int)))
  have el1 : upd H18 l1 (.lst (rgV 0 (n : Int))) l1 = some (.lst (rgV 0 (n : Int))) := upd_same
  generalize upd H18 l1 (.lst (rgV 0 (n : Int))) = H19 at w1 el1 ⊢
  refine ⟨_, rfl, _, rfl, RgOk.of_le (by decide) (by omega) (by decide) (by omega), fun l2 hl2 => ⟨l2, _, rfl, SqL.of upd_same, fun l3 hl3 => ?_⟩⟩
  have w2 := (same_new hl2 (.lst (rgV 0 (n : Int)))).trans (same_new hl3 (.lst (rgV 0 (n : Int)).reverse))
  have el3 : (upd (upd H19 l2 (.lst (rgV 0 (n : Int)))) l3 (.lst (rgV 0 (n : Int)).reverse)) l3 = some (.lst (rgV 0 (n : Int)).reverse) := upd_same
  generalize upd (upd H19 l2 (.lst (rgV 0 (n : Int)))) l3 (.lst (rgV 0 (n : Int)).reverse) = H20 at w2 el3 ⊢
  have lrg : (rgV 0 (n : Int)).length = n := by rw [rgV_length]; omega
  refine ⟨l1, l3, _, _, rfl, rfl, w2 _ _ el1, el3, le_line (by rw [List.length_reverse, lrg]; omega), fun l4 hl4 => ⟨l4, rfl, ⟨_, SqL.of upd_same⟩, ?_⟩⟩
  have w3 := same_new hl4 (.lst (rgV 0 (n : Int) ++ (rgV 0 (n : Int)).reverse))
  have el4 : upd H20 l4 (.lst (rgV 0 (n : Int) ++ (rgV 0 (n : Int)).reverse)) l4 = some (.lst (rgV 0 (n : Int) ++ (rgV 0 (n : Int)).reverse)) := upd_same
  generalize upd H20 l4 (.lst (rgV 0 (n : Int) ++ (rgV 0 (n : Int)).reverse)) = H21 at w3 el4 ⊢
  have w4 := (w1.trans w2).trans w3
  have hit : ∀ z ∈ rgV 0 (n : Int) ++ (rgV 0 (n : Int)).reverse, ∃ v : Nat, z = nV v ∧ v < os.length := fun z hz => by
    have hz2 : z ∈ rgV 0 (n : Int) := by
      rcases List.mem_append.mp hz with h | h
      · exact h
      · exact List.mem_reverse.mp h
    obtain ⟨e, rfl, h1, h2⟩ := rg_mem hz2
    exact ⟨e.toNat, by show V.int e = V.int ((e.toNat : Nat) : Int); rw [show ((e.toNat : Nat) : Int) = e by omega], by omega⟩
  have hk : ∀ {pa pb : List V} {v k j : Nat}, PlanOk os rows 0 pa → PlanOk os rows 1 pb → v < os.length → Meets (mvF (movesL os rows pa pb)) v k j → k ≤ 1000 := fun {pa pb v k j} oa ob hv m => by
    have e := orb_le (fun u hu => moves_lt V0 oa ob hu) (by rw [movesL_len]; exact hv) m.nd
    rw [movesL_len] at e
    omega
  have ok1' := plan_turn (who := 0) (show PlanOk os rows (1 - 0) pl1 from ok1)
  have ok0' := plan_turn (who := 1) (show PlanOk os rows (1 - 1) pl0 from ok0)
  refine for_list (xs := rgV 0 (n : Int) ++ (rgV 0 (n : Int)).reverse) (fun i σ H' => Same H21 H' ∧ ∃ y10 y11 : Option V, σ = [some (.ref a), some (.ref p0), some (.int (n : Int)), some (.ref g), some (.ref x), some (.ref y), some (.ref DA), some (.ref DB), some (.ref PA), some (.str (PyData.shown (.list [E0', E1']))), y10, y11, Option.none, Option.none, Option.none, Option.none]) ⟨.refl _, Option.none, Option.none, rfl⟩ (fun i σ H' _ z => SqL.of (z.1 _ _ el4)) ?_ ?_
  · rintro i z σ H22 hz ⟨sm, y10, y11, rfl⟩
    obtain ⟨v, rfl, hv⟩ := hit z (List.mem_of_getElem? hz)
    have v1 := w4.trans sm
    have G22 := G18.same v1
    refine ⟨_, rfl, _, rfl, _, rfl, g, DA, q0, q1, v, os, ps, rows, o, p, sx, rs, pl0, pl1, rfl, G22, V0, n60, v1 _ _ eA18, v1 _ _ eq0', v1 _ _ eq1', ok0, ok1, hv, fun td H23 s23 htd pd => ?_⟩
    have v2 := v1.trans s23
    refine ⟨_, rfl, _, rfl, PA, _, 0, .ref u0, rfl, rfl, SqL.of (v2 _ _ ePA), rfl, _, rfl, PA, _, 1, .ref u1, rfl, rfl, SqL.of (v2 _ _ ePA), rfl, _, rfl, x, u0, u1, v, os, ps, rows, dx, xa, xb, xc, xts, xm, pl0, pl1, rfl, gm18.same v2, V0, n60, xu0.same v2, xu1.same v2, ok0, ok1, hv, fun t1 H24 s24 ht1 p1 => ?_⟩
    have v3 := v2.trans s24
    obtain ⟨d1', rd1, rd2⟩ := play_rep p1 (pd.same s24) (fun k j m => hk ok0 ok1 hv m)
    refine ⟨_, rfl, .ref t1, .ref td, d1', rfl, rd1, rd2, true, rfl, iteF ?_⟩
    refine ⟨_, rfl, _, rfl, PA, _, 1, .ref u1, rfl, rfl, SqL.of (v3 _ _ ePA), rfl, _, rfl, PA, _, 0, .ref u0, rfl, rfl, SqL.of (v3 _ _ ePA), rfl, _, rfl, y, u1, u0, v, _, ps, rows, dy, ya, yb, yc, yts, ym, pl1, pl0, rfl, gy18.same v3, V1, (by rw [List.length_map]; exact n60), xu1.same v3, xu0.same v3, ok1', ok0', (by rw [List.length_map]; exact hv), fun t2 H25 s25 ht2 p2 => ?_⟩
    rw [moves_turn V0] at p2
    have v4 := v3.trans s25
    obtain ⟨d2', re1, re2⟩ := play_rep p2 (pd.same (s24.trans s25)) (fun k j m => hk ok0 ok1 hv m)
    refine ⟨_, rfl, .ref t2, .ref td, d2', rfl, re1, re2, true, rfl, iteF ?_⟩
    refine ⟨_, rfl, _, rfl, PA, _, 0, .ref u0, rfl, rfl, SqL.of (v4 _ _ ePA), rfl, _, rfl, DB, _, 1, .ref o1, rfl, rfl, SqL.of (v4 _ _ eB18), rfl, .inl ⟨o1, _, rfl, SqL.of (v4 _ _ fo1'), fun k1 hk1 => ?_⟩⟩
    have w5 := same_new hk1 (.tup pm1)
    have ek1 : upd H25 k1 (.tup pm1) k1 = some (.tup pm1) := upd_same
    generalize upd H25 k1 (.tup pm1) = H26 at w5 ek1 ⊢
    have v5 := v4.trans w5
    refine ⟨_, rfl, x, u0, k1, v, os, ps, rows, dx, xa, xb, xc, xts, xm, pl0, pm1, rfl, gm18.same v5, V0, n60, xu0.same v5, .inr ek1, ok0, oo1, hv, fun t3 H27 s27 ht3 p3 => ?_⟩
    have v6 := v5.trans s27
    refine ⟨_, rfl, _, rfl, DA, _, 0, .ref q0, rfl, rfl, SqL.of (v6 _ _ eA18), rfl, _, rfl, DB, _, 1, .ref o1, rfl, rfl, SqL.of (v6 _ _ eB18), rfl, le_line (n := 2) (by decide), fun k2 hk2 => ?_⟩
    have w6 := same_new hk2 (.lst [.ref q0, .ref o1])
    have ek2 : upd H27 k2 (.lst [.ref q0, .ref o1]) k2 = some (.lst [.ref q0, .ref o1]) := upd_same
    generalize upd H27 k2 (.lst [.ref q0, .ref o1]) = H28 at w6 ek2 ⊢
    have v7 := v6.trans w6
    refine ⟨_, rfl, g, k2, q0, o1, v, os, ps, rows, o, p, sx, rs, pl0, pm1, rfl, G18.same v7, V0, n60, ek2, v7 _ _ eq0', v7 _ _ fo1', ok0, oo1, hv, fun t4 H29 s29 ht4 p4 => ?_⟩
    have v8 := v7.trans s29
    obtain ⟨d3', rf1, rf2⟩ := play_rep (p3.same (w6.trans s29)) p4 (fun k j m => hk ok0 oo1 hv m)
    refine ⟨.ref t3, .ref t4, d3', rfl, rf1, rf2, true, rfl, iteF ?_⟩
    refine ⟨_, rfl, _, rfl, DB, _, 0, .ref o0, rfl, rfl, SqL.of (v8 _ _ eB18), rfl, o0, _, rfl, .inl (SqL.of (v8 _ _ fo0')), fun k3 hk3 => ?_⟩
    have w7 := same_new hk3 (.lst pm0)
    have ek3 : upd H29 k3 (.lst pm0) k3 = some (.lst pm0) := upd_same
    generalize upd H29 k3 (.lst pm0) = H30 at w7 ek3 ⊢
    have v9 := v8.trans w7
    refine ⟨_, rfl, DB, _, 1, .ref o1, rfl, rfl, SqL.of (v9 _ _ eB18), rfl, _, rfl, x, k3, o1, v, os, ps, rows, dx, xa, xb, xc, xts, xm, pm0, pm1, rfl, gm18.same v9, V0, n60, .inl ek3, .inl (v9 _ _ fo1'), oo0, oo1, hv, fun t5 H31 s31 ht5 p5 => ?_⟩
    have v10 := v9.trans s31
    refine ⟨_, rfl, _, rfl, _, rfl, g, DB, o0, o1, v, os, ps, rows, o, p, sx, rs, pm0, pm1, rfl, G18.same v10, V0, n60, v10 _ _ eB18, v10 _ _ fo0', v10 _ _ fo1', oo0, oo1, hv, fun t6 H32 s32 ht6 p6 => ?_⟩
    obtain ⟨d4', rg1, rg2⟩ := play_rep (p5.same s32) p6 (fun k j m => hk oo0 oo1 hv m)
    refine ⟨.ref t5, .ref t6, d4', rfl, rg1, rg2, true, rfl, iteF ?_⟩
    exact ⟨(((((((((sm.trans s23).trans s24).trans s25).trans w5).trans s27).trans w6).trans s29).trans w7).trans s31).trans s32, _, _, rfl⟩
  · rintro σ H22 ⟨sm, y10, y11, rfl⟩
    have k4 := w4.trans sm
    have G22 := G18.same k4
    refine ⟨_, rfl, g, _, 2, .ref sx, rfl, rfl, SqL.of G22.g0, rfl, sx, rfl, ⟨_, SqL.of G22.s0⟩, fun D4 hD4 => ?_⟩
    refine lc_newL (xs := rs.map V.ref) (fun i _ ob => ∃ xs, rows[i]? = some xs ∧ ob = .tup (xs.map V.int)) (by rw [List.length_map]; omega) (SqL.of G22.s0) hD4 (fun i x H' k nn hx sm hk => ⟨rfl, tYI ?_⟩) (fun H23 rs3 t5 eD4 lrs3 pw3 => ?_)
    · obtain ⟨r, hr1, rfl⟩ := map_atV hx
      obtain ⟨xs, hxs, er⟩ := pr_get G22.r0 hr1
      exact ⟨_, rfl, .inl ⟨r, _, rfl, SqL.of (sm _ _ er), fun l hl' => hk l _ _ (same_new hl' _) hl' upd_same ⟨xs, hxs, rfl⟩⟩⟩
    have pr3 : Paired (fun r xs => H23 r = some (.tup (xs.map V.int))) rs3 rows := pr_of (by rw [lrs3, List.length_map, lrs, V0.l2]) fun i r xs h1 h2 => by
      obtain ⟨ob, _, _, eo, ys, hy, rfl⟩ := pw3 i r (.ref (rs.getD i 0)) h1 (at_map (gd_at (by have := lt_of_at h2; rw [lrs]; rw [V0.l2] at this; exact this)))
      rw [h2] at hy
      cases hy
      exact eo
    clear pw3
    have k5 := k4.trans t5
    refine .inl ⟨D4, _, rfl, SqL.of eD4, fun tr htr => ?_⟩
    have t6 := same_new htr (.tup (rs3.map V.ref))
    have etr : upd H23 tr (.tup (rs3.map V.ref)) tr = some (.tup (rs3.map V.ref)) := upd_same
    have k6 := k5.trans t6
    have pr4 := L2.Paired.mapP pr3 fun _ _ e => t6 _ _ e
    generalize upd H23 tr (.tup (rs3.map V.ref)) = H24 at t6 etr k6 pr4 ⊢
    have gm24 := gm18.same k6
    refine ⟨_, rfl, x, C, dx, _, _, rfl, gm24.ob, T.cl, T.nO, fld_own xa xb xc xm, _, rfl, x, C, dx, _, _, rfl, gm24.ob, T.cl, T.nP, fld_pri xa xb xc xm, _, rfl, x, C, dx, _, _, rfl, gm24.ob, T.cl, T.nS, fld_suc xa xb xc xm, le_line (n := 3) (by decide), fun u1 hu1 => ?_⟩
    have t7 := same_new hu1 (.tup [.ref xa, .ref xb, .ref xc])
    have eu1 : upd H24 u1 (.tup [.ref xa, .ref xb, .ref xc]) u1 = some (.tup [.ref xa, .ref xb, .ref xc]) := upd_same
    have k7 := k6.trans t7
    generalize upd H24 u1 (.tup [.ref xa, .ref xb, .ref xc]) = H25 at t7 eu1 k7 ⊢
    have G25 := G18.same k7
    refine ⟨_, rfl, g, _, 0, .ref o, rfl, rfl, SqL.of G25.g0, rfl, .inl ⟨o, _, rfl, SqL.of G25.o0, fun v1 hv1 => ?_⟩⟩
    have t8 := same_new hv1 (.tup (os.map V.int))
    have ev1 : upd H25 v1 (.tup (os.map V.int)) v1 = some (.tup (os.map V.int)) := upd_same
    generalize upd H25 v1 (.tup (os.map V.int)) = H26 at t8 ev1 ⊢
    have G26 := G25.same t8
    refine ⟨_, rfl, g, _, 1, .ref p, rfl, rfl, SqL.of G26.g0, rfl, .inl ⟨p, _, rfl, SqL.of G26.p0, fun v2 hv2 => ?_⟩⟩
    have t9 := same_new hv2 (.tup (ps.map V.int))
    have ev2 : upd H26 v2 (.tup (ps.map V.int)) v2 = some (.tup (ps.map V.int)) := upd_same
    generalize upd H26 v2 (.tup (ps.map V.int)) = H27 at t9 ev2 ⊢
    refine ⟨_, rfl, le_line (n := 3) (by decide), fun v3 hv3 => ?_⟩
    have t10 := same_new hv3 (.tup [.ref v1, .ref v2, .ref tr])
    have ev3 : upd H27 v3 (.tup [.ref v1, .ref v2, .ref tr]) v3 = some (.tup [.ref v1, .ref v2, .ref tr]) := upd_same
    generalize upd H27 v3 (.tup [.ref v1, .ref v2, .ref tr]) = H28 at t10 ev3 ⊢
    have k10 := ((t7.trans t8).trans t9).trans t10
    have gm28 := gm24.same k10
    have shp : Ly 3 (.tuple [.tuple (os.map PyData.int), .tuple (ps.map PyData.int), .tuple (rowsD rows)]) := ly_tup fun d hd => by
      simp only [List.mem_cons, List.not_mem_nil, or_false] at hd
      rcases hd with rfl | rfl | rfl
      · exact (ly_tup (ly_ints _)).up (by decide)
      · exact (ly_tup (ly_ints _)).up (by decide)
      · exact ly_tup (ly_rows _)
    refine ⟨.tuple [.tuple (os.map PyData.int), .tuple (ps.map PyData.int), .tuple (rowsD rows)], .tuple [.tuple (os.map PyData.int), .tuple (ps.map PyData.int), .tuple (rowsD rows)], .tup (sqT (((t8.trans t9).trans t10) _ _ eu1)) (.cons (dp_tupI gm28.oa) (.cons (dp_tupI gm28.ob2) (.cons (.tup (sqT gm28.oc) (dp_rows gm28.or)) .nil))), .tup (sqT ev3) (.cons (dp_tupI ((t9.trans t10) _ _ ev1)) (.cons (dp_tupI (t10 _ _ ev2)) (.cons (.tup (sqT (k10 _ _ etr)) (dp_rows (L2.Paired.mapP pr4 fun _ _ e => k10 _ _ e))) .nil))), ly_shaped shp (by decide), ly_shaped shp (by decide), _, rfl, ?_⟩
    rw [ly_refl shp]
    refine iteF ?_
    have dPA2 := dp_same (k6.trans k10) dPA
    refine ⟨_, rfl, PA, _, rfl, dPA2, smP.sh, smP.nd, Nat.le_trans smP.dep (by decide), smP.len (by decide), _, rfl, rfl, ?_⟩
    rw [decide_eq_true rfl]
    exact q _
end
end GM
set_option Elab.async false
set_option linter.all false
set_option maxRecDepth 100000
set_option maxHeartbeats 4000000
namespace GM
open PySem PySem.Spec PyProof.Rows L2
/-! ### what the top has left -/
theorem all_mk {l : PySem.W.OpenLaw} {w : World} {K : PySem.W.Frag} {h : Heap} {mg : Str → Option Value} {fa : Addr} (X : K.In h) (G : h.Ns mainGlobals mg) (hfa : mg "law" = some (.ref fa))
    {C_Game : Addr}
    {tk_GREATEST_PRIORITY : Tok}
    {f1 f2 f3 f4 f5 f6 f7 f8 f9 f10 f11 f12 f13 f14 f15 : Addr}
    {od1 an1 od2 an2 od3 an3 od4 an4 od5 an5 od6 an6 od7 an7 od8 an8 od9 an9 od10 an10 od11 an11 od12 an12 od13 an13 od14 an14 od15 an15 : Option Addr} {sl1 sl2 sl3 sl4 sl5 sl6 sl7 sl8 sl9 sl10 sl11 sl12 sl13 sl14 sl15 : Array (Option Value)}
    {oc1 dc1 pm1 cd1 ct1 kV1 oc2 dc2 pm2 cd2 ct2 kV2 oc3 dc3 pm3 cd3 ct3 kV3 oc4 dc4 pm4 cd4 ct4 kV4 oc5 dc5 pm5 cd5 ct5 kV5 oc6 dc6 pm6 cd6 ct6 kV6 oc7 dc7 pm7 cd7 ct7 kV7 oc8 dc8 pm8 cd8 ct8 kV8 oc9 dc9 pm9 cd9 ct9 kV9 oc10 dc10 pm10 cd10 ct10 kV10 oc11 dc11 pm11 cd11 ct11 kV11 oc12 dc12 pm12 cd12 ct12 kV12 oc13 dc13 pm13 cd13 ct13 kV13 oc14 dc14 pm14 cd14 ct14 kV14 oc15 dc15 pm15 cd15 ct15 kV15 : Value}
    (a1 : PySem.W.nsIn K mainGlobals "as_tuples" = some (some (.ref f1)))
    (l1 : K.lookup f1 = some ⟨oc1, od1, .func (PySem.W.fnOf "as_tuples" "as_tuples" (defArgs s_as_tuples) (defBody s_as_tuples) (defScope s_as_tuples) .none kV1 dc1 pm1 an1 cd1 ct1), sl1⟩)
    (c1 : PySem.W.codeIn K cd1 "as_tuples" = true) (k1 : PySem.W.keepIn K (.ref f1) = true)
    (a2 : PySem.W.nsIn K mainGlobals "is_whole" = some (some (.ref f2)))
    (l2 : K.lookup f2 = some ⟨oc2, od2, .func (PySem.W.fnOf "is_whole" "is_whole" (defArgs s_is_whole) (defBody s_is_whole) (defScope s_is_whole) .none kV2 dc2 pm2 an2 cd2 ct2), sl2⟩)
    (c2 : PySem.W.codeIn K cd2 "is_whole" = true) (k2 : PySem.W.keepIn K (.ref f2) = true)
    (a3 : PySem.W.findIn K (.ref C_Game) "__init__" = some (some (.ref f3))) (i3 : PySem.W.isFn K (.ref f3) = true)
    (l3 : K.lookup f3 = some ⟨oc3, od3, .func (PySem.W.fnOf "__init__" "Game.__init__" (defArgs s_Game___init__) (defBody s_Game___init__) (defScope s_Game___init__) .none kV3 dc3 pm3 an3 cd3 ct3), sl3⟩)
    (c3 : PySem.W.codeIn K cd3 "Game.__init__" = true) (k3 : PySem.W.keepIn K (.ref f3) = true)
    (a4 : PySem.W.nsIn K mainGlobals "is_number_to" = some (some (.ref f4)))
    (l4 : K.lookup f4 = some ⟨oc4, od4, .func (PySem.W.fnOf "is_number_to" "is_number_to" (defArgs s_is_number_to) (defBody s_is_number_to) (defScope s_is_number_to) .none kV4 dc4 pm4 an4 cd4 ct4), sl4⟩)
    (c4 : PySem.W.codeIn K cd4 "is_number_to" = true) (k4 : PySem.W.keepIn K (.ref f4) = true)
    (a5 : PySem.W.nsIn K mainGlobals "are_successors" = some (some (.ref f5)))
    (l5 : K.lookup f5 = some ⟨oc5, od5, .func (PySem.W.fnOf "are_successors" "are_successors" (defArgs s_are_successors) (defBody s_are_successors) (defScope s_are_successors) .none kV5 dc5 pm5 an5 cd5 ct5), sl5⟩)
    (c5 : PySem.W.codeIn K cd5 "are_successors" = true) (k5 : PySem.W.keepIn K (.ref f5) = true)
    (a6 : PySem.W.nsIn K mainGlobals "duel" = some (some (.ref f6)))
    (l6 : K.lookup f6 = some ⟨oc6, od6, .func (PySem.W.fnOf "duel" "duel" (defArgs s_duel) (defBody s_duel) (defScope s_duel) .none kV6 dc6 pm6 an6 cd6 ct6), sl6⟩)
    (c6 : PySem.W.codeIn K cd6 "duel" = true) (k6 : PySem.W.keepIn K (.ref f6) = true)
    (a7 : PySem.W.nsIn K mainGlobals "_followed" = some (some (.ref f7)))
    (l7 : K.lookup f7 = some ⟨oc7, od7, .func (PySem.W.fnOf "_followed" "_followed" (defArgs s__followed) (defBody s__followed) (defScope s__followed) .none kV7 dc7 pm7 an7 cd7 ct7), sl7⟩)
    (c7 : PySem.W.codeIn K cd7 "_followed" = true) (k7 : PySem.W.keepIn K (.ref f7) = true)
    (a8 : PySem.W.nsIn K mainGlobals "_law_whole" = some (some (.ref f8)))
    (l8 : K.lookup f8 = some ⟨oc8, od8, .func (PySem.W.fnOf "_law_whole" "_law_whole" (defArgs s__law_whole) (defBody s__law_whole) (defScope s__law_whole) .none kV8 dc8 pm8 an8 cd8 ct8), sl8⟩)
    (c8 : PySem.W.codeIn K cd8 "_law_whole" = true) (k8 : PySem.W.keepIn K (.ref f8) = true)
    (a9 : PySem.W.nsIn K mainGlobals "_law_cell" = some (some (.ref f9)))
    (l9 : K.lookup f9 = some ⟨oc9, od9, .func (PySem.W.fnOf "_law_cell" "_law_cell" (defArgs s__law_cell) (defBody s__law_cell) (defScope s__law_cell) .none kV9 dc9 pm9 an9 cd9 ct9), sl9⟩)
    (c9 : PySem.W.codeIn K cd9 "_law_cell" = true) (k9 : PySem.W.keepIn K (.ref f9) = true)
    (a10 : PySem.W.nsIn K mainGlobals "_law_digits" = some (some (.ref f10)))
    (l10 : K.lookup f10 = some ⟨oc10, od10, .func (PySem.W.fnOf "_law_digits" "_law_digits" (defArgs s__law_digits) (defBody s__law_digits) (defScope s__law_digits) .none kV10 dc10 pm10 an10 cd10 ct10), sl10⟩)
    (c10 : PySem.W.codeIn K cd10 "_law_digits" = true) (k10 : PySem.W.keepIn K (.ref f10) = true)
    (a11 : PySem.W.nsIn K mainGlobals "_law_graph" = some (some (.ref f11)))
    (l11 : K.lookup f11 = some ⟨oc11, od11, .func (PySem.W.fnOf "_law_graph" "_law_graph" (defArgs s__law_graph) (defBody s__law_graph) (defScope s__law_graph) .none kV11 dc11 pm11 an11 cd11 ct11), sl11⟩)
    (c11 : PySem.W.codeIn K cd11 "_law_graph" = true) (k11 : PySem.W.keepIn K (.ref f11) = true)
    (a12 : PySem.W.nsIn K mainGlobals "_law_same" = some (some (.ref f12)))
    (l12 : K.lookup f12 = some ⟨oc12, od12, .func (PySem.W.fnOf "_law_same" "_law_same" (defArgs s__law_same) (defBody s__law_same) (defScope s__law_same) .none kV12 dc12 pm12 an12 cd12 ct12), sl12⟩)
    (c12 : PySem.W.codeIn K cd12 "_law_same" = true) (k12 : PySem.W.keepIn K (.ref f12) = true)
    (a13 : PySem.W.nsIn K mainGlobals "_law_plan" = some (some (.ref f13)))
    (l13 : K.lookup f13 = some ⟨oc13, od13, .func (PySem.W.fnOf "_law_plan" "_law_plan" (defArgs s__law_plan) (defBody s__law_plan) (defScope s__law_plan) .none kV13 dc13 pm13 an13 cd13 ct13), sl13⟩)
    (c13 : PySem.W.codeIn K cd13 "_law_plan" = true) (k13 : PySem.W.keepIn K (.ref f13) = true)
    (a14 : PySem.W.nsIn K mainGlobals "_law_duel" = some (some (.ref f14)))
    (l14 : K.lookup f14 = some ⟨oc14, od14, .func (PySem.W.fnOf "_law_duel" "_law_duel" (defArgs s__law_duel) (defBody s__law_duel) (defScope s__law_duel) .none kV14 dc14 pm14 an14 cd14 ct14), sl14⟩)
    (c14 : PySem.W.codeIn K cd14 "_law_duel" = true) (k14 : PySem.W.keepIn K (.ref f14) = true)
    (a15 : PySem.W.nsIn K mainGlobals "law" = some (some (.ref f15)))
    (l15 : K.lookup f15 = some ⟨oc15, od15, .func (PySem.W.fnOf "law" "law" (defArgs s_law) (defBody s_law) (defScope s_law) .none kV15 dc15 pm15 an15 cd15 ct15), sl15⟩)
    (c15 : PySem.W.codeIn K cd15 "law" = true) (k15 : PySem.W.keepIn K (.ref f15) = true)
    (aC_Game : PySem.W.nsIn K mainGlobals "Game" = some (some (.ref C_Game)))
    (pg_Game : PySem.W.plainGet K C_Game Str.empty = true) (hd_Game : PySem.W.hasDictIn K C_Game = true) (po_Game : PySem.W.plainOver K C_Game = true) (sa_Game : PySem.W.findIn K (.ref C_Game) "__setattr__" = some (some (.builtin "object.__setattr__"))) (mk_Game : PySem.W.makesIn K C_Game = true) (kc_Game : PySem.W.keepIn K (.ref C_Game) = true)
    (n_Game_owners : PySem.W.findIn K (.ref C_Game) "owners" = some none)
    (n_Game_priorities : PySem.W.findIn K (.ref C_Game) "priorities" = some none)
    (n_Game_successors : PySem.W.findIn K (.ref C_Game) "successors" = some none)
    (n_Game_top : PySem.W.findIn K (.ref C_Game) "top" = some none)
    (n_Game_height : PySem.W.findIn K (.ref C_Game) "height" = some none)
    (n_Game_ceiling : PySem.W.findIn K (.ref C_Game) "ceiling" = some none)
    (g_GREATEST_PRIORITY : PySem.W.nsIn K mainGlobals "GREATEST_PRIORITY" = some (some (.int 30 tk_GREATEST_PRIORITY)))
    (z1 : PySem.W.nsIn K mainGlobals "len" = some none)
    (z2 : PySem.W.nsIn K mainGlobals "isinstance" = some none)
    (z3 : PySem.W.nsIn K mainGlobals "int" = some none)
    (z4 : PySem.W.nsIn K mainGlobals "bool" = some none)
    (z5 : PySem.W.nsIn K mainGlobals "range" = some none)
    (z6 : PySem.W.nsIn K mainGlobals "tuple" = some none)
    (z7 : PySem.W.nsIn K mainGlobals "list" = some none)
    (z8 : PySem.W.nsIn K mainGlobals "max" = some none)
    (z9 : PySem.W.nsIn K mainGlobals "min" = some none)
    (z10 : PySem.W.nsIn K mainGlobals "sorted" = some none)
    (z11 : PySem.W.nsIn K mainGlobals "enumerate" = some none)
    (z12 : PySem.W.nsIn K mainGlobals "set" = some none)
    (z13 : PySem.W.nsIn K mainGlobals "repr" = some none)
    (z14 : PySem.W.nsIn K mainGlobals "reversed" = some none) :
    ∃ fd : FuncData, (∀ (s : Shared) (v : Value), BindsTo s fd ⟨[v], []⟩ [("script", v)]) ∧ ∀ base : Heap, K.In base → base.Ns mainGlobals mg → FnG l.prog w K mg base CX0 6 fa fd ["script"] (spLaw K) := by
  have e := hfa.symm.trans (PySem.W.mg_of X G a15)
  cases e
  have F1 := fun_mk (st := s_as_tuples) l1 c1 k1
  have b1 : Binds K _ ["value"] [] := F1.binds (ps := ["value"]) fun _ _ _ _ _ _ us hl => match us, hl with | [_], _ => rfl
  have m1 := PySem.W.mg_of X G a1
  have F2 := fun_mk (st := s_is_whole) l2 c2 k2
  have b2 : Binds K _ ["value"] [] := F2.binds (ps := ["value"]) fun _ _ _ _ _ _ us hl => match us, hl with | [_], _ => rfl
  have m2 := PySem.W.mg_of X G a2
  have F3 := fun_mk (st := s_Game___init__) l3 c3 k3
  have b3 : Binds K _ ["self", "owners", "priorities", "successors"] [] := F3.binds (ps := ["self", "owners", "priorities", "successors"]) fun _ _ _ _ _ _ us hl => match us, hl with | [_, _, _, _], _ => rfl
  have F4 := fun_mk (st := s_is_number_to) l4 c4 k4
  have b4 : Binds K _ ["value", "most"] [] := F4.binds (ps := ["value", "most"]) fun _ _ _ _ _ _ us hl => match us, hl with | [_, _], _ => rfl
  have m4 := PySem.W.mg_of X G a4
  have F5 := fun_mk (st := s_are_successors) l5 c5 k5
  have b5 : Binds K _ ["value", "count"] [] := F5.binds (ps := ["value", "count"]) fun _ _ _ _ _ _ us hl => match us, hl with | [_, _], _ => rfl
  have m5 := PySem.W.mg_of X G a5
  have F6 := fun_mk (st := s_duel) l6 c6 k6
  have b6 : Binds K _ ["game", "first", "second", "start"] [] := F6.binds (ps := ["game", "first", "second", "start"]) fun _ _ _ _ _ _ us hl => match us, hl with | [_, _, _, _], _ => rfl
  have m6 := PySem.W.mg_of X G a6
  have F7 := fun_mk (st := s__followed) l7 c7 k7
  have b7 : Binds K _ ["moves", "start"] [] := F7.binds (ps := ["moves", "start"]) fun _ _ _ _ _ _ us hl => match us, hl with | [_, _], _ => rfl
  have m7 := PySem.W.mg_of X G a7
  have F8 := fun_mk (st := s__law_whole) l8 c8 k8
  have b8 : Binds K _ ["value"] [] := F8.binds (ps := ["value"]) fun _ _ _ _ _ _ us hl => match us, hl with | [_], _ => rfl
  have m8 := PySem.W.mg_of X G a8
  have F9 := fun_mk (st := s__law_cell) l9 c9 k9
  have b9 : Binds K _ ["script", "k"] [] := F9.binds (ps := ["script", "k"]) fun _ _ _ _ _ _ us hl => match us, hl with | [_, _], _ => rfl
  have m9 := PySem.W.mg_of X G a9
  have F10 := fun_mk (st := s__law_digits) l10 c10 k10
  have b10 : Binds K _ ["cell", "sizes"] [] := F10.binds (ps := ["cell", "sizes"]) fun _ _ _ _ _ _ us hl => match us, hl with | [_, _], _ => rfl
  have m10 := PySem.W.mg_of X G a10
  have F11 := fun_mk (st := s__law_graph) l11 c11 k11
  have b11 : Binds K _ ["script", "at", "count", "top"] [] := F11.binds (ps := ["script", "at", "count", "top"]) fun _ _ _ _ _ _ us hl => match us, hl with | [_, _, _, _], _ => rfl
  have m11 := PySem.W.mg_of X G a11
  have F12 := fun_mk (st := s__law_same) l12 c12 k12
  have b12 : Binds K _ ["told", "due"] [] := F12.binds (ps := ["told", "due"]) fun _ _ _ _ _ _ us hl => match us, hl with | [_, _], _ => rfl
  have m12 := PySem.W.mg_of X G a12
  have F13 := fun_mk (st := s__law_plan) l13 c13 k13
  have b13 : Binds K _ ["game", "who", "cell"] [] := F13.binds (ps := ["game", "who", "cell"]) fun _ _ _ _ _ _ us hl => match us, hl with | [_, _, _], _ => rfl
  have m13 := PySem.W.mg_of X G a13
  have F14 := fun_mk (st := s__law_duel) l14 c14 k14
  have b14 : Binds K _ ["game", "plans", "v"] [] := F14.binds (ps := ["game", "plans", "v"]) fun _ _ _ _ _ _ us hl => match us, hl with | [_, _, _], _ => rfl
  have m14 := PySem.W.mg_of X G a14
  have F15 := fun_mk (st := s_law) l15 c15 k15
  have m15 := PySem.W.mg_of X G a15
  have mC_Game := PySem.W.mg_of X G aC_Game
  have mg_GREATEST_PRIORITY := PySem.W.mg_of X G g_GREATEST_PRIORITY
  have M : Blt mg := ⟨PySem.W.mg_none_of X G z1, PySem.W.mg_none_of X G z2, PySem.W.mg_none_of X G z3, PySem.W.mg_none_of X G z4, PySem.W.mg_none_of X G z5, PySem.W.mg_none_of X G z6, PySem.W.mg_none_of X G z7, PySem.W.mg_none_of X G z8, PySem.W.mg_none_of X G z9, PySem.W.mg_none_of X G z10, PySem.W.mg_none_of X G z11, PySem.W.mg_none_of X G z12⟩
  refine ⟨PySem.W.fnOf "law" "law" (defArgs s_law) (defBody s_law) (defScope s_law) .none kV15 dc15 pm15 an15 cd15 ct15, fun s v => .of_eq rfl, fun base _ _ => ?_⟩
  have T : GTxt K mg C_Game := ⟨⟨pg_Game, hd_Game, po_Game, sa_Game⟩, n_Game_owners, n_Game_priorities, n_Game_successors, n_Game_top, n_Game_height, n_Game_ceiling, mC_Game, ⟨_, mg_GREATEST_PRIORITY⟩⟩
  have Kwhole : Kn l.prog w K mg base 1 "is_whole" ["value"] spWhole := ⟨_, _, ok_whole M F2, b2, k2, m2⟩
  have Klwhole : Kn l.prog w K mg base 1 "_law_whole" ["value"] spWhole := ⟨_, _, ok_lwhole M F8, b8, k8, m8⟩
  have Kcell : Kn l.prog w K mg base 1 "_law_cell" ["script", "k"] (spCell K) := ⟨_, _, ok_cell M F9, b9, k9, m9⟩
  have Kdig : Kn l.prog w K mg base 1 "_law_digits" ["cell", "sizes"] (spDigits K) := ⟨_, _, ok_digits M F10, b10, k10, m10⟩
  have Knum : Kn l.prog w K mg base 2 "is_number_to" ["value", "most"] spNumTo := ⟨_, _, ok_numto M F4 Kwhole, b4, k4, m4⟩
  have Ksucc : Kn l.prog w K mg base 2 "are_successors" ["value", "count"] spSucc := ⟨_, _, ok_succ M F5 Kwhole, b5, k5, m5⟩
  have Kas0 : Kn l.prog w K mg base 1 "as_tuples" ["value"] spAs0 := ⟨_, _, ok_as0 M F1 b1 m1, b1, k1, m1⟩
  have Kas1 : Kn l.prog w K mg base 2 "as_tuples" ["value"] spAs1 := ⟨_, _, ok_as1 M F1 Kas0, b1, k1, m1⟩
  have Kas2 : Kn l.prog w K mg base 3 "as_tuples" ["value"] spAs2 := ⟨_, _, ok_as2 M F1 Kas1, b1, k1, m1⟩
  have GG : KG l.prog w K mg base C_Game := ⟨_, _, ⟨mk_Game, a3, i3, kc_Game⟩, ok_init M T F3 Knum Ksucc Kas2, b3⟩
  have Kgraph : Kn l.prog w K mg base 2 "_law_graph" ["script", "at", "count", "top"] (spGraph K) := ⟨_, _, ok_graph M F11 Kcell Kdig, b11, k11, m11⟩
  have Kplan : Kn l.prog w K mg base 2 "_law_plan" ["game", "who", "cell"] (spPlan K) := ⟨_, _, ok_plan M F13 Kdig, b13, k13, m13⟩
  have Kfol : Kn l.prog w K mg base 1 "_followed" ["moves", "start"] spFollow := ⟨_, _, ok_follow M F7, b7, k7, m7⟩
  have Kduel : Kn l.prog w K mg base 2 "duel" ["game", "first", "second", "start"] (spDuel C_Game) := ⟨_, _, ok_duel M T F6 Kfol, b6, k6, m6⟩
  have Klduel : Kn l.prog w K mg base 1 "_law_duel" ["game", "plans", "v"] spLDuel := ⟨_, _, ok_lduel M F14, b14, k14, m14⟩
  have Ksame : Kn l.prog w K mg base 4 "_law_same" ["told", "due"] (spSameD 2) := ⟨_, _, ok_sameD M F12 b12 m12 Klwhole 2, b12, k12, m12⟩
  exact ok_law M T F15 (PySem.W.mg_none_of X G z13) (PySem.W.mg_none_of X G z14) GG Kcell Kdig Kgraph Kplan Klduel Kduel Ksame
end GM
open PySem PySem.W PyProof.Rows
set_option maxRecDepth 100000 in
set_option pp.maxSteps 100 in
set_option maxHeartbeats 0 in
theorem PySem.Challenge.cw_holdsalltrees_k38_duels_holds : PySem.Challenge.rw_holdsalltrees_k38_duels.Holds := by
  w_on; o_law; k_head; (case hw => w_witness2)
  k_fill
  refine GM.walk_ofG (l := PySem.Challenge.rw_holdsalltrees_k38_duels) (n := 63) (k := 6) (x := "script") (sp := fun w => GM.spLaw _) rfl (by decide) rfl ⟨rfl, by decide, by decide⟩ (fun w h Y => PySem.W.kIn_of Y) ?F (fun _ _ a ns hl _ hS => ⟨a, ns, rfl, hS, hl, fun _ => rfl⟩)
  case F =>
    intro w mg fa h KX G hmg
    refine' GM.all_mk KX G hmg ?a1 ?l1 ?c1 ?k1 ?a2 ?l2 ?c2 ?k2 ?a3 ?i3 ?l3 ?c3 ?k3 ?a4 ?l4 ?c4 ?k4 ?a5 ?l5 ?c5 ?k5 ?a6 ?l6 ?c6 ?k6 ?a7 ?l7 ?c7 ?k7 ?a8 ?l8 ?c8 ?k8 ?a9 ?l9 ?c9 ?k9 ?a10 ?l10 ?c10 ?k10 ?a11 ?l11 ?c11 ?k11 ?a12 ?l12 ?c12 ?k12 ?a13 ?l13 ?c13 ?k13 ?a14 ?l14 ?c14 ?k14 ?a15 ?l15 ?c15 ?k15 ?aC_Game ?pg_Game ?hd_Game ?po_Game ?sa_Game ?mk_Game ?kc_Game ?n_Game_owners ?n_Game_priorities ?n_Game_successors ?n_Game_top ?n_Game_height ?n_Game_ceiling ?g_GREATEST_PRIORITY ?z1 ?z2 ?z3 ?z4 ?z5 ?z6 ?z7 ?z8 ?z9 ?z10 ?z11 ?z12 ?z13 ?z14
    (case aC_Game => k_is)
    (case a1 => k_is)
    (case l1 => k_is)
    (case c1 => k_is)
    (case k1 => k_is)
    (case a2 => k_is)
    (case l2 => k_is)
    (case c2 => k_is)
    (case k2 => k_is)
    (case a3 => k_is)
    (case i3 => k_is)
    (case l3 => k_is)
    (case c3 => k_is)
    (case k3 => k_is)
    (case a4 => k_is)
    (case l4 => k_is)
    (case c4 => k_is)
    (case k4 => k_is)
    (case a5 => k_is)
    (case l5 => k_is)
    (case c5 => k_is)
    (case k5 => k_is)
    (case a6 => k_is)
    (case l6 => k_is)
    (case c6 => k_is)
    (case k6 => k_is)
    (case a7 => k_is)
    (case l7 => k_is)
    (case c7 => k_is)
    (case k7 => k_is)
    (case a8 => k_is)
    (case l8 => k_is)
    (case c8 => k_is)
    (case k8 => k_is)
    (case a9 => k_is)
    (case l9 => k_is)
    (case c9 => k_is)
    (case k9 => k_is)
    (case a10 => k_is)
    (case l10 => k_is)
    (case c10 => k_is)
    (case k10 => k_is)
    (case a11 => k_is)
    (case l11 => k_is)
    (case c11 => k_is)
    (case k11 => k_is)
    (case a12 => k_is)
    (case l12 => k_is)
    (case c12 => k_is)
    (case k12 => k_is)
    (case a13 => k_is)
    (case l13 => k_is)
    (case c13 => k_is)
    (case k13 => k_is)
    (case a14 => k_is)
    (case l14 => k_is)
    (case c14 => k_is)
    (case k14 => k_is)
    (case a15 => k_is)
    (case l15 => k_is)
    (case c15 => k_is)
    (case k15 => k_is)
    (case pg_Game => k_is)
    (case hd_Game => k_is)
    (case po_Game => k_is)
    (case sa_Game => k_is)
    (case mk_Game => k_is)
    (case kc_Game => k_is)
    (case n_Game_owners => k_is)
    (case n_Game_priorities => k_is)
    (case n_Game_successors => k_is)
    (case n_Game_top => k_is)
    (case n_Game_height => k_is)
    (case n_Game_ceiling => k_is)
    (case g_GREATEST_PRIORITY => k_is)
    (case z1 => k_is)
    (case z2 => k_is)
    (case z3 => k_is)
    (case z4 => k_is)
    (case z5 => k_is)
    (case z6 => k_is)
    (case z7 => k_is)
    (case z8 => k_is)
    (case z9 => k_is)
    (case z10 => k_is)
    (case z11 => k_is)
    (case z12 => k_is)
    (case z13 => k_is)
    (case z14 => k_is)
