import PyProof.Rows.All
import Wide.All
import OpenK.AllK
import Wide.FinOn
import HandS.ForMost
import HandS.ForExc
import HandS.Defaults
import HandS.IsInst
import HandS.Flow
import HandS.Conv
import HandS.TupAny
import HandS.TupMul
import HandS.More
import HandS.Strs
import HandS.SortKw
import HandS.MakeKwOnly
import KE.DataMinMax
import KE.GoesEnum
import HandS.Iter
import HandS.SetFor
import HandS.Star
import HandS.Codes
import OpenK.KOps
import PyProof.ReprRoads
import PyProof.ReprBulk
import HandS.Rev
import KE.KDictList
import HandS.ExcCtx
import HandS.HotCalls
import KE.KExcIs
import HandS.ExcInitHot
import PySem.Challenge.RW_holdsalltrees_k36_plays_judged
set_option Elab.async false
set_option linter.all false
set_option maxRecDepth 100000
set_option maxHeartbeats 4000000
namespace GM
open PySem PySem.Spec PyProof.Rows L2
/-! ### a def that is known by its promise -/
structure Kn (P : Program) (w : World) (K : PySem.W.Frag) (mg : Str → Option Value) (base : Heap) (k : Nat) (x : Str) (ps : List Str) (sp : Sp) where
  f : Addr
  fd : FuncData
  ok : FnOk P w K mg base CX0 k f fd ps sp
  b : Binds K fd ps []
  kp : PySem.W.keepIn K (.ref f) = true
  m : mg x = some (.ref f)
/-! ### heaps -/
theorem same_new {H : Hp} {p : Addr} (h : H p = none) (o : HO) : Same H (upd H p o) := fun b u q => by rw [upd_ne (ne_of_none q h)]; exact q
theorem same_upd {H H' : Hp} {p : Addr} (s : Same H H') (h : H p = none) (o : HO) : Same H (upd H' p o) := fun b u q => by
  rw [upd_ne (ne_of_none q h)]
  exact s b u q
theorem lt_line {n : Nat} (h : n ≤ 1000) : n < sizeLine := small1000 h
theorem le_line {n : Nat} (h : n ≤ 1000) : n ≤ sizeLine := Nat.le_of_lt (small1000 h)
theorem pr_get {α β : Type} {F : α → β → Prop} : ∀ {as : List α} {bs : List β} {i : Nat} {a : α}, Paired F as bs → as[i]? = some a → ∃ b, bs[i]? = some b ∧ F a b
  | _, _, _, _, .nil, e => by simp at e
  | _, _, 0, _, .cons r _, e => by simp at e; subst e; exact ⟨_, rfl, r⟩
  | _, _, i + 1, _, .cons _ t, e => by simpa using pr_get (i := i) t (by simpa using e)
theorem pr_getR {α β : Type} {F : α → β → Prop} : ∀ {as : List α} {bs : List β} {i : Nat} {b : β}, Paired F as bs → bs[i]? = some b → ∃ a, as[i]? = some a ∧ F a b
  | _, _, _, _, .nil, e => by simp at e
  | _, _, 0, _, .cons r _, e => by simp at e; subst e; exact ⟨_, rfl, r⟩
  | _, _, i + 1, _, .cons _ t, e => by simpa using pr_getR (i := i) t (by simpa using e)
theorem map_atV {α : Type} {f : α → V} {l : List α} {i : Nat} {x : V} (h : (l.map f)[i]? = some x) : ∃ s, l[i]? = some s ∧ x = f s := by
  rw [List.getElem?_map] at h
  obtain ⟨s, hs, rfl⟩ := Option.map_eq_some_iff.mp h
  exact ⟨s, hs, rfl⟩
theorem map_at {l : List Int} {i : Nat} {x : V} (h : (l.map V.int)[i]? = some x) : ∃ s, l[i]? = some s ∧ x = .int s := map_atV h
theorem at_map {α : Type} {f : α → V} {l : List α} {i : Nat} {s : α} (h : l[i]? = some s) : (l.map f)[i]? = some (f s) := by
  rw [List.getElem?_map, h]
  rfl
theorem tk1 {α : Type} {l : List α} {i : Nat} {s : α} (h : l[i]? = some s) : l.take (i + 1) = l.take i ++ [s] := by
  rw [List.take_add_one, h]
  rfl
theorem lt_of_at {α : Type} {l : List α} {i : Nat} {s : α} (h : l[i]? = some s) : i < l.length := (List.getElem?_eq_some_iff.mp h).1
theorem seqT_same {K : PySem.W.Frag} {H H' : Hp} {a : Addr} {xs : List V} (e : Same H H') (h : SqT K H a xs) : SqT K H' a xs := by
  rcases h with (h | ⟨o, h⟩) | h
  · exact .inl (.inl (e _ _ h))
  · exact .inl (.inr ⟨o, e _ _ h⟩)
  · exact .inr h
theorem sqT {K : PySem.W.Frag} {H : Hp} {a : Addr} {xs : List V} (h : H a = some (.tup xs)) : SqT K H a xs := .inl (.inl h)
theorem tYI {σ : L2.St} {H : Hp} {A B : Hp → Prop} (h : A H) : tYes σ H (fun b H3 => if b = true then A H3 else B H3) := (show if true = true then A H else B H from iteT h)
/-! ### comprehensions whose items are made without a change of the heap -/
section
variable {K : PySem.W.Frag} {a : Addr} {xs : List V} {g : TG} {tt : TT} {te : TE} {vs : List Nat} {σ : L2.St} {H1 : Hp} {D : Addr} {Qd : Hp → Prop}
theorem lc_mapL (f : Nat → V → V) (hlen : xs.length ≤ 1000) (hS : SqL K H1 a xs) (hD : H1 D = none)
    (hs : ∀ i x H (k : V → Hp → Prop) (n : Hp → Prop), xs[i]? = some x → Same H1 H → k (f i x) H → g x (wipe σ vs) H fun σ2 H2 => wipe σ2 vs = wipe σ vs ∧ tt σ2 H2 fun b H3 => if b = true then te σ2 H3 k else n H3)
    (hd : ∀ H', Same H1 H' → H' D = some (.lst (xs.mapIdx f)) → Qd H') :
    ∃ W : Nat → Nat → Hp → Prop, (∃ m, W 0 m (upd H1 D (.lst []))) ∧ ∀ i m H, W i m H →
      ((Itl K a).stop i H ∧ Qd H) ∨ ((Itl K a).go i H ∧ ∃ Nx : Hp → Prop, (∀ H', Nx H' → ∃ m', m' < m ∧ W (i + 1) m' H') ∧ ∀ x H', (Itl K a).yld i H x H' → g x (wipe σ vs) H' fun σ2 H2 => wipe σ2 vs = wipe σ vs ∧ tt σ2 H2 fun b H3 =>
        if b = true then te σ2 H3 fun y H4 => ∃ acc, H4 D = some (.lst acc) ∧ acc.length < sizeLine ∧ Nx (upd H4 D (.lst (acc ++ [y]))) else Nx H3) := by
  refine lc_list (xs := xs) (fun i H => Same H1 H ∧ H D = some (.lst ((xs.mapIdx f).take i))) ⟨same_new hD _, upd_same⟩ (fun i H _ z => z.1.seq hS) ?_ ?_
  · rintro i x H hx ⟨sm, eD⟩
    have hm : (xs.mapIdx f)[i]? = some (f i x) := by rw [List.getElem?_mapIdx, hx]; rfl
    have hl : ((xs.mapIdx f).take i).length < sizeLine := by
      refine lt_line (Nat.le_trans (List.length_take_le _ _) ?_)
      exact Nat.le_of_lt (Nat.lt_of_lt_of_le (lt_of_at hx) hlen)
    refine hs i x H _ (fun H3 => Same H1 H3 ∧ H3 D = some (.lst ((xs.mapIdx f).take (i + 1)))) hx sm ⟨_, eD, hl, same_upd sm hD _, ?_⟩
    rw [upd_same, tk1 hm]
  · rintro H ⟨sm, eD⟩
    refine hd H sm ?_
    rw [eD, List.take_of_length_le (by rw [List.length_mapIdx]; exact Nat.le_refl _)]
theorem lc_mapT (f : Nat → V → V) (hlen : xs.length ≤ 1000) (hS : SqT K H1 a xs) (hD : H1 D = none)
    (hs : ∀ i x H (k : V → Hp → Prop) (n : Hp → Prop), xs[i]? = some x → Same H1 H → k (f i x) H → g x (wipe σ vs) H fun σ2 H2 => wipe σ2 vs = wipe σ vs ∧ tt σ2 H2 fun b H3 => if b = true then te σ2 H3 k else n H3)
    (hd : ∀ H', Same H1 H' → H' D = some (.lst (xs.mapIdx f)) → Qd H') :
    ∃ W : Nat → Nat → Hp → Prop, (∃ m, W 0 m (upd H1 D (.lst []))) ∧ ∀ i m H, W i m H →
      ((Itt K a).stop i H ∧ Qd H) ∨ ((Itt K a).go i H ∧ ∃ Nx : Hp → Prop, (∀ H', Nx H' → ∃ m', m' < m ∧ W (i + 1) m' H') ∧ ∀ x H', (Itt K a).yld i H x H' → g x (wipe σ vs) H' fun σ2 H2 => wipe σ2 vs = wipe σ vs ∧ tt σ2 H2 fun b H3 =>
        if b = true then te σ2 H3 fun y H4 => ∃ acc, H4 D = some (.lst acc) ∧ acc.length < sizeLine ∧ Nx (upd H4 D (.lst (acc ++ [y]))) else Nx H3) := by
  refine lc_tup (xs := xs) (fun i H => Same H1 H ∧ H D = some (.lst ((xs.mapIdx f).take i))) ⟨same_new hD _, upd_same⟩ (fun i H _ z => seqT_same z.1 hS) ?_ ?_
  · rintro i x H hx ⟨sm, eD⟩
    have hm : (xs.mapIdx f)[i]? = some (f i x) := by rw [List.getElem?_mapIdx, hx]; rfl
    have hl : ((xs.mapIdx f).take i).length < sizeLine := by
      refine lt_line (Nat.le_trans (List.length_take_le _ _) ?_)
      exact Nat.le_of_lt (Nat.lt_of_lt_of_le (lt_of_at hx) hlen)
    refine hs i x H _ (fun H3 => Same H1 H3 ∧ H3 D = some (.lst ((xs.mapIdx f).take (i + 1)))) hx sm ⟨_, eD, hl, same_upd sm hD _, ?_⟩
    rw [upd_same, tk1 hm]
  · rintro H ⟨sm, eD⟩
    refine hd H sm ?_
    rw [eD, List.take_of_length_le (by rw [List.length_mapIdx]; exact Nat.le_refl _)]
theorem range_at {n i : Nat} (h : i < n) : (List.range n)[i]? = some i := by rw [List.getElem?_range h]
theorem lc_mapR {n : Nat} (f : Nat → V) (hlen : n ≤ 1000) (hD : H1 D = none)
    (hs : ∀ i H (k : V → Hp → Prop) (nn : Hp → Prop), i < n → Same H1 H → k (f i) H → g (.int (0 + i)) (wipe σ vs) H fun σ2 H2 => wipe σ2 vs = wipe σ vs ∧ tt σ2 H2 fun b H3 => if b = true then te σ2 H3 k else nn H3)
    (hd : ∀ H', Same H1 H' → H' D = some (.lst ((List.range n).map f)) → Qd H') :
    ∃ W : Nat → Nat → Hp → Prop, (∃ m, W 0 m (upd H1 D (.lst []))) ∧ ∀ i m H, W i m H →
      ((Itr 0 n).stop i H ∧ Qd H) ∨ ((Itr 0 n).go i H ∧ ∃ Nx : Hp → Prop, (∀ H', Nx H' → ∃ m', m' < m ∧ W (i + 1) m' H') ∧ ∀ x H', (Itr 0 n).yld i H x H' → g x (wipe σ vs) H' fun σ2 H2 => wipe σ2 vs = wipe σ vs ∧ tt σ2 H2 fun b H3 =>
        if b = true then te σ2 H3 fun y H4 => ∃ acc, H4 D = some (.lst acc) ∧ acc.length < sizeLine ∧ Nx (upd H4 D (.lst (acc ++ [y]))) else Nx H3) := by
  refine lc_range (lo := 0) (n := n) (fun i H => i ≤ n ∧ Same H1 H ∧ H D = some (.lst ((List.range i).map f))) ⟨Nat.zero_le _, same_new hD _, upd_same⟩ ?_ ?_
  · rintro i H hi ⟨_, sm, eD⟩
    have hl : ((List.range i).map f).length < sizeLine := by
      rw [List.length_map, List.length_range]
      exact lt_line (by omega)
    refine hs i H _ (fun H3 => i + 1 ≤ n ∧ Same H1 H3 ∧ H3 D = some (.lst ((List.range (i + 1)).map f))) hi sm ⟨_, eD, hl, by omega, same_upd sm hD _, ?_⟩
    rw [upd_same, List.range_succ, List.map_append]
    rfl
  · rintro H ⟨_, sm, eD⟩
    exact hd H sm eD
/-- items that are new objects, over a range -/
theorem lc_newR {n : Nat} (c : Nat → HO) (hlen : n ≤ 1000) (hD : H1 D = none)
    (hs : ∀ i H (k : V → Hp → Prop) (nn : Hp → Prop), i < n → Same H1 H → (∀ p H', Same H H' → H p = none → H' p = some (c i) → k (.ref p) H') → g (.int (0 + i)) (wipe σ vs) H fun σ2 H2 => wipe σ2 vs = wipe σ vs ∧ tt σ2 H2 fun b H3 => if b = true then te σ2 H3 k else nn H3)
    (hd : ∀ H' ps, Same H1 H' → H' D = some (.lst (ps.map V.ref)) → Paired (fun p i => H1 p = none ∧ p ≠ D ∧ H' p = some (c i)) ps (List.range n) → Qd H') :
    ∃ W : Nat → Nat → Hp → Prop, (∃ m, W 0 m (upd H1 D (.lst []))) ∧ ∀ i m H, W i m H →
      ((Itr 0 n).stop i H ∧ Qd H) ∨ ((Itr 0 n).go i H ∧ ∃ Nx : Hp → Prop, (∀ H', Nx H' → ∃ m', m' < m ∧ W (i + 1) m' H') ∧ ∀ x H', (Itr 0 n).yld i H x H' → g x (wipe σ vs) H' fun σ2 H2 => wipe σ2 vs = wipe σ vs ∧ tt σ2 H2 fun b H3 =>
        if b = true then te σ2 H3 fun y H4 => ∃ acc, H4 D = some (.lst acc) ∧ acc.length < sizeLine ∧ Nx (upd H4 D (.lst (acc ++ [y]))) else Nx H3) := by
  refine lc_range (lo := 0) (n := n) (fun i H => i ≤ n ∧ Same H1 H ∧ ∃ ps : List Addr, H D = some (.lst (ps.map V.ref)) ∧ Paired (fun p i => H1 p = none ∧ p ≠ D ∧ H p = some (c i)) ps (List.range i)) ⟨Nat.zero_le _, same_new hD _, [], upd_same, .nil⟩ ?_ ?_
  · rintro i H hi ⟨_, sm, ps, eD, pw⟩
    have lp : ps.length = i := by rw [pw.length, List.length_range]
    refine hs i H _ (fun H3 => i + 1 ≤ n ∧ Same H1 H3 ∧ ∃ ps : List Addr, H3 D = some (.lst (ps.map V.ref)) ∧ Paired (fun p i => H1 p = none ∧ p ≠ D ∧ H3 p = some (c i)) ps (List.range (i + 1))) hi sm fun p H' s' hp e' => ⟨_, s' _ _ eD, ?_, by omega, same_upd (sm.trans s') hD _, ps ++ [p], ?_, ?_⟩
    · rw [List.length_map, lp]; exact lt_line (by omega)
    · rw [upd_same, List.map_append]; rfl
    · rw [List.range_succ]
      have hpD : p ≠ D := fun z => by rw [z, eD] at hp; cases hp
      refine (L2.Paired.mapP pw fun b j z => ⟨z.1, z.2.1, by rw [upd_ne z.2.1]; exact s' _ _ z.2.2⟩).snoc ⟨sm.free hp, hpD, by rw [upd_ne hpD]; exact e'⟩
  · rintro H ⟨_, sm, ps, eD, pw⟩
    exact hd H ps sm eD pw
/-- items that are new objects, over a list -/
theorem lc_newL (R : Nat → V → HO → Prop) (hlen : xs.length ≤ 1000) (hS : SqL K H1 a xs) (hD : H1 D = none)
    (hs : ∀ i x H (k : V → Hp → Prop) (nn : Hp → Prop), xs[i]? = some x → Same H1 H → (∀ p o H', Same H H' → H p = none → H' p = some o → R i x o → k (.ref p) H') → g x (wipe σ vs) H fun σ2 H2 => wipe σ2 vs = wipe σ vs ∧ tt σ2 H2 fun b H3 => if b = true then te σ2 H3 k else nn H3)
    (hd : ∀ H' (ps : List Addr), Same H1 H' → H' D = some (.lst (ps.map V.ref)) → ps.length = xs.length → (∀ i p x, ps[i]? = some p → xs[i]? = some x → ∃ o, H1 p = none ∧ p ≠ D ∧ H' p = some o ∧ R i x o) → Qd H') :
    ∃ W : Nat → Nat → Hp → Prop, (∃ m, W 0 m (upd H1 D (.lst []))) ∧ ∀ i m H, W i m H →
      ((Itl K a).stop i H ∧ Qd H) ∨ ((Itl K a).go i H ∧ ∃ Nx : Hp → Prop, (∀ H', Nx H' → ∃ m', m' < m ∧ W (i + 1) m' H') ∧ ∀ x H', (Itl K a).yld i H x H' → g x (wipe σ vs) H' fun σ2 H2 => wipe σ2 vs = wipe σ vs ∧ tt σ2 H2 fun b H3 =>
        if b = true then te σ2 H3 fun y H4 => ∃ acc, H4 D = some (.lst acc) ∧ acc.length < sizeLine ∧ Nx (upd H4 D (.lst (acc ++ [y]))) else Nx H3) := by
  refine lc_list (xs := xs) (fun i H => Same H1 H ∧ ∃ ps : List Addr, H D = some (.lst (ps.map V.ref)) ∧ ps.length = i ∧ ∀ j p x, ps[j]? = some p → xs[j]? = some x → ∃ o, H1 p = none ∧ p ≠ D ∧ H p = some o ∧ R j x o) ⟨same_new hD _, [], upd_same, rfl, fun j p x e => by simp at e⟩ (fun i H _ z => z.1.seq hS) ?_ ?_
  · rintro i x H hx ⟨sm, ps, eD, lp, pw⟩
    refine hs i x H _ (fun H3 => Same H1 H3 ∧ ∃ ps : List Addr, H3 D = some (.lst (ps.map V.ref)) ∧ ps.length = i + 1 ∧ ∀ j p x, ps[j]? = some p → xs[j]? = some x → ∃ o, H1 p = none ∧ p ≠ D ∧ H3 p = some o ∧ R j x o) hx sm fun p o H' s' hp e' r => ⟨_, s' _ _ eD, ?_, same_upd (sm.trans s') hD _, ps ++ [p], ?_, ?_, ?_⟩
    · rw [List.length_map, lp]; exact lt_line (Nat.le_of_lt (Nat.lt_of_lt_of_le (lt_of_at hx) hlen))
    · rw [upd_same, List.map_append]; rfl
    · rw [List.length_append, lp]; rfl
    · intro j q y hq hy
      have hpD : p ≠ D := fun z => by rw [z, eD] at hp; cases hp
      by_cases hj : j < i
      · rw [List.getElem?_append_left (by omega)] at hq
        obtain ⟨o2, z1, z2, z3, z4⟩ := pw j q y hq hy
        exact ⟨o2, z1, z2, by rw [upd_ne z2]; exact s' _ _ z3, z4⟩
      · have hji : j = i := by
          have := lt_of_at hq
          rw [List.length_append, lp] at this
          simp only [List.length_cons, List.length_nil] at this
          omega
        subst hji
        rw [List.getElem?_append_right (by omega), lp, Nat.sub_self] at hq
        simp at hq
        subst hq
        rw [hx] at hy
        cases hy
        exact ⟨o, sm.free hp, hpD, by rw [upd_ne hpD]; exact e', r⟩
  · rintro H ⟨sm, ps, eD, lp, pw⟩
    exact hd H ps sm eD lp pw
end
/-! ### max(t, default=d) of a tuple of ints -/
section
variable {X : Cx}
theorem depth_ints : ∀ ns : List Int, PyData.depthAll (ns.map PyData.int) = 0
  | [] => rfl
  | n :: ns => by
    rw [List.map_cons]
    show max (PyData.depth (.int n)) (PyData.depthAll (ns.map PyData.int)) = 0
    rw [depth_ints ns]
    rfl
theorem dp_ints {K : PySem.W.Frag} {H : Hp} : ∀ ns : List Int, DpAll K H (ns.map V.int) (ns.map PyData.int)
  | [] => .nil
  | n :: ns => .cons (.int n) (dp_ints ns)
theorem alike_ints (ns : List Int) : PySem.W.AlikeAll (ns.map PyData.int) := by
  constructor
  · intro x hx y hy
    obtain ⟨i, _, rfl⟩ := List.mem_map.mp hx
    obtain ⟨j, _, rfl⟩ := List.mem_map.mp hy
    rfl
  · intro x hx e
    obtain ⟨i, _, rfl⟩ := List.mem_map.mp hx
    cases e
theorem foldl_max_ge (l : List Int) : ∀ a : Int, a ≤ l.foldl max a ∧ (∀ y ∈ l, y ≤ l.foldl max a) ∧ (l.foldl max a = a ∨ l.foldl max a ∈ l) := by
  induction l with
  | nil => exact fun a => ⟨Int.le_refl _, fun y h => (nomatch h), .inl rfl⟩
  | cons b l ih =>
    intro a
    obtain ⟨h1, h2, h3⟩ := ih (max a b)
    have e : (b :: l).foldl max a = l.foldl max (max a b) := rfl
    rw [e]
    refine ⟨by omega, fun y hy => ?_, ?_⟩
    · rcases List.mem_cons.mp hy with rfl | hy
      · omega
      · exact h2 y hy
    · rcases h3 with h3 | h3
      · by_cases c : a ≤ b
        · right; rw [h3, Int.max_eq_right c]; exact List.mem_cons_self
        · left; rw [h3, Int.max_eq_left (by omega)]
      · right; exact List.mem_cons_of_mem _ h3
def rMaxDef (K : PySem.W.Frag) : List V → List V → Hp → VK → Prop := fun vs zs H Q => ∃ (a : Addr) (ns : List Int) (d : Int), vs = [.ref a] ∧ zs = [.int d] ∧ SqT K H a (ns.map V.int) ∧
  (ns = [] → Q (.int d) H) ∧ ∀ m, m ∈ ns → (∀ y ∈ ns, y ≤ m) → Q (.int m) H
theorem cr_maxDef (hc : X.calm = true) (hu : X.A.units + 2 < cLine) : CallRK X (.builtin "max") [Str.ofString "default"] (rMaxDef X.K) := by
  intro pins s σ H vs zs us ws Q I r rz h
  obtain ⟨a, ns, d, rfl, rfl, hT, q0, q⟩ := h
  obtain ⟨its, rv, hl, hz⟩ := I.tuple hT
  obtain ⟨as, ra⟩ := Dp.readsAll I (ns.map PyData.int) (ns.map V.int) its (dp_ints ns) rv
  rw [Vals.ref1 r]
  obtain ⟨u0, e0, r0⟩ : ∃ u0, ws = [u0] ∧ RelV (.int d) u0 := by
    cases rz with
    | cons h t =>
      cases t
      exact ⟨_, rfl, h⟩
  subst e0
  show wpAny (model X.prog X.w) X.A (call (.builtin "max") [.ref a] [(Str.ofString "default", u0)]) (EP X pins σ Q) X.xe s
  refine PySem.W.max_tuple_default (I.ok.hd hc) hl ra (alike_ints ns) (by rw [depth_ints]; omega) (fun e h' tk hk => ?_) (fun y ys i v h' tk bs e hi hr hk => ?_)
  · exact ⟨.int d, H, I.kept hk, r0, q0 (List.map_eq_nil_iff.mp e)⟩
  · cases ns with
    | nil => cases e
    | cons n ns =>
      rw [List.map_cons] at e
      injection e with e1 e2
      subst e1
      subst e2
      rw [PySem.W.maxD_ints] at hr
      cases hr with
      | int j t =>
        obtain ⟨h1, h2, h3⟩ := foldl_max_ge ns n
        refine ⟨.int _, H, I.kept hk, ⟨_, rfl⟩, q _ ?_ ?_⟩
        · rcases h3 with h3 | h3
          · rw [h3]; exact List.mem_cons_self
          · exact List.mem_cons_of_mem _ h3
        · intro y hy
          rcases List.mem_cons.mp hy with rfl | hy
          · exact h1
          · exact h2 y hy
end
end GM
set_option Elab.async false
set_option linter.all false
set_option maxRecDepth 100000
set_option maxHeartbeats 4000000
namespace GM
open PySem PySem.Spec PyProof.Rows L2
theorem tuple_mul1 (l : Addr) (items : Array Value) (n : Nat) (dd : Option Addr) (sl : Array (Option Value)) (u : Tok) :
    Meets (Builtin.«tuple.__mul__» ⟨[.ref l, .int 1 u], []⟩) (fun _ R s => s.heap.get? l = some { cls := .type "tuple", dict := dd, data := .seq items n, slots := sl } ∧
      R (.ok (.ret (Value.ref l))) s) :=
  .of_wp fun prog w A R s h => by
    obtain ⟨hp, g, d, tk, os⟩ := s
    obtain ⟨hl, h⟩ := h
    have f1 := AutoSeq1.idx_int
    wp_walk using wpAny_loadPart' hl
    repeat (first
      | (refine wpAny_ite_false (by decide) ?_; wp_walk using wpAny_loadPart' hl)
      | (refine wpAny_ite_true (by cases items.isEmpty <;> rfl) ?_; wp_walk using wpAny_loadPart' hl))
    exact ⟨_, rfl, h⟩
/-- a tuple once: itself -/
def rRepT1 (K : PySem.W.Frag) : R2 := fun x y H Q => ∃ l xs, x = .ref l ∧ y = .int 1 ∧ SqT K H l xs ∧ Q (.ref l) H
section
variable {X : Cx}
theorem op_repT1 : OpR X (binaryOp .Mult) (rRepT1 X.K) := by
  intro pins s σ H x y v u Q I rx ry h
  obtain ⟨l, xs, rfl, rfl, hT, q⟩ := h
  cases rx
  obtain ⟨t, rfl⟩ := ry
  obtain ⟨its, r, ⟨⟨cls, dd, data, sl⟩, ho, hc, n, hd⟩, hs⟩ := I.tuple hT
  simp only at hc hd
  subst hc hd
  refine wpAny_binaryOp_repeat_ref (T := "tuple") (U := "int") (by decide) ⟨_, ho, rfl⟩ (fun s' => typeIs_int s' 1 t) noFill_tuple_mul F.fills_int_mul F.slot_int_rmul repeat_tuple F.slot_int_index.lookup
    (call_meets F.slot_int_rmul (typeIs_int s 1 t) F.entry_int_rmul (F.args_int_rmul_2 _ _) (int_rmul_tuple 1 t l its.toArray n dd sl)
      ⟨ho, rfl, ⟨_, ho, rfl⟩, call_meets F.slot_tuple_mul ⟨_, ho, rfl⟩ F.entry_tuple_mul (F.args_tuple_mul_2 _ _) (tuple_mul1 l its.toArray n dd sl t) ⟨ho, ?_⟩⟩)
  exact ⟨.ref l, H, I, rfl, q⟩
end
/-- the built-ins that the module doesn't name anew -/
structure Blt (mg : Str → Option Value) : Prop where
  len : mg "len" = none
  isinstance : mg "isinstance" = none
  int : mg "int" = none
  bool : mg "bool" = none
  range : mg "range" = none
  tuple : mg "tuple" = none
  list : mg "list" = none
  max : mg "max" = none
  min : mg "min" = none
  sorted : mg "sorted" = none
  enumerate : mg "enumerate" = none
  set : mg "set" = none
end GM
set_option Elab.async false
set_option linter.all false
set_option maxRecDepth 100000
set_option maxHeartbeats 4000000
namespace GM
open PySem PySem.Spec PyProof.Rows L2
/-! ### cuts, sums of tuples, equal data -/
theorem slA {K : PySem.W.Frag} {H : Hp} {a : Addr} {xs : List V} {lo hi : Option Int} {Q : V → Hp → Prop} (e : H a = some (.tup xs)) (k : ∀ r H', Same H H' → H' r = some (.tup (cutV xs lo hi)) → Q (.ref r) H') : rSlA K (.ref a) lo hi H Q := by
  refine ⟨a, xs, rfl, sqT e, fun h => k a H (.refl _) ?_, fun _ p hp => k p _ (same_new hp _) upd_same⟩
  rw [e]
  unfold cutV
  rw [h.1, h.2, List.drop_zero, Nat.sub_zero, List.take_length]
theorem catA2 {K : PySem.W.Frag} {H : Hp} {a b : Addr} {xs ys : List V} {Q : V → Hp → Prop} (ea : H a = some (.tup xs)) (eb : H b = some (.tup ys)) (hl : xs.length + ys.length ≤ sizeLine) (k : ∀ r H', Same H H' → H' r = some (.tup (xs ++ ys)) → Q (.ref r) H') : rCatA K (.ref a) (.ref b) H Q := by
  refine ⟨a, b, xs, ys, rfl, rfl, sqT ea, sqT eb, hl, fun h => k b H (.refl _) ?_, fun _ h => k a H (.refl _) ?_, fun _ _ p hp => k p _ (same_new hp _) upd_same⟩
  · rw [h]; exact eb
  · rw [h, List.append_nil]; exact ea
theorem cut_hi (xs : List V) (j : Nat) : cutV xs none (some (j : Int)) = xs.take j := by
  unfold cutV
  have e1 : HT.sIx xs.length xs.length (some (j : Int)) = min j xs.length := HT.sIx_nat xs.length xs.length j
  rw [e1, HT.sIx_none, List.drop_zero, Nat.sub_zero]
  by_cases h : j ≤ xs.length
  · rw [Nat.min_eq_left h]
  · rw [Nat.min_eq_right (by omega), List.take_length, List.take_of_length_le (by omega)]
theorem cut_lo (xs : List V) (j : Nat) : cutV xs (some (j : Int)) none = xs.drop j := by
  unfold cutV
  have e1 : HT.sIx xs.length 0 (some (j : Int)) = min j xs.length := HT.sIx_nat xs.length 0 j
  rw [e1, HT.sIx_none]
  by_cases h : j ≤ xs.length
  · rw [Nat.min_eq_left h, ← List.length_drop, List.take_length]
  · rw [Nat.min_eq_right (by omega), Nat.sub_self, List.take_zero, List.drop_of_length_le (by omega)]
theorem cut_mid (xs : List V) (i k : Nat) (h : i + k ≤ xs.length) : cutV xs (some (i : Int)) (some ((i + k : Nat) : Int)) = (xs.drop i).take k := by
  unfold cutV
  have e1 : HT.sIx xs.length 0 (some (i : Int)) = min i xs.length := HT.sIx_nat xs.length 0 i
  have e2 : HT.sIx xs.length xs.length (some ((i + k : Nat) : Int)) = min (i + k) xs.length := HT.sIx_nat xs.length xs.length (i + k)
  rw [e1, e2, Nat.min_eq_left h, Nat.min_eq_left (show i ≤ xs.length by omega), Nat.add_sub_cancel_left]
theorem eqv_ints : ∀ ns : List Int, PyData.eqvAll (ns.map PyData.int) (ns.map PyData.int) = true
  | [] => rfl
  | n :: ns => by
    rw [List.map_cons, PyData.eqvAll, eqv_ints ns, Bool.and_true]
    simp [PyData.eqv]
theorem eqv_lst (ns : List Int) : PyData.eqv (.list (ns.map PyData.int)) (.list (ns.map PyData.int)) = true := by
  rw [PyData.eqv]; exact eqv_ints ns
theorem all_list {f : Tr → PyData} {N : Nat} (h : ∀ t, (f t).canLay0 = true ∧ (f t).depth ≤ N) : ∀ l : List Tr, PyData.canLayAll0 (l.map f) = true ∧ PyData.depthAll (l.map f) ≤ N
  | [] => ⟨rfl, Nat.zero_le _⟩
  | t :: l => by
    obtain ⟨i1, i2⟩ := all_list h l
    obtain ⟨h1, h2⟩ := h t
    rw [List.map_cons]
    refine ⟨?_, ?_⟩
    · show ((f t).canLay0 && PyData.canLayAll0 (l.map f)) = true
      rw [h1, i1]; rfl
    · show max (f t).depth (PyData.depthAll (l.map f)) ≤ N
      omega
theorem shape_ints (ns : List Int) : PySem.SeqAt.shaped (.list (ns.map PyData.int)) = true := by
  obtain ⟨i1, i2⟩ := all_list (f := PyData.int) (N := 0) (fun t => ⟨rfl, Nat.le_refl _⟩) ns
  unfold PySem.SeqAt.shaped
  rw [show (PyData.list (ns.map PyData.int)).canLay0 = true from i1, decide_eq_true (show (PyData.list (ns.map PyData.int)).depth ≤ 64 by show PyData.depthAll _ + 1 ≤ _; omega)]
  rfl
theorem dp_lst {K : PySem.W.Frag} {H : Hp} {a : Addr} {ns : List Int} (e : H a = some (.lst (ns.map V.int))) : Dp K H (.ref a) (.list (ns.map PyData.int)) := .lst (SqL.of e) (dp_ints ns)
end GM
set_option Elab.async false
set_option linter.all false
set_option maxRecDepth 100000
set_option maxHeartbeats 4000000
set_option pp.maxSteps 200
namespace GM
open PySem PySem.Spec PyProof.Rows L2
/-! ### enumerate(v) of whatever begins -/
theorem new_enum1 {v : Value} {o : Obj} {B0 : Heap → Prop} (B : Begins v o B0) :
    Meets (Builtin.«enumerate.__new__» ⟨[.type "enumerate", v], []⟩) (fun _ R s => B0 s.heap ∧ R (.ok (.ret (.ref (s.heap.push o).objs.size)))
      { s with heap := (s.heap.push o).push { cls := .type "enumerate", data := .fields #[.none, .bool false, .ref s.heap.objs.size, rawInt 0, .none, .none] } }) :=
  .of_wp fun prog w A R s h => by
    rcases s with ⟨hp, g, d, tk, os⟩
    have begun := fun (A' : Around) (E' : Value → Shared → Prop) (Q' : Value → Shared → Prop) q => B.iter prog w A' E' ⟨hp, g, d, tk, os⟩ Q' h.1 q
    have hsub := sub_enumerate
    wp_walk
    refine wpAny_stack_any fun st => wpAny_pure ?_
    split
    · rename_i c _ _ _ _ _
      cases (c == Value.type "enumerate") <;> (wp_walk using begun; exact ⟨_, rfl, h.2⟩)
    · wp_walk using begun
      exact ⟨_, rfl, h.2⟩
section
variable {prog : Program} {w : World} {A : Around} {E : Value → Shared → Prop} {s : Shared}
theorem run_enum1 {v : Value} {o : Obj} {B0 : Heap → Prop} {Q : Value → Shared → Prop} (B : Begins v o B0) (h0 : B0 s.heap)
    (h : ∀ h', IsEnum h' (s.heap.objs.size + 1) s.heap.objs.size 0 .none → h'.get? s.heap.objs.size = some o → (∀ b u, s.heap.get? b = some u → h'.get? b = some u) → Q (.ref (s.heap.objs.size + 1)) { s with heap := h' }) :
    wpAny (model prog w) A (call (.type "enumerate") [v]) Q E s := by
  refine callType_new F.called_enumerate (by decide) (F.typeCall_enumerate_1 _) (F.newCall_enumerate_1 _) (fun obj => F.args_object_init_2 obj _) F.entry_enumerate_new (new_enum1 B) ⟨h0, ?_⟩
  have at2 : ∀ o' : Obj, o'.isFreed = false → ((s.heap.push o).push o').get? (s.heap.objs.size + 1) = some o' := fun o' f => by
    rw [← Heap.size_push s.heap o]; exact Heap.get?_push_size _ f
  rw [Heap.size_push]
  exact ⟨⟨_, at2 _ rfl, rfl⟩, h _ (at2 _ rfl) (Heap.get?_push_of_some _ (Heap.get?_push_size _ B.free)) fun b u e => Heap.get?_push_of_some _ (Heap.get?_push_of_some _ e)⟩
end
/-- the pairs of enumerate over the tuple xs at a -/
def Iet (K : PySem.W.Frag) (a : Addr) (xs : List V) : It where
  go := fun i H => SqT K H a xs ∧ i < xs.length
  yld := fun i H v H' => ∃ T x, v = .ref T ∧ H T = none ∧ H' = upd H T (.tup [.int (i : Nat), x]) ∧ xs[i]? = some x
  stop := fun i H => SqT K H a xs ∧ xs.length ≤ i
theorem cls_ne {h : Heap} {a b : Addr} {o u : Obj} (ha : h.get? a = some o) (hb : h.get? b = some u) (hc : o.cls ≠ u.cls) : a ≠ b := by
  rintro rfl
  cases ha.symm.trans hb
  exact hc rfl
theorem turn_et {P : Program} {w : World} {K : PySem.W.Frag} {elts : List Expr} {kk : Nat} {tpos : Pos} (a : Addr) (xs : List V) (e it : Addr) (ne : e ≠ it) :
    Turn P w K (.Tuple elts kk tpos) (Iet K a xs) [e, it] e (fun i h => i ≤ xs.length ∧ (∃ old, IsEnum h e it ((i : Nat) : Int) old) ∧ h.IsTupleIter it a i) := by
  have two : ∀ {b : Addr}, b ∈ [e, it] → b = e ∨ b = it := fun h => by simpa using h
  refine ⟨by simp, ?_, ?_, ?_, ?_, ?_⟩
  · rintro i h ⟨_, ⟨old, he⟩, o, ho, _, hd⟩ b hb
    rcases two hb with rfl | rfl
    · exact ⟨_, he, fun v q => nomatch q⟩
    · exact ⟨o, ho, fun v q => by rw [hd] at q; cases q⟩
  · rintro i h h' ⟨hi, ⟨old, he⟩, hit⟩ k
    exact ⟨hi, ⟨old, k e (by simp) _ he⟩, hit.at fun o q => k it (by simp) o q⟩
  · rintro X rfl rfl rfl hc i pins s σ H E I hf ⟨hi, ⟨old, he⟩, hit⟩ ⟨hq, hlt⟩
    obtain ⟨its, rv, p, _⟩ := I.tuple hq
    obtain ⟨op, hop, hcp, np, hdp⟩ := id p
    obtain ⟨oi, hoi, hci, hdi⟩ := id hit
    have e1 : a ≠ it := cls_ne hop hoi (by rw [hcp, hci]; decide)
    have e2 : e ≠ a := cls_ne he hop (by rw [hcp]; show Value.type "enumerate" ≠ Value.type "tuple"; decide)
    obtain ⟨u, hu, ru⟩ := rv.get (List.getElem?_eq_getElem hlt)
    have D := Draws.tuple (prog := X.prog) (w := X.w) (A := X.A.in1) (I.ok.hd hc) it a e1 its.toArray
    have hsz : i < its.toArray.size := by rw [List.size_toArray, ← rv.length]; exact hlt
    refine wpAny_pyNext_enum_itemD D he ⟨hit, p⟩ hsz ne (by simp [ne, e2]) fun x h1 tk hP hout hst hT _ hk => ⟨_, rfl, ?_⟩
    obtain rfl : u = x := by
      have hP' : its.toArray[i]? = some x := hP
      rw [List.getElem?_toArray, hu] at hP'
      exact Option.some.inj hP'
    have lte : e < s.heap.objs.size := Heap.lt_size he
    have lti : it < s.heap.objs.size := Heap.lt_size hoi
    have fr : H s.heap.objs.size = none := I.hok.fresh (Nat.le_refl _)
    refine wpAny_letOwnedTupleGo_enum (s := { s with heap := h1, toks := tk + 1 }) hout fun h2 he2 sb => ?_
    have out : ∀ b, b ≠ e → h2.get? b = h1.get? b := fun b hb => sb.2 b hb
    have nt : ObjOk X.prog X.w (upd H s.heap.objs.size (.tup [.int (i : Nat), xs[i]])) h2 s.heap.objs.size (.tup [.int (i : Nat), xs[i]]) :=
      ⟨(by decide : 2 ≤ sizeLine), [.int i tk, u], .cons ⟨_, rfl⟩ (.cons ru .nil), ⟨_, (out _ (Nat.ne_of_gt lte)).trans hT, rfl, _, rfl⟩⟩
    refine ⟨.ref s.heap.objs.size, _, I.turnedNew (t' := tk + 1) (ch := [e, it]) (fun b ob hb q => ?_) hf (Nat.le_refl _) nt, rfl, ⟨_, _, rfl, fr, rfl, List.getElem?_eq_getElem hlt⟩, ⟨hlt, ⟨u, ?_⟩, ?_⟩, fun b hb => ?_⟩
    · have hb1 : b ≠ e := fun z => hb (by simp [z])
      have hb2 : b ≠ it := fun z => hb (by simp [z])
      exact (out b hb1).trans (hk b ob hb1 hb2 q)
    · rw [Int.natCast_succ]; exact he2
    · exact hst.1.at fun o q => (out it ne.symm).trans q
    · have hb' : b ≠ s.heap.objs.size := by
        rcases two hb with rfl | rfl
        · exact Nat.ne_of_lt lte
        · exact Nat.ne_of_lt lti
      rw [upd_ne hb']
      exact (hf b hb).1
  · rintro X rfl rfl rfl hc i pins s σ H E I hf ⟨hi, ⟨old, he⟩, hit⟩ ⟨hq, hge⟩
    obtain ⟨its, rv, p, _⟩ := I.tuple hq
    obtain ⟨op, hop, hcp, np, hdp⟩ := id p
    obtain ⟨oi, hoi, hci, hdi⟩ := id hit
    have e1 : a ≠ it := cls_ne hop hoi (by rw [hcp, hci]; decide)
    have D := Draws.tuple (prog := X.prog) (w := X.w) (A := X.A.in1) (I.ok.hd hc) it a e1 its.toArray
    obtain rfl : i = its.toArray.size := by rw [List.size_toArray, ← rv.length]; omega
    obtain ⟨g0, g1, _, g3, g4, g5⟩ := hf it (by simp)
    exact wpAny_pyNext_enum_endD D he ⟨hit, p⟩ fun h1 eb => ⟨rfl, I.turned (t' := s.toks) (fun b o hb q => eb b o hb q) g0 g1 g3 g4 g5⟩
  · rintro A i s Q E ⟨_, ⟨old, he⟩, _⟩ h
    exact wpAny_pyIter_enum he h
def iEnumT (K : PySem.W.Frag) (ta : TA) : TI := fun σ H R => ta σ H fun vs H1 => ∃ a xs, vs = [.ref a] ∧ SqT K H1 a xs ∧ R (Iet K a xs) H1
theorem pi_enumT {X : Cx} {e : Expr} {ta : TA} {p pos tpos : Pos} {elts : List Expr} {kk : Nat} (hg : Gl X "enumerate") (hm : X.mg "enumerate" = none) (ha : PA X [e] ta) (hs : starEach [e] X.env = [(false, eval e X.env)] := by rfl) :
    PI X (.Tuple elts kk tpos) (.Call (.Name "enumerate" p) [e] [] pos) (iEnumT X.K ta) := by
  constructor
  intro pins s σ H R I h
  refine Call_ (ld_blt I hg hm boot_enumerate (PyProof.Rows.callWith_type1 (thn (ha.run pos pins s σ H _ I h) ?_) hs rfl))
  rintro us s1 ⟨vs, H1, I1, r1, a, xs, rfl, hq, q⟩
  rw [Vals.ref1 r1]
  obtain ⟨its, rv, pt, _⟩ := I1.tuple hq
  refine run_enum1 (begins_tuple a its.toArray) pt fun h1 he hit hk => wpAny_pyIter_enum he ?_
  refine ⟨_, [s1.heap.objs.size + 1, s1.heap.objs.size], _, _, H1, rfl, I1.kept (t' := s1.toks) hk, turn_et a xs _ _ (Nat.succ_ne_self _), ⟨Nat.zero_le _, ⟨.none, he⟩, ⟨_, hit, rfl, rfl⟩⟩, fun b hb => ?_, q⟩
  have hle : s1.heap.objs.size ≤ b := by
    rcases (show b = s1.heap.objs.size + 1 ∨ b = s1.heap.objs.size by simpa using hb) with rfl | rfl
    · exact Nat.le_succ _
    · exact Nat.le_refl _
  exact I1.fpOk hle (I1.hok.fresh hle)
theorem for_et {K : PySem.W.Frag} {a : Addr} {xs : List V} {g : TG} {tb : TS} {D : Ends} {σ : L2.St} {H : Hp} (Pv : Nat → L2.St → Hp → Prop) (h0 : Pv 0 σ H) (hl : ∀ i σ H, i ≤ xs.length → Pv i σ H → SqT K H a xs)
    (hs : ∀ i x T σ H, xs[i]? = some x → Pv i σ H → H T = none → g (.ref T) σ (upd H T (.tup [.int (i : Nat), x])) fun σ2 H2 => tb { D with nx := Pv (i + 1), ct := Pv (i + 1), bk := D.nx } σ2 H2) (hd : ∀ σ H, Pv xs.length σ H → D.nx σ H) :
    ∃ W : Nat → Nat → L2.St → Hp → Prop, (∃ m, W 0 m σ H) ∧ ∀ i m σ H, W i m σ H →
      ((Iet K a xs).stop i H ∧ D.nx σ H) ∨ ((Iet K a xs).go i H ∧ ∃ N : L2.St → Hp → Prop, (∀ σ' H', N σ' H' → ∃ m', m' < m ∧ W (i + 1) m' σ' H') ∧ ∀ x H', (Iet K a xs).yld i H x H' → g x σ H' fun σ2 H2 => tb { D with nx := N, ct := N, bk := D.nx } σ2 H2) := by
  refine ⟨fun i m σ H => i + m = xs.length ∧ Pv i σ H, ⟨xs.length, Nat.zero_add _, h0⟩, ?_⟩
  rintro i m σ H ⟨hm, p⟩
  cases m with
  | zero =>
    have e : i = xs.length := hm
    rw [e] at p ⊢
    exact .inl ⟨⟨hl _ σ H (Nat.le_refl _) p, Nat.le_refl _⟩, hd σ H p⟩
  | succ m =>
    refine .inr ⟨⟨hl i σ H (by omega) p, by omega⟩, Pv (i + 1), fun σ' H' p' => ⟨m, Nat.lt_succ_self _, by omega, p'⟩, ?_⟩
    rintro _ _ ⟨T, x, rfl, hT, rfl, hx⟩
    exact hs i x T σ H hx p hT
/-! ### a set of ints, made of a list or a tuple -/
def SetI (P : Program) (w : World) (a : Addr) (ns : List Int) : HO := .ext fun h => ∃ n, h.SetOf (intKind P w) a (fun j => decide (j ∈ ns)) n
section
variable {X : Cx}
def rSetI (K : PySem.W.Frag) (P : Program) (w : World) : List V → Hp → VK → Prop := fun vs H Q => ∃ (a : Addr) (ns : List Int), vs = [.ref a] ∧ (SqL K H a (ns.map V.int) ∨ SqT K H a (ns.map V.int)) ∧ ns.length ≤ 900 ∧
  ∀ p : Addr, H p = none → Q (.ref p) (upd H p (SetI P w p ns))
theorem setI_ok {P : Program} {w : World} {H : Hp} {h : Heap} {a : Addr} {ns : List Int} {n : Nat} (R : h.SetOf (intKind P w) a (fun j => decide (j ∈ ns)) n) : ObjOk P w H h a (SetI P w a ns) := by
  have ⟨o, _, _, _, ho, _⟩ := R
  refine ⟨⟨n, R⟩, ⟨o, ho⟩, ?_⟩
  rintro h1 h2 ⟨m, o1, es, ep, t, e1, r⟩ k
  exact ⟨m, o1, es, ep, t, k _ e1, r⟩
theorem cr_setI (hc : X.calm = true) : CallR X (.type "set") (rSetI X.K X.prog X.w) := by
  intro pins s σ H vs us Q I r h
  obtain ⟨a, ns, rfl, hs, hl, q⟩ := h
  rw [Vals.ref1 r]
  have hd := I.ok.hd hc
  have fr : H s.heap.objs.size = none := I.hok.fresh (Nat.le_refl _)
  rcases hs with hs | hs
  · obtain ⟨its, rv, hq, _⟩ := I.list hs
    have hi : IntsAre its.toArray.toList ns := ints_of_vals rv
    have hln : its.toArray.size = ns.length := by rw [List.size_toArray, ← rv.length, List.length_map]
    refine call_set_list hd hq.isList hi (by rw [hln]; unfold scanBound; omega) fun h1 tk S k => ?_
    rw [hln] at S
    have ef : (fun k' => (PyProof.Rows.firstMet (fun i => ns.getD i 0) ns.length).any (· == k')) = fun j => decide (j ∈ ns) := by
      funext j
      rw [firstMet_any]
      have em : (List.range ns.length).map (fun i => ns.getD i 0) = ns := by
        apply List.ext_getElem?
        intro i
        rw [List.getElem?_map]
        by_cases hi : i < ns.length
        · rw [List.getElem?_range hi, List.getElem?_eq_getElem hi, Option.map_some, List.getD_eq_getElem?_getD, List.getElem?_eq_getElem hi]
          rfl
        · rw [List.getElem?_eq_none (by rw [List.length_range]; omega), List.getElem?_eq_none (by omega)]
          rfl
      rw [em]
      by_cases hj : j ∈ ns
      · rw [decide_eq_true hj, List.any_eq_true]
        exact ⟨j, hj, beq_self_eq_true j⟩
      · rw [decide_eq_false hj, List.any_eq_false]
        intro x hx hb
        exact hj (by rw [← (beq_iff_eq.mp hb)]; exact hx)
    rw [ef] at S
    exact ⟨.ref _, upd H s.heap.objs.size (SetI X.prog X.w s.heap.objs.size ns), I.laid (t' := tk) (fun b u e => k b u (Heap.lt_size e) e) (Nat.le_refl _) (setI_ok S), rfl, q _ fr⟩
  · obtain ⟨its, rv, pt, _⟩ := I.tuple hs
    refine call_set_tupI ns hd (l := a) (items := its.toArray) pt (ints_of_vals rv) (by unfold scanBound; omega) fun h1 tk c R _ k => ?_
    exact ⟨.ref _, upd H s.heap.objs.size (SetI X.prog X.w s.heap.objs.size ns), I.laid (t' := tk) k (Nat.le_refl _) (setI_ok R.setOf), rfl, q _ fr⟩
def rInI (P : Program) (w : World) : V → V → Hp → VK → Prop := fun x y H Q => ∃ k a ns, x = V.int k ∧ y = V.ref a ∧ H a = some (SetI P w a ns) ∧ Q (.bl (decide (k ∈ ns))) H
theorem op_inI : OpR X (compareOp .In) (rInI X.prog X.w) := by
  intro pins s σ H x y v u Q I rx ry h
  obtain ⟨k, a, ns, rfl, rfl, ha, q⟩ := h
  obtain ⟨tk, rfl⟩ := rx
  cases ry
  obtain ⟨n, S⟩ := (I.hok a _ ha).1
  exact wpAny_inSet_of (intKind_is _ _ _ _) rfl S ⟨.bl _, H, I.tok _, rfl, q⟩
/-! ### len of an object of one's own -/
def rLenO (C : Addr) (sp : Sp) : List V → Hp → VK → Prop := fun vs H Q => ∃ a dx fs, vs = [.ref a] ∧ H a = some (.ins C dx fs) ∧ sp [.ref a] H (fun v H1 => ∃ n : Nat, v = .int n ∧ n ≤ 1000000 ∧ Q (.int n) H1) E0
theorem cr_lenO {C f : Addr} {fd : FuncData} {k : Nat} {sp : Sp} (F : FnOk X.prog X.w X.K X.mg X.base CX0 k f fd ["self"] sp) (hb : Binds X.K fd ["self"] []) (hr : Room (k + 1) X.A) (hm : PySem.W.findIn X.K (.ref C) "__len__" = some (some (.ref f))) (hf : PySem.W.isFn X.K (.ref f) = true) :
    CallR X (.builtin "len") (rLenO C sp) := by
  intro pins s σ H vs us Q I r h
  obtain ⟨a, dx, fs, rfl, ea, hsp⟩ := h
  rw [Vals.ref1 r]
  obtain ⟨mA, O, _⟩ := ins_get I.hok ea
  obtain ⟨od, J, _⟩ := O.look
  have called : wpAny (model X.prog X.w) X.A.in1 (call (.ref f) [.ref a]) (EP X pins σ (fun v H1 => ∃ n : Nat, v = .int n ∧ n ≤ 1000000 ∧ Q (.int n) H1)) X.xe s := by
    refine wpAny_call (codeAny_mono (F.run X.A.in1 X.stack s H ⟨[.ref a], []⟩ [.ref a] [.ref a] _ E0 hr.in1 I.env0.in1 (hb s [.ref a] I.kIn rfl) (.cons rfl .nil) hsp) fun r s' hq => ?_)
    match r, hq with
    | .error e, hq => exact (pass0 : Passes CX0 X E0) pins σ H s e s' I hq
    | .ok (.ret u), hq => exact I.after hq
  refine Calls.call_function_entry kind_len plain_len entry_len (args_len1 _) ?_
  refine wpAny_bind (m := oneArg "len" _) (wpAny_pure ?_)
  refine wpAny_bind (m := callSpecial? (.ref a) (Str.ofString "__len__")) (PySem.W.special_fn I.kIn J hm (beq_iff_eq.mp hf) (wpAny_mono called ?_ fun _ _ z => z))
  rintro u s1 ⟨_, H1, I1, ru, n, rfl, hn, q⟩
  obtain ⟨tk, rfl⟩ := ru
  have lo : ¬ ((n : Int) < 0) := by omega
  have hi : ¬ ((n : Int) ≥ 2 ^ 63) := by omega
  refine wpAny_bind (wpAny_holding (wpAny_pure (wpAny_bind (wpAny_letGo ?_))))
  show wpAny _ _ (if (n : Int) < 0 then _ else _) _ _ _
  rw [if_neg lo]
  show wpAny _ _ (if (n : Int) ≥ 2 ^ 63 then _ else _) _ _ _
  rw [if_neg hi]
  exact wpAny_bind (wpAny_mkInt (wpAny_pure ⟨_, rfl, .int n, H1, I1.tok _, ⟨_, rfl⟩, q⟩))
end
end GM
set_option Elab.async false
set_option linter.all false
set_option maxRecDepth 100000
set_option maxHeartbeats 4000000
namespace GM
open PySem PySem.Spec PyProof.Rows L2
def topS (i : Nat) : Stmt := PySem.Challenge.pw_holdsalltrees_k36_plays_judged.main.body.getD i (.Pass ⟨0, 0, 0, 0⟩)
abbrev s__wall : Stmt := topS 0
abbrev s_as_tuples : Stmt := topS 2
abbrev s_is_whole : Stmt := topS 3
abbrev s_is_number_to : Stmt := topS 4
abbrev s_BadRow___init__ : Stmt := inClass (topS 7) 0
abbrev s_BadVertex___init__ : Stmt := inClass (topS 8) 0
abbrev s_DeadEnd___init__ : Stmt := inClass (topS 9) 0
abbrev s_NotAPlay___init__ : Stmt := inClass (topS 10) 0
abbrev s_PlanGap___init__ : Stmt := inClass (topS 11) 0
abbrev s_winner_of : Stmt := topS 13
abbrev s_check_walk : Stmt := topS 14
abbrev s_Game___init__ : Stmt := inClass (topS 17) 0
abbrev s_Game___len__ : Stmt := inClass (topS 17) 1
abbrev s_Game___eq__ : Stmt := inClass (topS 17) 2
abbrev s_Game_turned : Stmt := inClass (topS 17) 3
abbrev s_Game_restricted : Stmt := inClass (topS 17) 4
abbrev s_are_successors : Stmt := topS 18
abbrev s__law_whole : Stmt := topS 20
abbrev s__law_cell : Stmt := topS 21
abbrev s__law_digits : Stmt := topS 22
abbrev s__law_graph : Stmt := topS 23
abbrev s__law_play : Stmt := topS 24
abbrev s__law_long_play : Stmt := topS 25
abbrev s__law_fault : Stmt := topS 26
abbrev s__law_edited : Stmt := topS 27
abbrev s__law_right : Stmt := topS 28
abbrev s_law : Stmt := topS 29
abbrev n_as_tuples : List Str := ["value", "item"]
theorem sc_as_tuples : FnScope n_as_tuples ["value"] (defScope s_as_tuples) := ⟨rfl, rfl, rfl, by decide +kernel, rfl, by decide +kernel, by decide +kernel⟩
abbrev n_is_whole : List Str := ["value"]
theorem sc_is_whole : FnScope n_is_whole ["value"] (defScope s_is_whole) := ⟨rfl, rfl, rfl, by decide +kernel, rfl, by decide +kernel, by decide +kernel⟩
abbrev n_is_number_to : List Str := ["value", "most"]
theorem sc_is_number_to : FnScope n_is_number_to ["value", "most"] (defScope s_is_number_to) := ⟨rfl, rfl, rfl, by decide +kernel, rfl, by decide +kernel, by decide +kernel⟩
abbrev n_BadRow___init__ : List Str := ["self", "index"]
theorem sc_BadRow___init__ : FnScope n_BadRow___init__ ["self", "index"] (defScope s_BadRow___init__) := ⟨rfl, rfl, rfl, by decide +kernel, rfl, by decide +kernel, by decide +kernel⟩
abbrev n_BadVertex___init__ : List Str := ["self", "vertex"]
theorem sc_BadVertex___init__ : FnScope n_BadVertex___init__ ["self", "vertex"] (defScope s_BadVertex___init__) := ⟨rfl, rfl, rfl, by decide +kernel, rfl, by decide +kernel, by decide +kernel⟩
abbrev n_DeadEnd___init__ : List Str := ["self", "vertex"]
theorem sc_DeadEnd___init__ : FnScope n_DeadEnd___init__ ["self", "vertex"] (defScope s_DeadEnd___init__) := ⟨rfl, rfl, rfl, by decide +kernel, rfl, by decide +kernel, by decide +kernel⟩
abbrev n_NotAPlay___init__ : List Str := ["self", "index"]
theorem sc_NotAPlay___init__ : FnScope n_NotAPlay___init__ ["self", "index"] (defScope s_NotAPlay___init__) := ⟨rfl, rfl, rfl, by decide +kernel, rfl, by decide +kernel, by decide +kernel⟩
abbrev n_PlanGap___init__ : List Str := ["self", "vertex"]
theorem sc_PlanGap___init__ : FnScope n_PlanGap___init__ ["self", "vertex"] (defScope s_PlanGap___init__) := ⟨rfl, rfl, rfl, by decide +kernel, rfl, by decide +kernel, by decide +kernel⟩
abbrev n_winner_of : List Str := ["game", "lead", "ring", "walk", "vertex"]
theorem sc_winner_of : FnScope n_winner_of ["game", "lead", "ring"] (defScope s_winner_of) := ⟨rfl, rfl, rfl, by decide +kernel, rfl, by decide +kernel, by decide +kernel⟩
abbrev n_check_walk : List Str := ["game", "walk", "steps", "index", "vertex"]
theorem sc_check_walk : FnScope n_check_walk ["game", "walk", "steps"] (defScope s_check_walk) := ⟨rfl, rfl, rfl, by decide +kernel, rfl, by decide +kernel, by decide +kernel⟩
abbrev n_Game___init__ : List Str := ["self", "owners", "priorities", "successors", "vertex"]
theorem sc_Game___init__ : FnScope n_Game___init__ ["self", "owners", "priorities", "successors"] (defScope s_Game___init__) := ⟨rfl, rfl, rfl, by decide +kernel, rfl, by decide +kernel, by decide +kernel⟩
abbrev n_Game___len__ : List Str := ["self"]
theorem sc_Game___len__ : FnScope n_Game___len__ ["self"] (defScope s_Game___len__) := ⟨rfl, rfl, rfl, by decide +kernel, rfl, by decide +kernel, by decide +kernel⟩
abbrev n_Game___eq__ : List Str := ["self", "other"]
theorem sc_Game___eq__ : FnScope n_Game___eq__ ["self", "other"] (defScope s_Game___eq__) := ⟨rfl, rfl, rfl, by decide +kernel, rfl, by decide +kernel, by decide +kernel⟩
abbrev n_Game_turned : List Str := ["self"]
theorem sc_Game_turned : FnScope n_Game_turned ["self"] (defScope s_Game_turned) := ⟨rfl, rfl, rfl, by decide +kernel, rfl, by decide +kernel, by decide +kernel⟩
abbrev n_Game_restricted : List Str := ["self", "vertices"]
theorem sc_Game_restricted : FnScope n_Game_restricted ["self", "vertices"] (defScope s_Game_restricted) := ⟨rfl, rfl, rfl, by decide +kernel, rfl, by decide +kernel, by decide +kernel⟩
abbrev n_are_successors : List Str := ["value", "count", "least", "item"]
theorem sc_are_successors : FnScope n_are_successors ["value", "count"] (defScope s_are_successors) := ⟨rfl, rfl, rfl, by decide +kernel, rfl, by decide +kernel, by decide +kernel⟩
abbrev n__law_whole : List Str := ["value"]
theorem sc__law_whole : FnScope n__law_whole ["value"] (defScope s__law_whole) := ⟨rfl, rfl, rfl, by decide +kernel, rfl, by decide +kernel, by decide +kernel⟩
abbrev n__law_cell : List Str := ["script", "k", "seed", "cell"]
theorem sc__law_cell : FnScope n__law_cell ["script", "k"] (defScope s__law_cell) := ⟨rfl, rfl, rfl, by decide +kernel, rfl, by decide +kernel, by decide +kernel⟩
abbrev n__law_digits : List Str := ["cell", "sizes", "row", "rest", "size", "seed", "k", "twice"]
theorem sc__law_digits : FnScope n__law_digits ["cell", "sizes"] (defScope s__law_digits) := ⟨rfl, rfl, rfl, by decide +kernel, rfl, by decide +kernel, by decide +kernel⟩
abbrev n__law_graph : List Str := ["script", "at", "count", "top", "head", "chance", "owners", "priorities", "successors", "v", "row", "targets", "u"]
theorem sc__law_graph : FnScope n__law_graph ["script", "at", "count", "top"] (defScope s__law_graph) := ⟨rfl, rfl, rfl, by decide +kernel, rfl, by decide +kernel, by decide +kernel⟩
abbrev n__law_play : List Str := ["game", "cell", "count", "row", "steps", "k", "targets", "cuts", "i", "j", "cut"]
theorem sc__law_play : FnScope n__law_play ["game", "cell"] (defScope s__law_play) := ⟨rfl, rfl, rfl, by decide +kernel, rfl, by decide +kernel, by decide +kernel⟩
abbrev n__law_long_play : List Str := ["game", "cell", "many", "kind", "row", "steps", "k", "targets", "cuts", "cut", "places", "place", "j", "i"]
theorem sc__law_long_play : FnScope n__law_long_play ["game", "cell", "many", "kind"] (defScope s__law_long_play) := ⟨rfl, rfl, rfl, by decide +kernel, rfl, by decide +kernel, by decide +kernel⟩
abbrev n__law_fault : List Str := ["game", "lead", "ring", "steps", "ahead", "k"]
theorem sc__law_fault : FnScope n__law_fault ["game", "lead", "ring"] (defScope s__law_fault) := ⟨rfl, rfl, rfl, by decide +kernel, rfl, by decide +kernel, by decide +kernel⟩
abbrev n__law_edited : List Str := ["game", "lead", "ring", "row", "kind", "steps", "cut", "place", "count", "number"]
theorem sc__law_edited : FnScope n__law_edited ["game", "lead", "ring", "row"] (defScope s__law_edited) := ⟨rfl, rfl, rfl, by decide +kernel, rfl, by decide +kernel, by decide +kernel⟩
abbrev n__law_right : List Str := ["made", "game", "lead", "ring", "shape", "passed", "before", "due", "caught", "told", "v", "e"]
theorem sc__law_right : FnScope n__law_right ["made", "game", "lead", "ring", "shape"] (defScope s__law_right) := ⟨rfl, rfl, rfl, by decide +kernel, rfl, by decide +kernel, by decide +kernel⟩
abbrev n_law : List Str := ["script", "head", "count", "game", "made", "higher", "second", "play", "far", "other", "edited", "k", "nothing", "rows", "not_a_play", "row", "level"]
theorem sc_law : FnScope n_law ["script"] (defScope s_law) := ⟨rfl, rfl, rfl, by decide +kernel, rfl, by decide +kernel, by decide +kernel⟩
end GM
set_option Elab.async false
set_option linter.all false
set_option maxRecDepth 100000
set_option maxHeartbeats 4000000
namespace GM
open PySem PySem.Spec PyProof.Rows L2
/-! ### comprehensions with a test -/
section
variable {K : PySem.W.Frag} {a : Addr} {xs : List V} {g : TG} {tt : TT} {te : TE} {vs : List Nat} {σ : L2.St} {H1 : Hp} {D : Addr} {Qd : Hp → Prop}
theorem filter_step {α : Type} {l : List α} {i : Nat} {x : α} (p : α → Bool) (h : l[i]? = some x) : (l.take (i + 1)).filter p = (l.take i).filter p ++ (if p x = true then [x] else []) := by
  rw [tk1 h, List.filter_append]
  congr 1
  by_cases c : p x = true
  · rw [if_pos c, List.filter_cons_of_pos c]; rfl
  · rw [if_neg c, List.filter_cons_of_neg c]; rfl
theorem lc_filterL (p : V → Bool) (hlen : xs.length ≤ 1000) (hS : SqL K H1 a xs) (hD : H1 D = none)
    (hs : ∀ (i : Nat) x H (k : V → Hp → Prop) (n : Hp → Prop), xs[i]? = some x → Same H1 H → (p x = true → ∀ H', Same H H' → k x H') → (p x = false → ∀ H', Same H H' → n H') → g x (wipe σ vs) H fun σ2 H2 => wipe σ2 vs = wipe σ vs ∧ tt σ2 H2 fun b H3 => if b = true then te σ2 H3 k else n H3)
    (hd : ∀ H', Same H1 H' → H' D = some (.lst (xs.filter p)) → Qd H') :
    ∃ W : Nat → Nat → Hp → Prop, (∃ m, W 0 m (upd H1 D (.lst []))) ∧ ∀ i m H, W i m H →
      ((Itl K a).stop i H ∧ Qd H) ∨ ((Itl K a).go i H ∧ ∃ Nx : Hp → Prop, (∀ H', Nx H' → ∃ m', m' < m ∧ W (i + 1) m' H') ∧ ∀ x H', (Itl K a).yld i H x H' → g x (wipe σ vs) H' fun σ2 H2 => wipe σ2 vs = wipe σ vs ∧ tt σ2 H2 fun b H3 =>
        if b = true then te σ2 H3 fun y H4 => ∃ acc, H4 D = some (.lst acc) ∧ acc.length < sizeLine ∧ Nx (upd H4 D (.lst (acc ++ [y]))) else Nx H3) := by
  refine lc_list (xs := xs) (fun i H => Same H1 H ∧ H D = some (.lst ((xs.take i).filter p))) ⟨same_new hD _, upd_same⟩ (fun i H _ z => z.1.seq hS) ?_ ?_
  · rintro i x H hx ⟨sm, eD⟩
    have st := filter_step p hx
    have hl : ((xs.take i).filter p).length < sizeLine := by
      refine lt_line (Nat.le_trans (List.length_filter_le _ _) (Nat.le_trans (List.length_take_le _ _) ?_))
      exact Nat.le_of_lt (Nat.lt_of_lt_of_le (lt_of_at hx) hlen)
    refine hs i x H _ (fun H3 => Same H1 H3 ∧ H3 D = some (.lst ((xs.take (i + 1)).filter p))) hx sm (fun c H' s' => ⟨_, s' _ _ eD, hl, same_upd (sm.trans s') hD _, ?_⟩) (fun c H' s' => ⟨sm.trans s', ?_⟩)
    · rw [upd_same, st, if_pos c]
    · rw [st, c, if_neg Bool.false_ne_true, List.append_nil]; exact s' _ _ eD
  · rintro H ⟨sm, eD⟩
    rw [List.take_length] at eD
    exact hd H sm eD
theorem lc_filterT (p : V → Bool) (hlen : xs.length ≤ 1000) (hS : SqT K H1 a xs) (hD : H1 D = none)
    (hs : ∀ (i : Nat) x H (k : V → Hp → Prop) (n : Hp → Prop), xs[i]? = some x → Same H1 H → (p x = true → ∀ H', Same H H' → k x H') → (p x = false → ∀ H', Same H H' → n H') → g x (wipe σ vs) H fun σ2 H2 => wipe σ2 vs = wipe σ vs ∧ tt σ2 H2 fun b H3 => if b = true then te σ2 H3 k else n H3)
    (hd : ∀ H', Same H1 H' → H' D = some (.lst (xs.filter p)) → Qd H') :
    ∃ W : Nat → Nat → Hp → Prop, (∃ m, W 0 m (upd H1 D (.lst []))) ∧ ∀ i m H, W i m H →
      ((Itt K a).stop i H ∧ Qd H) ∨ ((Itt K a).go i H ∧ ∃ Nx : Hp → Prop, (∀ H', Nx H' → ∃ m', m' < m ∧ W (i + 1) m' H') ∧ ∀ x H', (Itt K a).yld i H x H' → g x (wipe σ vs) H' fun σ2 H2 => wipe σ2 vs = wipe σ vs ∧ tt σ2 H2 fun b H3 =>
        if b = true then te σ2 H3 fun y H4 => ∃ acc, H4 D = some (.lst acc) ∧ acc.length < sizeLine ∧ Nx (upd H4 D (.lst (acc ++ [y]))) else Nx H3) := by
  refine lc_tup (xs := xs) (fun i H => Same H1 H ∧ H D = some (.lst ((xs.take i).filter p))) ⟨same_new hD _, upd_same⟩ (fun i H _ z => seqT_same z.1 hS) ?_ ?_
  · rintro i x H hx ⟨sm, eD⟩
    have st := filter_step p hx
    have hl : ((xs.take i).filter p).length < sizeLine := by
      refine lt_line (Nat.le_trans (List.length_filter_le _ _) (Nat.le_trans (List.length_take_le _ _) ?_))
      exact Nat.le_of_lt (Nat.lt_of_lt_of_le (lt_of_at hx) hlen)
    refine hs i x H _ (fun H3 => Same H1 H3 ∧ H3 D = some (.lst ((xs.take (i + 1)).filter p))) hx sm (fun c H' s' => ⟨_, s' _ _ eD, hl, same_upd (sm.trans s') hD _, ?_⟩) (fun c H' s' => ⟨sm.trans s', ?_⟩)
    · rw [upd_same, st, if_pos c]
    · rw [st, c, if_neg Bool.false_ne_true, List.append_nil]; exact s' _ _ eD
  · rintro H ⟨sm, eD⟩
    rw [List.take_length] at eD
    exact hd H sm eD
theorem lc_filterR {n : Nat} (p : Nat → Bool) (hlen : n ≤ 1000) (hD : H1 D = none)
    (hs : ∀ i H (k : V → Hp → Prop) (nn : Hp → Prop), i < n → Same H1 H → (p i = true → ∀ H', Same H H' → k (.int (0 + (i : Int))) H') → (p i = false → ∀ H', Same H H' → nn H') → g (.int (0 + i)) (wipe σ vs) H fun σ2 H2 => wipe σ2 vs = wipe σ vs ∧ tt σ2 H2 fun b H3 => if b = true then te σ2 H3 k else nn H3)
    (hd : ∀ H', Same H1 H' → H' D = some (.lst ((((List.range n).filter p).map fun i : Nat => (i : Int)).map V.int)) → Qd H') :
    ∃ W : Nat → Nat → Hp → Prop, (∃ m, W 0 m (upd H1 D (.lst []))) ∧ ∀ i m H, W i m H →
      ((Itr 0 n).stop i H ∧ Qd H) ∨ ((Itr 0 n).go i H ∧ ∃ Nx : Hp → Prop, (∀ H', Nx H' → ∃ m', m' < m ∧ W (i + 1) m' H') ∧ ∀ x H', (Itr 0 n).yld i H x H' → g x (wipe σ vs) H' fun σ2 H2 => wipe σ2 vs = wipe σ vs ∧ tt σ2 H2 fun b H3 =>
        if b = true then te σ2 H3 fun y H4 => ∃ acc, H4 D = some (.lst acc) ∧ acc.length < sizeLine ∧ Nx (upd H4 D (.lst (acc ++ [y]))) else Nx H3) := by
  refine lc_range (lo := 0) (n := n) (fun i H => i ≤ n ∧ Same H1 H ∧ H D = some (.lst ((((List.range i).filter p).map fun i : Nat => (i : Int)).map V.int))) ⟨Nat.zero_le _, same_new hD _, upd_same⟩ ?_ ?_
  · rintro i H hi ⟨_, sm, eD⟩
    have st : (List.range (i + 1)).filter p = (List.range i).filter p ++ (if p i = true then [i] else []) := by
      rw [List.range_succ, List.filter_append]
      congr 1
      by_cases c : p i = true
      · rw [if_pos c, List.filter_cons_of_pos c]; rfl
      · rw [if_neg c, List.filter_cons_of_neg c]; rfl
    have hl : ((((List.range i).filter p).map fun i : Nat => (i : Int)).map V.int).length < sizeLine := by
      rw [List.length_map, List.length_map]
      refine lt_line (Nat.le_trans (List.length_filter_le _ _) ?_)
      rw [List.length_range]; omega
    refine hs i H _ (fun H3 => i + 1 ≤ n ∧ Same H1 H3 ∧ H3 D = some (.lst ((((List.range (i + 1)).filter p).map fun i : Nat => (i : Int)).map V.int))) hi sm (fun c H' s' => ⟨_, s' _ _ eD, hl, hi, same_upd (sm.trans s') hD _, ?_⟩) (fun c H' s' => ⟨hi, sm.trans s', ?_⟩)
    · rw [upd_same, st, if_pos c, List.map_append, List.map_append, Int.zero_add]; rfl
    · rw [st, c, if_neg Bool.false_ne_true, List.append_nil]; exact s' _ _ eD
  · rintro H ⟨_, sm, eD⟩
    exact hd H sm eD
end
section
variable {K : PySem.W.Frag} {g : TG} {tt : TT} {te : TE} {vs : List Nat} {σ : L2.St} {H1 : Hp} {D : Addr} {Qd : Hp → Prop}
/-- some True or False for each -/
theorem lc_boolR {n : Nat} (hlen : n ≤ 1000) (hD : H1 D = none)
    (hs : ∀ (i : Nat) H (k : V → Hp → Prop) (nn : Hp → Prop), i < n → Same H1 H → (∀ (b : Bool) H', Same H H' → k (.bl b) H') → g (.int (0 + i)) (wipe σ vs) H fun σ2 H2 => wipe σ2 vs = wipe σ vs ∧ tt σ2 H2 fun b H3 => if b = true then te σ2 H3 k else nn H3)
    (hd : ∀ H' (bs : List Bool), Same H1 H' → bs.length = n → H' D = some (.lst (bs.map V.bl)) → Qd H') :
    ∃ W : Nat → Nat → Hp → Prop, (∃ m, W 0 m (upd H1 D (.lst []))) ∧ ∀ i m H, W i m H →
      ((Itr 0 n).stop i H ∧ Qd H) ∨ ((Itr 0 n).go i H ∧ ∃ Nx : Hp → Prop, (∀ H', Nx H' → ∃ m', m' < m ∧ W (i + 1) m' H') ∧ ∀ x H', (Itr 0 n).yld i H x H' → g x (wipe σ vs) H' fun σ2 H2 => wipe σ2 vs = wipe σ vs ∧ tt σ2 H2 fun b H3 =>
        if b = true then te σ2 H3 fun y H4 => ∃ acc, H4 D = some (.lst acc) ∧ acc.length < sizeLine ∧ Nx (upd H4 D (.lst (acc ++ [y]))) else Nx H3) := by
  refine lc_range (lo := 0) (n := n) (fun i H => i ≤ n ∧ Same H1 H ∧ ∃ bs : List Bool, bs.length = i ∧ H D = some (.lst (bs.map V.bl))) ⟨Nat.zero_le _, same_new hD _, [], rfl, upd_same⟩ ?_ ?_
  · rintro i H hi ⟨_, sm, bs, lb, eD⟩
    refine hs i H _ (fun H3 => i + 1 ≤ n ∧ Same H1 H3 ∧ ∃ bs : List Bool, bs.length = i + 1 ∧ H3 D = some (.lst (bs.map V.bl))) hi sm fun b H' s' => ⟨_, s' _ _ eD, by rw [List.length_map, lb]; exact lt_line (by omega), hi, same_upd (sm.trans s') hD _, bs ++ [b], by rw [List.length_append, lb]; rfl, ?_⟩
    rw [upd_same, List.map_append]; rfl
  · rintro H ⟨_, sm, bs, lb, eD⟩
    exact hd H bs sm lb eD
/-- a value for each, while the heap grows -/
theorem lc_growR {n : Nat} (f : Nat → V) (hlen : n ≤ 1000) (hD : H1 D = none)
    (hs : ∀ (i : Nat) H (k : V → Hp → Prop) (nn : Hp → Prop), i < n → Same H1 H → (∀ H', Same H H' → k (f i) H') → g (.int (0 + i)) (wipe σ vs) H fun σ2 H2 => wipe σ2 vs = wipe σ vs ∧ tt σ2 H2 fun b H3 => if b = true then te σ2 H3 k else nn H3)
    (hd : ∀ H', Same H1 H' → H' D = some (.lst ((List.range n).map f)) → Qd H') :
    ∃ W : Nat → Nat → Hp → Prop, (∃ m, W 0 m (upd H1 D (.lst []))) ∧ ∀ i m H, W i m H →
      ((Itr 0 n).stop i H ∧ Qd H) ∨ ((Itr 0 n).go i H ∧ ∃ Nx : Hp → Prop, (∀ H', Nx H' → ∃ m', m' < m ∧ W (i + 1) m' H') ∧ ∀ x H', (Itr 0 n).yld i H x H' → g x (wipe σ vs) H' fun σ2 H2 => wipe σ2 vs = wipe σ vs ∧ tt σ2 H2 fun b H3 =>
        if b = true then te σ2 H3 fun y H4 => ∃ acc, H4 D = some (.lst acc) ∧ acc.length < sizeLine ∧ Nx (upd H4 D (.lst (acc ++ [y]))) else Nx H3) := by
  refine lc_range (lo := 0) (n := n) (fun i H => i ≤ n ∧ Same H1 H ∧ H D = some (.lst ((List.range i).map f))) ⟨Nat.zero_le _, same_new hD _, upd_same⟩ ?_ ?_
  · rintro i H hi ⟨_, sm, eD⟩
    refine hs i H _ (fun H3 => i + 1 ≤ n ∧ Same H1 H3 ∧ H3 D = some (.lst ((List.range (i + 1)).map f))) hi sm fun H' s' => ⟨_, s' _ _ eD, by rw [List.length_map, List.length_range]; exact lt_line (by omega), hi, same_upd (sm.trans s') hD _, ?_⟩
    rw [upd_same, List.range_succ, List.map_append]; rfl
  · rintro H ⟨_, sm, eD⟩
    exact hd H sm eD
variable {a : Addr} {xs : List V}
theorem lc_growL (f : Nat → V → V) (hlen : xs.length ≤ 1000) (hS : SqL K H1 a xs) (hD : H1 D = none)
    (hs : ∀ (i : Nat) x H (k : V → Hp → Prop) (n : Hp → Prop), xs[i]? = some x → Same H1 H → (∀ H', Same H H' → k (f i x) H') → g x (wipe σ vs) H fun σ2 H2 => wipe σ2 vs = wipe σ vs ∧ tt σ2 H2 fun b H3 => if b = true then te σ2 H3 k else n H3)
    (hd : ∀ H', Same H1 H' → H' D = some (.lst (xs.mapIdx f)) → Qd H') :
    ∃ W : Nat → Nat → Hp → Prop, (∃ m, W 0 m (upd H1 D (.lst []))) ∧ ∀ i m H, W i m H →
      ((Itl K a).stop i H ∧ Qd H) ∨ ((Itl K a).go i H ∧ ∃ Nx : Hp → Prop, (∀ H', Nx H' → ∃ m', m' < m ∧ W (i + 1) m' H') ∧ ∀ x H', (Itl K a).yld i H x H' → g x (wipe σ vs) H' fun σ2 H2 => wipe σ2 vs = wipe σ vs ∧ tt σ2 H2 fun b H3 =>
        if b = true then te σ2 H3 fun y H4 => ∃ acc, H4 D = some (.lst acc) ∧ acc.length < sizeLine ∧ Nx (upd H4 D (.lst (acc ++ [y]))) else Nx H3) := by
  refine lc_list (xs := xs) (fun i H => Same H1 H ∧ H D = some (.lst ((xs.mapIdx f).take i))) ⟨same_new hD _, upd_same⟩ (fun i H _ z => z.1.seq hS) ?_ ?_
  · rintro i x H hx ⟨sm, eD⟩
    have hm : (xs.mapIdx f)[i]? = some (f i x) := by rw [List.getElem?_mapIdx, hx]; rfl
    have hl : ((xs.mapIdx f).take i).length < sizeLine := lt_line (Nat.le_trans (List.length_take_le _ _) (Nat.le_of_lt (Nat.lt_of_lt_of_le (lt_of_at hx) hlen)))
    refine hs i x H _ (fun H3 => Same H1 H3 ∧ H3 D = some (.lst ((xs.mapIdx f).take (i + 1)))) hx sm fun H' s' => ⟨_, s' _ _ eD, hl, same_upd (sm.trans s') hD _, ?_⟩
    rw [upd_same, tk1 hm]
  · rintro H ⟨sm, eD⟩
    refine hd H sm ?_
    rw [eD, List.take_of_length_le (by rw [List.length_mapIdx]; exact Nat.le_refl _)]
end
theorem const_range (c : V) : ∀ n : Nat, (List.range n).map (fun _ => c) = List.replicate n c
  | 0 => rfl
  | n + 1 => by rw [List.range_succ, List.map_append, const_range c n, List.replicate_succ']; rfl
theorem rep_map (c : Int) (n : Nat) : (List.replicate n c).map V.int = List.replicate n (.int c) := by rw [List.map_replicate]
theorem at_int {xs : List Int} {j : Int} (h0 : 0 ≤ j) (h1 : j < (xs.length : Nat)) : ∃ x, atI (xs.map V.int) j = some (.int x) ∧ x ∈ xs := by
  obtain ⟨n, rfl⟩ : ∃ n : Nat, j = (n : Int) := ⟨j.toNat, by omega⟩
  have hn : n < xs.length := by omega
  exact ⟨xs[n], atI_nat (at_map (List.getElem?_eq_getElem hn)), List.getElem_mem hn⟩
theorem ixNn {n j : Nat} (hj : j < n) : ixN n (j : Int) = some j := by
  unfold ixN
  rw [if_pos (by omega), if_pos (by omega), Int.toNat_natCast]
theorem pr_mapR {α β γ : Type} {F : α → β → Prop} {G : α → γ → Prop} {f : β → γ} {as : List α} {bs : List β} (h : Paired F as bs) (k : ∀ a b, F a b → G a (f b)) : Paired G as (bs.map f) := by
  induction h with
  | nil => exact .nil
  | cons r _ ih => exact .cons (k _ _ r) ih
end GM
set_option Elab.async false
set_option maxRecDepth 100000
namespace GM
open PySem L2
/-! ### the numbers of an attractor, round by round -/
def nums0 (gs : List Bool) : List (Option Nat) := gs.map fun b => if b = true then some 0 else none
def nearL (rows : List (List Int)) (ins : List Bool) (v : Nat) : List Int := (rows.getD v []).filter fun u => ins.getD u.toNat false
def doneL (nums : List (Option Nat)) (l : List Int) : List Int := l.filter fun u => (nums.getD u.toNat none).isSome
def fz (ow : List Int) (rows : List (List Int)) (who : Int) (ins : List Bool) (nums : List (Option Nat)) (v : Nat) : Bool :=
  ins.getD v false && (nums.getD v none).isNone && (decide (0 < (doneL nums (nearL rows ins v)).length) && (decide (ow.getD v 0 = who) || decide ((doneL nums (nearL rows ins v)).length = (nearL rows ins v).length)))
def fr (n : Nat) (ow : List Int) (rows : List (List Int)) (who : Int) (ins : List Bool) (nums : List (Option Nat)) : List Nat := (List.range n).filter (fz ow rows who ins nums)
def setAll (t : Nat) (nums : List (Option Nat)) (vs : List Nat) : List (Option Nat) := vs.foldl (fun a v => a.set v (some t)) nums
def FF (n : Nat) (ow : List Int) (rows : List (List Int)) (who : Int) (ins gs : List Bool) : Nat → List (Option Nat)
  | 0 => nums0 gs
  | t + 1 => setAll (t + 1) (FF n ow rows who ins gs t) (fr n ow rows who ins (FF n ow rows who ins gs t))
theorem setAll_len (t : Nat) (vs : List Nat) : ∀ nums, (setAll t nums vs).length = nums.length := by
  induction vs with
  | nil => exact fun _ => rfl
  | cons v vs ih => exact fun nums => (ih (nums.set v (some t))).trans List.length_set
theorem setAll_get (t : Nat) (vs : List Nat) : ∀ (nums : List (Option Nat)) (j : Nat), j < nums.length → (setAll t nums vs)[j]? = if j ∈ vs then some (some t) else nums[j]? := by
  induction vs with
  | nil => intro nums j _; rw [if_neg List.not_mem_nil]; rfl
  | cons v vs ih =>
    intro nums j hj
    show (setAll t (nums.set v (some t)) vs)[j]? = _
    rw [ih _ j (by rw [List.length_set]; exact hj), List.getElem?_set]
    by_cases h1 : j ∈ vs
    · rw [if_pos h1, if_pos (List.mem_cons_of_mem _ h1)]
    · rw [if_neg h1]
      by_cases h2 : v = j
      · subst h2
        rw [if_pos rfl, if_pos hj, if_pos List.mem_cons_self]
      · rw [if_neg h2, if_neg (fun h => (List.mem_cons.mp h).elim (fun e => h2 e.symm) h1)]
theorem setAll_snoc (t : Nat) (nums : List (Option Nat)) (vs : List Nat) (v : Nat) : setAll t nums (vs ++ [v]) = (setAll t nums vs).set v (some t) := by
  unfold setAll
  rw [List.foldl_append]
  rfl
def nn (l : List (Option Nat)) : Nat := l.countP (·.isNone)
theorem nn_set (t : Nat) : ∀ (l : List (Option Nat)) (v : Nat), nn (l.set v (some t)) ≤ nn l ∧ (l[v]? = some none → nn (l.set v (some t)) + 1 = nn l)
  | [], v => ⟨Nat.le_refl _, fun h => by simp at h⟩
  | none :: l, 0 => by
    have e1 : nn ((none :: l).set 0 (some t)) = nn l := by unfold nn; rw [List.set_cons_zero, List.countP_cons_of_neg (by simp)]
    have e2 : nn (none :: l) = nn l + 1 := by unfold nn; rw [List.countP_cons_of_pos (by simp)]
    exact ⟨by omega, fun _ => by omega⟩
  | some x :: l, 0 => by
    have e1 : nn ((some x :: l).set 0 (some t)) = nn l := by unfold nn; rw [List.set_cons_zero, List.countP_cons_of_neg (by simp)]
    have e2 : nn (some x :: l) = nn l := by unfold nn; rw [List.countP_cons_of_neg (by simp)]
    exact ⟨by omega, fun h => by simp at h⟩
  | y :: l, v + 1 => by
    obtain ⟨h1, h2⟩ := nn_set t l v
    have e : ∀ l' : List (Option Nat), nn (y :: l') = nn l' + (if y.isNone = true then 1 else 0) := fun l' => by unfold nn; rw [List.countP_cons]
    rw [List.set_cons_succ, e, e]
    refine ⟨by omega, fun h => ?_⟩
    have := h2 (by simpa using h)
    omega
theorem nn_setAll (t : Nat) (vs : List Nat) : ∀ nums, nn (setAll t nums vs) ≤ nn nums := by
  induction vs with
  | nil => exact fun _ => Nat.le_refl _
  | cons v vs ih => exact fun nums => Nat.le_trans (ih _) (nn_set t nums v).1
section
variable {n : Nat} {ow : List Int} {rows : List (List Int)} {who : Int} {ins gs : List Bool}
theorem FF_len (hg : gs.length = n) : ∀ t, (FF n ow rows who ins gs t).length = n
  | 0 => (List.length_map _).trans hg
  | t + 1 => (setAll_len _ _ _).trans (FF_len hg t)
theorem fr_none {nums : List (Option Nat)} (hl : nums.length = n) {v : Nat} (h : v ∈ fr n ow rows who ins nums) : v < n ∧ nums[v]? = some none := by
  obtain ⟨h1, h2⟩ := List.mem_filter.mp h
  have hv := List.mem_range.mp h1
  refine ⟨hv, ?_⟩
  unfold fz at h2
  rw [Bool.and_eq_true, Bool.and_eq_true] at h2
  have h3 := h2.1.2
  rw [List.getD_eq_getElem?_getD, List.getElem?_eq_getElem (by omega)] at h3
  rw [List.getElem?_eq_getElem (by omega)]
  exact congrArg some (Option.isNone_iff_eq_none.mp h3)
theorem FF_less (hg : gs.length = n) (t : Nat) (h : fr n ow rows who ins (FF n ow rows who ins gs t) ≠ []) : nn (FF n ow rows who ins gs (t + 1)) + 1 ≤ nn (FF n ow rows who ins gs t) := by
  show nn (setAll (t + 1) (FF n ow rows who ins gs t) (fr n ow rows who ins (FF n ow rows who ins gs t))) + 1 ≤ _
  cases e : fr n ow rows who ins (FF n ow rows who ins gs t) with
  | nil => exact absurd e h
  | cons v vs =>
    have hv := (fr_none (FF_len hg t) (by rw [e]; exact List.mem_cons_self)).2
    have h1 := (nn_set (t + 1) _ v).2 hv
    have h2 := nn_setAll (t + 1) vs ((FF n ow rows who ins gs t).set v (some (t + 1)))
    show nn (setAll (t + 1) ((FF n ow rows who ins gs t).set v (some (t + 1))) vs) + 1 ≤ _
    omega
theorem FF_count (hg : gs.length = n) : ∀ t, (∀ s, s < t → fr n ow rows who ins (FF n ow rows who ins gs s) ≠ []) → nn (FF n ow rows who ins gs t) + t ≤ n
  | 0, _ => by
    have := List.countP_le_length (p := (·.isNone)) (l := FF n ow rows who ins gs 0)
    have e := FF_len (n := n) (ow := ow) (rows := rows) (who := who) (ins := ins) hg 0
    show nn _ + 0 ≤ n
    unfold nn
    omega
  | t + 1, h => by
    have h1 := FF_count hg t fun s hs => h s (by omega)
    have h2 := FF_less (ow := ow) (rows := rows) (who := who) (ins := ins) hg t (h t (Nat.lt_succ_self t))
    omega
theorem nn_zero {l : List (Option Nat)} (h : nn l = 0) {v : Nat} : l[v]? ≠ some none := fun e => by
  have := List.countP_eq_zero.mp h _ (List.mem_of_getElem? e)
  simp at this
theorem fr_end (hg : gs.length = n) (h : ∀ s, s < n → fr n ow rows who ins (FF n ow rows who ins gs s) ≠ []) : fr n ow rows who ins (FF n ow rows who ins gs n) = [] := by
  have h1 := FF_count (ow := ow) (rows := rows) (who := who) (ins := ins) hg n h
  cases e : fr n ow rows who ins (FF n ow rows who ins gs n) with
  | nil => rfl
  | cons v vs => exact absurd (fr_none (FF_len hg n) (by rw [e]; exact List.mem_cons_self)).2 (nn_zero (by omega))
/-- where the rounds end -/
def IsFix (n : Nat) (ow : List Int) (rows : List (List Int)) (who : Int) (ins gs : List Bool) (nums : List (Option Nat)) : Prop := ∃ t, nums = FF n ow rows who ins gs t ∧ fr n ow rows who ins (FF n ow rows who ins gs t) = []
theorem FF_stay {t : Nat} (h : fr n ow rows who ins (FF n ow rows who ins gs t) = []) : ∀ k, FF n ow rows who ins gs (t + k) = FF n ow rows who ins gs t
  | 0 => rfl
  | k + 1 => by
    show setAll (t + k + 1) (FF n ow rows who ins gs (t + k)) (fr n ow rows who ins (FF n ow rows who ins gs (t + k))) = _
    rw [FF_stay h k, h]
    rfl
theorem IsFix.eq {a b : List (Option Nat)} (ha : IsFix n ow rows who ins gs a) (hb : IsFix n ow rows who ins gs b) : a = b := by
  obtain ⟨s, rfl, h1⟩ := ha
  obtain ⟨t, rfl, h2⟩ := hb
  rcases Nat.le_total s t with h | h
  · obtain ⟨k, rfl⟩ := Nat.le.dest h
    exact (FF_stay h1 k).symm
  · obtain ⟨k, rfl⟩ := Nat.le.dest h
    exact FF_stay h2 k
end
def oV : Option Nat → V
  | none => .non
  | some k => .int (k : Int)
def intP (f : Int → Bool) : V → Bool
  | .int u => f u
  | _ => false
theorem filter_int (f : Int → Bool) (l : List Int) : (l.map V.int).filter (intP f) = (l.filter f).map V.int := by
  rw [List.filter_map]
  rfl
end GM
set_option Elab.async false
set_option linter.all false
set_option maxRecDepth 100000
set_option maxHeartbeats 4000000
namespace GM
open PySem PySem.Spec PyProof.Rows L2
section
variable {K : PySem.W.Frag} {g : TG} {tt : TT} {te : TE} {vs : List Nat} {σ : L2.St} {H1 : Hp} {D : Addr} {Qd : Hp → Prop}
/-- a new object for each, told by a relation -/
theorem lc_relR {n : Nat} (R : Nat → HO → Prop) (hlen : n ≤ 1000) (hD : H1 D = none)
    (hs : ∀ (i : Nat) H (k : V → Hp → Prop) (nn : Hp → Prop), i < n → Same H1 H → (∀ p o H', Same H H' → H p = none → H' p = some o → R i o → k (.ref p) H') → g (.int (0 + i)) (wipe σ vs) H fun σ2 H2 => wipe σ2 vs = wipe σ vs ∧ tt σ2 H2 fun b H3 => if b = true then te σ2 H3 k else nn H3)
    (hd : ∀ H' (ps : List Addr), Same H1 H' → H' D = some (.lst (ps.map V.ref)) → Paired (fun p i => ∃ o, H' p = some o ∧ R i o) ps (List.range n) → Qd H') :
    ∃ W : Nat → Nat → Hp → Prop, (∃ m, W 0 m (upd H1 D (.lst []))) ∧ ∀ i m H, W i m H →
      ((Itr 0 n).stop i H ∧ Qd H) ∨ ((Itr 0 n).go i H ∧ ∃ Nx : Hp → Prop, (∀ H', Nx H' → ∃ m', m' < m ∧ W (i + 1) m' H') ∧ ∀ x H', (Itr 0 n).yld i H x H' → g x (wipe σ vs) H' fun σ2 H2 => wipe σ2 vs = wipe σ vs ∧ tt σ2 H2 fun b H3 =>
        if b = true then te σ2 H3 fun y H4 => ∃ acc, H4 D = some (.lst acc) ∧ acc.length < sizeLine ∧ Nx (upd H4 D (.lst (acc ++ [y]))) else Nx H3) := by
  refine lc_range (lo := 0) (n := n) (fun i H => i ≤ n ∧ Same H1 H ∧ ∃ ps : List Addr, H D = some (.lst (ps.map V.ref)) ∧ Paired (fun p i => p ≠ D ∧ ∃ o, H p = some o ∧ R i o) ps (List.range i)) ⟨Nat.zero_le _, same_new hD _, [], upd_same, .nil⟩ ?_ ?_
  · rintro i H hi ⟨_, sm, ps, eD, pw⟩
    have lp : ps.length = i := by rw [pw.length, List.length_range]
    refine hs i H _ (fun H3 => i + 1 ≤ n ∧ Same H1 H3 ∧ ∃ ps : List Addr, H3 D = some (.lst (ps.map V.ref)) ∧ Paired (fun p i => p ≠ D ∧ ∃ o, H3 p = some o ∧ R i o) ps (List.range (i + 1))) hi sm fun p o H' s' hp e' r => ⟨_, s' _ _ eD, ?_, hi, same_upd (sm.trans s') hD _, ps ++ [p], ?_, ?_⟩
    · rw [List.length_map, lp]; exact lt_line (by omega)
    · rw [upd_same, List.map_append]; rfl
    · rw [List.range_succ]
      have hpD : p ≠ D := fun z => by rw [z, eD] at hp; cases hp
      exact (L2.Paired.mapP pw fun b j ⟨z, u, e, r⟩ => ⟨z, u, by rw [upd_ne z]; exact s' _ _ e, r⟩).snoc ⟨hpD, o, by rw [upd_ne hpD]; exact e', r⟩
  · rintro H ⟨_, sm, ps, eD, pw⟩
    exact hd H ps sm eD (L2.Paired.mapP pw fun _ _ z => z.2)
variable {a : Addr} {xs : List Int}
theorem lc_mapI (f : Int → Int) (hlen : xs.length ≤ 1000) (hS : SqL K H1 a (xs.map V.int)) (hD : H1 D = none)
    (hs : ∀ (i : Nat) z H (k : V → Hp → Prop) (n : Hp → Prop), xs[i]? = some z → Same H1 H → k (.int (f z)) H → g (.int z) (wipe σ vs) H fun σ2 H2 => wipe σ2 vs = wipe σ vs ∧ tt σ2 H2 fun b H3 => if b = true then te σ2 H3 k else n H3)
    (hd : ∀ H', Same H1 H' → H' D = some (.lst ((xs.map f).map V.int)) → Qd H') :
    ∃ W : Nat → Nat → Hp → Prop, (∃ m, W 0 m (upd H1 D (.lst []))) ∧ ∀ i m H, W i m H →
      ((Itl K a).stop i H ∧ Qd H) ∨ ((Itl K a).go i H ∧ ∃ Nx : Hp → Prop, (∀ H', Nx H' → ∃ m', m' < m ∧ W (i + 1) m' H') ∧ ∀ x H', (Itl K a).yld i H x H' → g x (wipe σ vs) H' fun σ2 H2 => wipe σ2 vs = wipe σ vs ∧ tt σ2 H2 fun b H3 =>
        if b = true then te σ2 H3 fun y H4 => ∃ acc, H4 D = some (.lst acc) ∧ acc.length < sizeLine ∧ Nx (upd H4 D (.lst (acc ++ [y]))) else Nx H3) := by
  refine lc_list (xs := xs.map V.int) (fun i H => Same H1 H ∧ H D = some (.lst (((xs.map f).map V.int).take i))) ⟨same_new hD _, upd_same⟩ (fun i H _ z => z.1.seq hS) ?_ ?_
  · rintro i x H hx ⟨sm, eD⟩
    obtain ⟨z, hz, rfl⟩ := map_at hx
    have hm : ((xs.map f).map V.int)[i]? = some (.int (f z)) := at_map (by rw [List.getElem?_map, hz]; rfl)
    have hl : (((xs.map f).map V.int).take i).length < sizeLine := lt_line (Nat.le_trans (List.length_take_le _ _) (Nat.le_of_lt (Nat.lt_of_lt_of_le (lt_of_at hz) hlen)))
    refine hs i z H _ (fun H3 => Same H1 H3 ∧ H3 D = some (.lst (((xs.map f).map V.int).take (i + 1)))) hz sm ⟨_, eD, hl, same_upd sm hD _, ?_⟩
    rw [upd_same, tk1 hm]
  · rintro H ⟨sm, eD⟩
    refine hd H sm ?_
    rw [eD, List.take_of_length_le (by rw [List.length_map, List.length_map, List.length_map]; exact Nat.le_refl _)]
end
/-- list(xs), named -/
def rLst (K : PySem.W.Frag) : List V → Hp → VK → Prop := fun xs H Q => ∃ p ys, xs = [.ref p] ∧ (SqL K H p ys ∨ SqT K H p ys) ∧ ∀ l, H l = none → Q (.ref l) (upd H l (.lst ys))
/-! ### data that can be compared -/
def Ly (N : Nat) (d : PyData) : Prop := d.canLay0 = true ∧ d.depth ≤ N
theorem ly_all {N : Nat} : ∀ {ds : List PyData}, (∀ d ∈ ds, Ly N d) → PyData.canLayAll0 ds = true ∧ PyData.depthAll ds ≤ N
  | [], _ => ⟨rfl, Nat.zero_le _⟩
  | d :: ds, h => by
    obtain ⟨i1, i2⟩ := ly_all (ds := ds) fun e he => h e (List.mem_cons_of_mem _ he)
    obtain ⟨h1, h2⟩ := h d List.mem_cons_self
    refine ⟨?_, ?_⟩
    · show (d.canLay0 && PyData.canLayAll0 ds) = true
      rw [h1, i1]; rfl
    · show max d.depth (PyData.depthAll ds) ≤ N
      omega
theorem ly_list {N : Nat} {ds : List PyData} (h : ∀ d ∈ ds, Ly N d) : Ly (N + 1) (.list ds) := by
  obtain ⟨a, b⟩ := ly_all h
  exact ⟨a, by show PyData.depthAll _ + 1 ≤ _; omega⟩
theorem ly_tup {N : Nat} {ds : List PyData} (h : ∀ d ∈ ds, Ly N d) : Ly (N + 1) (.tuple ds) := by
  obtain ⟨a, b⟩ := ly_all h
  exact ⟨a, by show PyData.depthAll _ + 1 ≤ _; omega⟩
theorem ly_ints (ns : List Int) : ∀ d ∈ ns.map PyData.int, Ly 0 d := fun d hd => by
  obtain ⟨i, _, rfl⟩ := List.mem_map.mp hd
  exact ⟨rfl, Nat.le_refl _⟩
theorem ly_shaped {N : Nat} {d : PyData} (h : Ly N d) (hN : N ≤ 64) : PySem.SeqAt.shaped d = true := by
  unfold PySem.SeqAt.shaped
  rw [h.1, decide_eq_true (Nat.le_trans h.2 hN)]
  rfl
theorem ly_refl {N : Nat} {d : PyData} (h : Ly N d) : PyData.eqv d d = true := PySem.SeqAt.eqv_refl _ h.1
theorem Ly.up {N M : Nat} {d : PyData} (h : Ly N d) (l : N ≤ M) : Ly M d := ⟨h.1, Nat.le_trans h.2 l⟩
theorem dp_tupI {K : PySem.W.Frag} {H : Hp} {a : Addr} {ns : List Int} (e : H a = some (.tup (ns.map V.int))) : Dp K H (.ref a) (.tuple (ns.map PyData.int)) := .tup (sqT e) (dp_ints ns)
def rowsD (rows : List (List Int)) : List PyData := rows.map fun r => .tuple (r.map PyData.int)
theorem dp_rows {K : PySem.W.Frag} {H : Hp} : ∀ {ts : List Addr} {rows : List (List Int)}, Paired (fun t xs => H t = some (.tup (xs.map V.int))) ts rows → DpAll K H (ts.map V.ref) (rowsD rows)
  | _, _, .nil => .nil
  | _, _, .cons h k => .cons (dp_tupI h) (dp_rows k)
theorem ly_rows (rows : List (List Int)) : ∀ d ∈ rowsD rows, Ly 1 d := fun d hd => by
  obtain ⟨r, _, rfl⟩ := List.mem_map.mp hd
  exact ly_tup (ly_ints r)
/-- two results, one for each player -/
def DueAt (H : Hp) (du : Addr) (F : Int → List (Option Nat) → Prop) : Prop := ∃ t0 t1 N0 N1, H du = some (.lst [.ref t0, .ref t1]) ∧ H t0 = some (.tup (N0.map oV)) ∧ H t1 = some (.tup (N1.map oV)) ∧ F 0 N0 ∧ F 1 N1
theorem DueAt.same {H H' : Hp} {du : Addr} {F : Int → List (Option Nat) → Prop} (h : DueAt H du F) (s : Same H H') : DueAt H' du F := by
  obtain ⟨t0, t1, N0, N1, a, b, c, d, e⟩ := h
  exact ⟨t0, t1, N0, N1, s _ _ a, s _ _ b, s _ _ c, d, e⟩
theorem DueAt.at {K : PySem.W.Frag} {H : Hp} {du : Addr} {F : Int → List (Option Nat) → Prop} (h : DueAt H du F) {w : Int} (hw : w = 0 ∨ w = 1) : ∃ t N xs, SqL K H du xs ∧ atI xs w = some (.ref t) ∧ H t = some (.tup (N.map oV)) ∧ F w N := by
  obtain ⟨t0, t1, N0, N1, a, b, c, d, e⟩ := h
  rcases hw with rfl | rfl
  · exact ⟨t0, N0, _, SqL.of a, rfl, b, d⟩
  · exact ⟨t1, N1, _, SqL.of a, rfl, c, e⟩
theorem due_of {H : Hp} {du : Addr} {ps : List Addr} {F : Int → List (Option Nat) → Prop} (e : H du = some (.lst (ps.map V.ref))) (pw : Paired (fun p i => ∃ o, H p = some o ∧ ∃ N, o = .tup (N.map oV) ∧ F ((i : Nat) : Int) N) ps (List.range 2)) : DueAt H du F := by
  rw [show List.range 2 = [0, 1] from rfl] at pw
  cases pw with
  | cons h0 r =>
    cases r with
    | cons h1 r1 =>
      cases r1 with
      | nil =>
        obtain ⟨_, e0, N0, rfl, f0⟩ := h0
        obtain ⟨_, e1, N1, rfl, f1⟩ := h1
        exact ⟨_, _, N0, N1, e, e0, e1, f0, f1⟩
theorem fix_congr {n : Nat} {ow ow' : List Int} {rows : List (List Int)} {who who' : Int} {ins gs : List Bool} {nums : List (Option Nat)} (h : ∀ v, v < n → decide (ow.getD v 0 = who) = decide (ow'.getD v 0 = who')) (hx : IsFix n ow rows who ins gs nums) : IsFix n ow' rows who' ins gs nums := by
  have hf : ∀ N, fr n ow rows who ins N = fr n ow' rows who' ins N := fun N => List.filter_congr fun v hv => by
    have := h v (List.mem_range.mp hv)
    unfold fz
    rw [this]
  have hF : ∀ t, FF n ow rows who ins gs t = FF n ow' rows who' ins gs t := by
    intro t
    induction t with
    | zero => rfl
    | succ t ih =>
      show setAll (t + 1) (FF n ow rows who ins gs t) (fr n ow rows who ins (FF n ow rows who ins gs t)) = setAll (t + 1) (FF n ow' rows who' ins gs t) (fr n ow' rows who' ins (FF n ow' rows who' ins gs t))
      rw [hf, ih]
  obtain ⟨t, e, z⟩ := hx
  exact ⟨t, e.trans (hF t), by rw [← hF t, ← hf]; exact z⟩
end GM
set_option Elab.async false
set_option linter.all false
set_option maxRecDepth 100000
set_option maxHeartbeats 4000000
namespace GM
open PySem PySem.Spec PyProof.Rows L2
/-! ### defs that are called while no repr is under way -/
structure FnG (P : Program) (w : World) (K : PySem.W.Frag) (mg : Str → Option Value) (g : Heap) (CX : CXT) (k : Nat) (f : Addr) (fd : FuncData) (ps : List Str) (sp : Sp) : Prop where
  len : ∀ vs H Q E, sp vs H Q E → vs.length = ps.length
  run : ∀ (B : Around) (out : List Env) (t : Shared) (H : Hp) (ar : Args) (us : List Value) (vs : List V) (Q : VK) (E : XK), B.guards = some [] → Room k B → Env0 P w K mg g B out t H → BindsTo t fd ar (ps.zip us) → Vals vs us →
    sp vs H Q E → codeAny (model P w) B (.call (.ref f) ar) (CR CX out P w H t Q E) t
theorem guards_deeper {B : Around} {env : Env} (h : B.guards = some []) : (B.deeper env).guards = some [] := h
theorem FnG.of_body {CX : CXT} {P : Program} {w : World} {K : PySem.W.Frag} {mg : Str → Option Value} {g : Heap} {k : Nat} {f : Addr} {nm qn : Str} {pa : Arguments} {bd : List Stmt} {sc : Scope} {dV kV doc pm cdv ct oc : Value} {an od : Option Addr}
    {sl : Array (Option Value)} {N ps : List Str} {sp : Sp} (lk : K.lookup f = some ⟨oc, od, .func (PySem.W.fnOf nm qn pa bd sc dV kV doc pm an cdv ct), sl⟩) (hcd : PySem.W.codeIn K cdv qn = true) (S : FnScope N ps sc)
    (ln : ∀ vs H Q E, sp vs H Q E → vs.length = ps.length)
    (hb : ∀ (B : Around) (out : List Env) (t : Shared) (H : Hp) (vs : List V) (Q : VK) (E : XK), B.guards = some [] → Room k (B.deeper (envOfC qn sc t.heap.objs.size f cdv)) → sp vs H Q E →
      ∃ r, PSs (cxOf CX P w K mg g N qn sc f cdv B out t H E) bd r ∧ r { nx := fun _ H' => Q .non H', rt := Q } (start N vs) H) :
    FnG P w K mg g CX (k + 1) f (PySem.W.fnOf nm qn pa bd sc dV kV doc pm an cdv ct) ps sp where
  len := ln
  run := by
    intro B out t H ar us vs Q E hg hr env bt rv hsp
    have lv := ln _ _ _ _ hsp
    have kin : K.In t.heap := env.mod.kin.keeps fun b o e => (env.bs b o e).1
    have nol : t.heap.NoLimit := env.mod.nolimit.keeps fun b o e => (env.bs b o e).1
    have kinds : ∀ y ∈ ps.zip us, sc.names.lookup y.1 = some .local ∨ (sc.names.lookup y.1 = some .cell ∧ ((cellsFrom (t.heap.objs.size + 1) sc.names []).lookup y.1).isSome = true) := by
      rintro ⟨n, v⟩ hy
      rcases S.par n (List.of_mem_zip hy).1 with c | c
      · exact Or.inl c
      · exact Or.inr ⟨c, PySem.W.cellsFrom_some _ _ _ (Or.inl c)⟩
    apply codeAny_call_function hr.depth (kin _ _ lk) rfl S.co S.gen rfl (PySem.W.codeRec_of kin hcd) (bt _ _ _ _ ?_)
    apply wpAny_newFunctionEnv_cells S.kind kinds
    rintro e1 rfl t1 x
    refine And.intro (nol.keeps x.toInCall.keep) (codeAny_func ?_)
    obtain ⟨r, hrd, hq⟩ := hb B out t H vs Q E hg (hr.deeper _) hsp
    have I : Inv (cxOf CX P w K mg g N qn sc f cdv B out t H E) [] (start N vs) H t1 := inv_start S hr.hd env lv rv x
    have fin : ∀ {σ1 : L2.St} {H1 : Hp} {z : V} {u : Value} {t2 : Shared}, Inv (cxOf CX P w K mg g N qn sc f cdv B out t H E) [] σ1 H1 t2 → RelV z u → Q z H1 → CE out P w H t Q u t2 := by
      intro σ1 H1 z u t2 J rz q
      exact ⟨z, H1, J.os, J.bare, J.base, J.hok, rz, q⟩
    apply wpAny_mono (hrd.run [] t1 (start N vs) H _ I hq)
    · intro fl t2 hs
      match fl, hs with
      | .ret u, ⟨z, σ1, H1, J, rz, q⟩ => exact fin J rz q
      | .next, ⟨σ1, H1, J, q⟩ => exact fin (z := V.non) (u := Value.none) J rfl q
      | .brk, ⟨_, _, _, q⟩ => exact q.elim
      | .cont, ⟨_, _, _, q⟩ => exact q.elim
    · exact fun _ _ hs => hs
theorem okG {P : Program} {w : World} {K : PySem.W.Frag} {mg : Str → Option Value} {g : Heap} {x qn : Str} {st : Stmt} {f : Addr} {fd : FuncData} {N ps : List Str} {k : Nat} {sp : Sp} (F : Fun K x qn st f fd) (S : FnScope N ps (defScope st)) (ln : ∀ vs H Q E, sp vs H Q E → vs.length = ps.length)
    (hb : ∀ (cdv : Value) (B : Around) (out : List Env) (t : Shared) (H : Hp) (vs : List V) (Q : VK) (E : XK), B.guards = some [] → Room k (B.deeper (envOfC qn (defScope st) t.heap.objs.size f cdv)) → sp vs H Q E →
      ∃ r, PSs (cxOf CX0 P w K mg g N qn (defScope st) f cdv B out t H E).nox (defBody st) r ∧ r { nx := fun _ H' => Q .non H', rt := Q } (start N vs) H) : FnG P w K mg g CX0 (k + 1) f fd ps sp := by
  obtain ⟨oc, od, kV, doc, pm, an, cdv, ct, sl, rfl, lk, hcd⟩ := F.ex
  refine FnG.of_body lk hcd S ln fun B out t H vs Q E hg hr hsp => ?_
  obtain ⟨r, h, q⟩ := hb cdv B out t H vs Q E hg hr hsp
  exact ⟨r, h.nox, q⟩
/-- the law's own call -/
theorem walk_ofG {l : PySem.W.OpenLaw} {n k : Nat} {q : Program} {loose : List Str} {XP : (Str → Option Value) → Heap → Prop} {YP : World → Heap → Prop} {d : DefRec} {KK : Params → PySem.W.Frag} {sp : World → Sp} {x : Str}
    (hn : l.most = some n) (hn2 : n ≤ sizeLine) (hdf : d.params.defaults = []) (hr : Room k callerA)
    (hY : ∀ (w : World) (h : Heap), YP w h → (KK w.params).In h)
    (F : ∀ (w : World) (mg : Str → Option Value) (fa : Addr) (h : Heap), (KK w.params).In h → h.Ns mainGlobals mg → mg d.name = some (.ref fa) →
      ∃ fd : FuncData, (∀ (s : Shared) (u : Value), BindsTo s fd ⟨[u], []⟩ [(x, u)]) ∧ ∀ g : Heap, (KK w.params).In g → g.Ns mainGlobals mg → FnG l.prog w (KK w.params) mg g CX0 k fa fd [x] (sp w))
    (hsp : ∀ (w : World) (H : Hp) (a : Addr) (ns : List Int), ns.length ≤ n → Only H → SqL (KK w.params) H a (ns.map V.int) → sp w [.ref a] H (fun v _ => v = .bl true) fun _ _ _ => False) :
    PySem.W.WalkO q loose XP YP l.row.toRowW d [] (fun f vs => PySem.call f vs) := by
  refine Att.attach_call hn hdf ?_
  intro w s₀ s₁ mg mb fa o pm cd doc a vs ns G Y ho hd hcd hmg hobj hints hlen hgen
  have KX := hY w _ Y
  obtain ⟨fd, hbind, hF⟩ := F w mg fa _ KX G.T.g hmg
  have rv := vals_ints hints
  have lv := hints.length
  have hz : ns.length ≤ sizeLine := Nat.le_trans hlen hn2
  -- once the abstract heap tracks no more than the script
  have main : ∀ H : Hp, Only H → SqL (KK w.params) H a (ns.map V.int) → HOk l.prog w H s₁.heap → (∀ b, H b ≠ none → b = a) → (H a ≠ none → (KK w.params).lookup a = none) →
      codeAny (model l.prog w) callerA (.call (.ref fa) ⟨[.ref a], []⟩) (fun r s' => r = .ok (.ret (.bool true)) ∧ OldK s₁.heap s'.heap ∧ s'.os = s₁.os ∧ AllBare s'.gens) s₁ := by
    intro H only sq ok at_a off
    have keepB : ∀ {b : Addr} {u : Obj}, s₁.heap.get? b = some u → H b = none → (hidT s₁.heap H).get? b = some u := fun e z => hidT_get e z
    have dictFree : ∀ {b : Addr} {u : Obj} {es : Array DictEntry} {ep : Nat}, s₁.heap.get? b = some u → u.data = .dict es ep → H b = none := by
      intro b u es ep e dt
      cases c : H b with
      | none => rfl
      | some z =>
        have eb := at_a b (by rw [c]; exact Option.some_ne_none z)
        rw [eb, hobj] at e
        cases e
        have dt' : Data.seq vs.toArray _ = Data.dict es ep := dt
        cases dt'
    have nsB : ∀ {b : Addr} {m : Str → Option Value}, s₁.heap.Ns b m → (hidT s₁.heap H).Ns b m := by
      rintro b m ⟨u, es, ep, e, dt, rest⟩
      exact ⟨u, es, ep, keepB e (dictFree e dt), dt, rest⟩
    have inB : (KK w.params).In (hidT s₁.heap H) := by
      intro b u e
      refine keepB (KX b u e) ?_
      cases c : H b with
      | none => rfl
      | some z =>
        have eb := at_a b (by rw [c]; exact Option.some_ne_none z)
        subst eb
        rw [off (by rw [c]; exact Option.some_ne_none z)] at e
        cases e
    have md : Mod (KK w.params) mg (hidT s₁.heap H) := by
      refine ⟨inB, nsB G.T.g, ⟨mb, nsB G.T.b, G.T.builtins⟩, ?_⟩
      obtain ⟨mc, h1, h2⟩ := G.T.nolimit
      exact ⟨mc, nsB h1, h2⟩
    have env : Env0 l.prog w (KK w.params) mg (hidT s₁.heap H) callerA [] s₁ H := by
      refine ⟨rfl, md, fun b u e => of_hidT e, Nat.le_of_eq (hidT_size _ _), trivial, ?_, ok, .of_eq hgen⟩
      intro b hb
      exact nomatch (show b ∈ ([] : List Addr) from hb)
    have run := (hF _ inB (nsB G.T.g)).run callerA [] s₁ H ⟨[.ref a], []⟩ [.ref a] [.ref a] _ _ rfl hr env (hbind s₁ (.ref a)) (.cons rfl .nil) (hsp w H a ns hlen only sq)
    refine codeAny_mono run ?_
    intro r s' h
    match r, h with
    | .error e, h => exact False.elim h
    | .ok .next, h => exact False.elim h
    | .ok .brk, h => exact False.elim h
    | .ok .cont, h => exact False.elim h
    | .ok (.ret u), h =>
      obtain ⟨v, H', hos, hbare, hun, hok', hrv, hv⟩ := h
      have hv' : v = .bl true := hv
      rw [hv'] at hrv
      obtain rfl : u = Value.bool true := hrv
      refine ⟨rfl, OldK.of_keep fun b u e => ?_, hos, hbare⟩
      cases c : H b with
      | none => exact hun.keep b u e c (fun z => nomatch (show b ∈ ([] : List Addr) from z)) (fun z => nomatch z)
      | some z =>
        rcases only b with z1 | ⟨ob, xs, z1⟩
        · rw [c] at z1; cases z1
        · obtain ⟨e1, _⟩ := ok b _ z1
          obtain ⟨e2, _⟩ := hok' b _ (hun.frzs b ob _ z1)
          rw [e] at e1
          cases e1
          exact e2
  cases c : (KK w.params).lookup a with
  | some u =>
    have e := KX a u c
    rw [hobj] at e
    cases e
    refine main (fun _ => none) (fun _ => Or.inl rfl) (Or.inr ⟨_, vs.toArray, _, c, rfl, rfl, rfl, ?_, ?_⟩) (fun b u z => nomatch (show (none : Option HO) = some u from z)) (fun b z => absurd rfl z) (fun z => absurd rfl z)
    · rw [List.size_toArray, lv]; exact hz
    · simpa using rv
  | none =>
    refine main (fun b => if b = a then some (.frz { cls := .type "list", data := .seq vs.toArray } (.lst (ns.map V.int))) else none) ?_ (Or.inl (Or.inr ⟨{ cls := .type "list", data := .seq vs.toArray }, if_pos rfl⟩)) ?_ ?_ (fun _ => c)
    · intro b
      by_cases hb : b = a
      · exact Or.inr ⟨_, _, if_pos hb⟩
      · exact Or.inl (if_neg hb)
    · intro b u z
      by_cases hb : b = a
      · have z1 := (if_pos hb).symm.trans z
        cases z1
        subst hb
        refine ⟨hobj, ?_, vs, _, rv, hobj⟩
        rw [List.length_map]; exact hz
      · have z1 := (if_neg hb).symm.trans z
        cases z1
    · intro b z
      by_cases hb : b = a
      · exact hb
      · exact absurd (if_neg hb) z
/-! ### repr of data -/
section
variable {X : Cx}
def rRepr (K : PySem.W.Frag) : List V → Hp → VK → Prop := fun vs H Q => ∃ (a : Addr) (d : PyData), vs = [.ref a] ∧ Dp K H (.ref a) d ∧ d.showable = true ∧ d.hasDict = false ∧ d.depth ≤ 40 ∧ d.shown.length ≤ sizeLine ∧ Q (.str d.shown) H
theorem cr_repr (hg : X.A.guards = some []) (hu : X.A.units + 64 < cLine) : CallR X (.builtin "repr") (rRepr X.K) := by
  intro pins s σ H vs us Q I r h
  obtain ⟨a, d, rfl, hd, hs, hn, hdp, hz, q⟩ := h
  rw [Vals.ref1 r]
  obtain ⟨as, rd⟩ := Dp.reads I d (.ref a) (.ref a) hd rfl
  exact PySem.repr_of_reads' rd hs (PyData.noDict_hsm hn) hg (by omega) (fun _ _ e => e) (fun h' u tk hk => ⟨.str d.shown, H, I.kept (t' := tk) hk, ⟨u, rfl⟩, q⟩) hz
end
end GM
set_option Elab.async false
set_option linter.all false
set_option maxRecDepth 100000
set_option maxHeartbeats 4000000
namespace GM
open PySem PySem.Spec PyProof.Rows L2
/-! ### list(reversed(xs)), xs a list -/
section
variable {prog : Program} {w : World} {A : Around} {E : Value → Shared → Prop} {s : Shared}
theorem rv_extend {R : Result → Shared → Prop} {it l : Addr} {items : Array Value} (hh : A.handled = none) (hit : s.heap.IsRevIter it l ((items.size : Int) - 1)) (hl : s.heap.IsList l items) (hne : l ≠ it) (hn : items.size ≤ sizeLine)
    (S : Addr) (hSi : S ≠ it) (hSl : S ≠ l) (res : Value) (c0 : Nat) (hS : s.heap.get? S = some { cls := .type "list", data := .seq #[] c0 })
    (hR : ∀ h' tk acc c1, (∀ b o, b ≠ S → b ≠ it → s.heap.get? b = some o → h'.get? b = some o) → h'.get? S = some { cls := .type "list", dict := none, data := .seq acc c1, slots := #[] } → ItemsOf (fun i v => items[items.size - 1 - i]? = some v) acc items.size →
      R (.ok (.ret res)) { s with heap := h', toks := tk }) :
    wpAny (model prog w) A.in1 (Builtin.List.listExtendWith (.ref S) (.ref it) res)
      (fun fin s' => match fin with | .done f => R (.ok f) s' | .again c' => c'.quiet = true ∧ codeAny (model prog w) A c' R s') (fun e s' => R (.error e) s') s := by
  have W := (Walks.listRev (prog := prog) (w := w) (A := A.in1) hh it l hne items).toS
  have hSf : S ∉ [it, l] := by simp only [List.mem_cons, List.not_mem_nil, or_false, not_or]; exact ⟨hSi, hSl⟩
  have hT : s.TypeIs (.ref it) "list_reverseiterator" := hit.typeIs
  have h1 : Builtin.List.listSameRef (.ref S) (.ref it) = false := by simp [Builtin.List.listSameRef, hSi]
  unfold Builtin.List.listExtendWith
  refine wpAny_bind (wpAny_typeOf hT ?_)
  rw [if_neg (by rw [h1]; decide)]
  refine wpAny_bind (wpAny_pyIter_revIter hit ?_)
  refine wpAny_bind (wpAny_holding ?_)
  unfold Builtin.List.listLengthHint
  refine wpAny_bind (wpAny_specialOf hT RT.nolen_lri ?_)
  show wpAny _ A.in1 (specialOf (Value.ref it) (Str.ofString "__length_hint__") >>= _) _ _ _
  refine wpAny_bind (wpAny_specialOf hT RT.hint_lri ?_)
  generalize hid : ("list_reverseiterator.__length_hint__" : String) = id0
  wp_delta
  rw [show splitId id0 = some ("list_reverseiterator", "__length_hint__") from by subst hid; decide +kernel]
  subst hid
  refine wpAny_bind (wpAny_isInstance (b := true) hT (by rw [isSubtype_type]; kernel_rfl) ?_)
  refine wpAny_pure ?_
  rw [if_neg (by decide)]
  have e0 : ((items.size : Nat) : Int) - 1 - ((0 : Nat) : Int) = (items.size : Int) - 1 := by omega
  refine wpAny_pure ⟨plainId_quiet F.plain_extend_loop _, codeAny_extend_loopS W hn S hSf res items.size 0 _ _ _ rfl (Nat.zero_le _) ⟨Nat.zero_le _, by rw [e0]; exact hit, hl⟩ hS (ItemsOf.nil _) fun s' acc c1 hm hS' hacc => ?_⟩
  rw [Moved.eq_with hm]
  refine hR s'.heap s'.toks acc c1 (fun b o hb hb2 e => hm.heap b o (fun hmem => ?_) e) hS' hacc
  rcases List.mem_cons.mp hmem with z | hmem
  · exact hb z
  · exact hb2 (List.mem_singleton.mp hmem)
theorem rv_init {R : Result → Shared → Prop} {it l : Addr} {items : Array Value} (hh : A.handled = none) (hit : s.heap.IsRevIter it l ((items.size : Int) - 1)) (hl : s.heap.IsList l items) (hne : l ≠ it) (hn : items.size ≤ sizeLine)
    (S : Addr) (hSi : S ≠ it) (hSl : S ≠ l) (hS : s.heap.get? S = some { cls := .type "list", data := .seq #[] })
    (hR : ∀ h' tk acc c1, (∀ b o, b ≠ S → b ≠ it → s.heap.get? b = some o → h'.get? b = some o) → h'.get? S = some { cls := .type "list", dict := none, data := .seq acc c1, slots := #[] } → ItemsOf (fun i v => items[items.size - 1 - i]? = some v) acc items.size →
      R (.ok (.ret .none)) { s with heap := h', toks := tk }) :
    wpAny (model prog w) A.in1 (Builtin.«list.__init__» ⟨[.ref S, .ref it], []⟩)
      (fun fin s' => match fin with | .done f => R (.ok f) s' | .again c' => c'.quiet = true ∧ codeAny (model prog w) A c' R s') (fun e s' => R (.error e) s') s := by
  show wpAny _ _ (do let old ← Builtin.List.listItems (.ref S); Builtin.List.listUpdate (.ref S) (fun _ => #[]); letGo old.toList.reverse; Builtin.List.listExtendWith (.ref S) (.ref it) .none) _ _ s
  refine wpAny_bind ?_
  unfold Builtin.List.listItems
  refine wpAny_bind (wpAny_seqItems hS rfl (wpAny_pure ?_))
  show wpAny _ _ (updateSeq S (fun _ => #[]) >>= fun _ => letGo (#[] : Array Value).toList.reverse >>= fun _ => Builtin.List.listExtendWith (.ref S) (.ref it) .none) _ _ s
  refine wpAny_bind (wpAny_updateSeq hS rfl ?_)
  have hS2 := Heap.get?_update_self (Obj.mapSeq (fun _ => (#[] : Array Value))) hS rfl
  have oth : ∀ b o, b ≠ S → s.heap.get? b = some o → (s.heap.update S (Obj.mapSeq (fun _ => (#[] : Array Value)))).get? b = some o :=
    fun b o hb e => (Heap.get?_update_other _ _ (Ne.symm hb)).trans e
  refine wpAny_bind (wpAny_letGo ?_)
  refine rv_extend hh (hit.at fun o e => oth it o hSi.symm e) (hl.at fun o e => oth l o hSl.symm e) hne hn S hSi hSl .none _ hS2 (fun h' tk acc c1 hk hS' hacc => ?_)
  exact hR h' tk acc c1 (fun b o hb hb2 e => hk b o hb hb2 (oth b o hb e)) hS' hacc
theorem rv_call {Q : Value → Shared → Prop} {it l : Addr} {items : Array Value} (hh : A.handled = none) (hit : s.heap.IsRevIter it l ((items.size : Int) - 1)) (hl : s.heap.IsList l items) (hne : l ≠ it) (hn : items.size ≤ sizeLine)
    (hQ : ∀ h' tk acc c1, (∀ b o, b ≠ it → s.heap.get? b = some o → h'.get? b = some o) → h'.get? s.heap.objs.size = some { cls := .type "list", dict := none, data := .seq acc c1, slots := #[] } →
      ItemsOf (fun i v => items[items.size - 1 - i]? = some v) acc items.size → Q (.ref s.heap.objs.size) { s with heap := h', toks := tk }) :
    wpAny (model prog w) A (call (.type "list") [.ref it]) Q E s := by
  refine callType_codes (Q₁ := fun obj s₁ => obj = .ref s.heap.objs.size ∧ s₁ = { s with heap := s.heap.push { cls := .type "list", data := .seq #[] } }) PySem.F.called_list (PySem.F.typeCall_list_1 _) PySem.F.entry_list_init
    (code_list_new _ ⟨rfl, rfl⟩) fun obj s₁ h₁ => ?_
  obtain ⟨rfl, rfl⟩ := h₁
  have hS : (s.heap.push { cls := .type "list", data := .seq #[] }).get? s.heap.objs.size = some { cls := .type "list", data := .seq #[] } := Heap.get?_push_size _ rfl
  obtain ⟨oi, hoi, _⟩ := id hit
  obtain ⟨ol, hol, _⟩ := id hl
  refine ⟨⟨_, hS, rfl⟩, PySem.F.args_list_init_2 _ _, rv_init (A := A.in1) hh (hit.at fun o e => Heap.get?_push_of_some _ e) (hl.push _) hne hn _ (Nat.ne_of_gt (Heap.lt_size hoi)) (Nat.ne_of_gt (Heap.lt_size hol)) hS (fun h' tk acc c1 hk hS' hacc => ?_)⟩
  exact ⟨rfl, hQ h' tk acc c1 (fun b o hb e => hk b o (Nat.ne_of_lt (Heap.lt_size e)) hb (Heap.get?_push_of_some _ e)) hS' hacc⟩
end
section
variable {X : Cx}
def tListRev (K : PySem.W.Frag) (te : TE) : TE := fun σ H Q => te σ H fun v H1 => ∃ (a : Addr) (xs : List V), v = .ref a ∧ SqL K H1 a xs ∧ ∀ q, H1 q = none → Q (.ref q) (upd H1 q (.lst xs.reverse))
theorem pe_listRev {e : Expr} {te : TE} {p p2 pos pos2 : Pos} (hc : X.calm = true) (hg : Gl X "list") (hm : X.mg "list" = none) (hg2 : Gl X "reversed") (hm2 : X.mg "reversed" = none) (he : PE X e te)
    (hs : starEach [e] X.env = (false, eval e X.env) :: starEach [] X.env := by rfl)
    (hs2 : starEach [.Call (.Name "reversed" p2) [e] [] pos2] X.env = (false, eval (.Call (.Name "reversed" p2) [e] [] pos2) X.env) :: starEach [] X.env := by rfl) :
    PE X (.Call (.Name "list" p) [.Call (.Name "reversed" p2) [e] [] pos2] [] pos) (tListRev X.K te) := by
  constructor
  intro pins s σ H Q I h
  refine Call_ (ld_blt I hg hm boot_list (PyProof.Rows.callWith_type1 (args_cons (Call_ (ld_blt I hg2 hm2 PyProof.Rows.boot_reversed (PyProof.Rows.callWith_type1 (args_cons (thn (he.run pins s σ H _ I h) ?_) hs) hs rfl))) hs2) hs2 rfl))
  rintro u s1 ⟨v, H1, I1, r1, a, xs, rfl, hq, q⟩
  refine args_nil ?_
  obtain rfl : u = Value.ref a := r1
  obtain ⟨its, rv, pl, hz⟩ := I1.list hq
  refine call_reversed_list pl.isList (args_nil ?_)
  have kp : ∀ b o, s1.heap.get? b = some o → (s1.heap.push (revObj a ((its.toArray.size : Int) - 1))).get? b = some o := fun b o e => Heap.get?_push_of_some _ e
  have I2 : Inv X pins σ H1 { s1 with heap := s1.heap.push (revObj a ((its.toArray.size : Int) - 1)) } := I1.kept (t' := s1.toks) kp
  have fp := I1.fpOk (H' := H1) (b := s1.heap.objs.size) (Nat.le_refl _) (I1.hok.fresh (Nat.le_refl _))
  have hl := pl.isList
  obtain ⟨ol, hol, _⟩ := id hl
  have hne : a ≠ s1.heap.objs.size := Nat.ne_of_lt (Heap.lt_size hol)
  have hn : its.toArray.size ≤ sizeLine := by rw [List.size_toArray, ← rv.length]; exact hz
  refine rv_call (s := { s1 with heap := s1.heap.push (revObj a ((its.toArray.size : Int) - 1)) }) (I1.ok.hd hc) ⟨_, Heap.get?_push_size _ rfl, rfl, rfl⟩ (hl.push _) hne hn fun h' tk acc c1 hk hS hi => ?_
  have J := I2.turnedNew (h' := h') (t' := tk) (ch := [s1.heap.objs.size]) (T := (s1.heap.push (revObj a ((its.toArray.size : Int) - 1))).objs.size) (ob := .lst xs.reverse) (fun b o hb e => hk b o (fun z => hb (by simp [z])) e) (fun b hb => by
      obtain rfl : b = s1.heap.objs.size := by simpa using hb
      exact fp) (Nat.le_refl _) (show ObjOk X.prog X.w _ _ _ (.lst xs.reverse) from ⟨by rw [List.length_reverse]; exact hz, acc.toList, c1, RT.vals_rev rv hi, by rw [Array.toArray_toList]; exact hS⟩)
  exact ⟨.ref _, _, J, rfl, q _ (I2.hok.fresh (Nat.le_refl _))⟩
end
end GM
set_option Elab.async false
set_option linter.all false
set_option maxRecDepth 100000
set_option maxHeartbeats 4000000
namespace GM
open PySem PySem.Spec PyProof.Rows L2
/-! ### data whose text is short -/
structure Sm (dp b : Nat) (d : PyData) : Prop where
  sh : d.showable = true
  nd : d.hasDict = false
  dep : d.depth ≤ dp
  lv : d.leavesShort 24 = true
  bk : d.bulk ≤ b
structure SmA (dp b : Nat) (ds : List PyData) : Prop where
  sh : PyData.showableAll ds = true
  nd : PyData.hasDictAll ds = false
  dep : PyData.depthAll ds ≤ dp
  lv : PyData.leavesShortAll 24 ds = true
  bk : PyData.bulkAll ds ≤ b
theorem short_int {i : Int} (h : i.natAbs < 10 ^ 20) : (PyData.shown (.int i)).length ≤ 24 := by
  have e := int_text_length_le10 (a := i) (k := 20) (by decide) h
  show (Str.ofString (toString i)).length ≤ 24
  have e2 : (Str.ofString (toString i)).length = (toString i).length := PySem.ofString_length _
  omega
theorem sm_non : Sm 0 0 .none := ⟨rfl, rfl, Nat.le_refl _, rfl, Nat.le_refl _⟩
theorem sm_bl (b : Bool) : Sm 0 0 (.bool b) := ⟨rfl, rfl, Nat.le_refl _, rfl, Nat.le_refl _⟩
theorem log_small {n : Nat} (h : n < 10 ^ 20) : n.log2 < 1920 := by
  by_cases c : n = 0
  · subst c; decide
  · exact (Nat.log2_lt c).mpr (Nat.lt_of_lt_of_le h (Nat.le_trans (by decide : 10 ^ 20 ≤ 2 ^ 80) (Nat.pow_le_pow_right (by decide) (by decide))))
theorem sm_big {i : Int} (h : i.natAbs < 10 ^ 20) : Sm 0 0 (.int i) := by
  refine ⟨?_, rfl, Nat.le_refl _, ?_, Nat.le_refl _⟩
  · show decide (i.natAbs.log2 < 1920) = true
    exact decide_eq_true (log_small h)
  · show decide ((PyData.shown (.int i)).length ≤ 24) = true
    exact decide_eq_true (short_int h)
theorem sm_int {i : Int} (h : -5000 ≤ i) (h2 : i ≤ 5000) : Sm 0 0 (.int i) := sm_big (Nat.lt_of_le_of_lt (show i.natAbs ≤ 5000 by omega) (by decide))
theorem Sm.mono {dp b dp' b' : Nat} {d : PyData} (s : Sm dp b d) (h1 : dp ≤ dp') (h2 : b ≤ b') : Sm dp' b' d := ⟨s.sh, s.nd, Nat.le_trans s.dep h1, s.lv, Nat.le_trans s.bk h2⟩
theorem sma_nil : SmA 0 0 [] := ⟨rfl, rfl, Nat.le_refl _, rfl, Nat.le_refl _⟩
theorem SmA.mono {dp b dp' b' : Nat} {d : List PyData} (s : SmA dp b d) (h1 : dp ≤ dp') (h2 : b ≤ b') : SmA dp' b' d := ⟨s.sh, s.nd, Nat.le_trans s.dep h1, s.lv, Nat.le_trans s.bk h2⟩
theorem sma_cons {dp b c : Nat} {d : PyData} {ds : List PyData} (h : Sm dp b d) (t : SmA dp c ds) : SmA dp (b + 1 + c) (d :: ds) := by
  refine ⟨?_, ?_, ?_, ?_, ?_⟩
  · show (d.showable && PyData.showableAll ds) = true
    rw [h.sh, t.sh]; rfl
  · show (d.hasDict || PyData.hasDictAll ds) = false
    rw [h.nd, t.nd]; rfl
  · show max d.depth (PyData.depthAll ds) ≤ dp
    have := h.dep
    have := t.dep
    omega
  · show (d.leavesShort 24 && PyData.leavesShortAll 24 ds) = true
    rw [h.lv, t.lv]; rfl
  · show d.bulk + 1 + PyData.bulkAll ds ≤ _
    have := h.bk
    have := t.bk
    omega
theorem sma_all {dp b : Nat} : ∀ {ds : List PyData}, (∀ d ∈ ds, Sm dp b d) → SmA dp ((b + 1) * ds.length) ds
  | [], _ => ⟨rfl, rfl, Nat.zero_le _, rfl, Nat.zero_le _⟩
  | d :: ds, h => (sma_cons (h d List.mem_cons_self) (sma_all fun x hx => h x (List.mem_cons_of_mem _ hx))).mono (Nat.le_refl _) (by rw [List.length_cons, Nat.mul_succ]; omega)
theorem sm_lst {dp b : Nat} {ds : List PyData} (h : SmA dp b ds) : Sm (dp + 1) b (.list ds) := by
  refine ⟨h.sh, h.nd, ?_, h.lv, h.bk⟩
  show PyData.depthAll ds + 1 ≤ dp + 1
  exact Nat.succ_le_succ h.dep
theorem sm_tup {dp b : Nat} {ds : List PyData} (h : SmA dp b ds) : Sm (dp + 1) b (.tuple ds) := by
  refine ⟨h.sh, h.nd, ?_, h.lv, h.bk⟩
  show PyData.depthAll ds + 1 ≤ dp + 1
  exact Nat.succ_le_succ h.dep
theorem Sm.len {dp b : Nat} {d : PyData} (h : Sm dp b d) (hb : b ≤ 100000) : d.shown.length ≤ sizeLine := by
  have e := PyData.shown_le_bulk 24 (by decide) d h.lv
  have := h.bk
  have := sizeLine_eq
  omega
/-- what repr wants -/
theorem repr_ok {K : PySem.W.Frag} {H : Hp} {a : Addr} {d : PyData} {dp b : Nat} {Q : VK} (hd : Dp K H (.ref a) d) (h : Sm dp b d) (hdp : dp ≤ 40) (hb : b ≤ 100000) (q : Q (.str d.shown) H) : rRepr K [.ref a] H Q :=
  ⟨a, d, rfl, hd, h.sh, h.nd, Nat.le_trans h.dep hdp, h.len hb, q⟩
/-! ### data while the heap grows -/
mutual
theorem dp_same {K : PySem.W.Frag} {H H' : Hp} (s : Same H H') : ∀ {v : V} {d : PyData}, Dp K H v d → Dp K H' v d
  | _, _, .non => .non
  | _, _, .bl b => .bl b
  | _, _, .int i => .int i
  | _, _, .str x => .str x
  | _, _, .lst h t => .lst (s.seq h) (dpa_same s t)
  | _, _, .tup h t => .tup (seqT_same s h) (dpa_same s t)
theorem dpa_same {K : PySem.W.Frag} {H H' : Hp} (s : Same H H') : ∀ {vs : List V} {ds : List PyData}, DpAll K H vs ds → DpAll K H' vs ds
  | _, _, .nil => .nil
  | _, _, .cons h t => .cons (dp_same s h) (dpa_same s t)
end
/-- the heap without a -/
def del (H : Hp) (a : Addr) : Hp := fun b => if b = a then Option.none else H b
theorem del_ne {H : Hp} {a b : Addr} (h : b ≠ a) : del H a b = H b := if_neg h
theorem del_up {H : Hp} {a : Addr} : Same (del H a) H := fun b o e => by
  by_cases c : b = a
  · rw [show del H a b = Option.none from if_pos c] at e; exact nomatch e
  · rw [del_ne c] at e; exact e
theorem del_mono {H H' : Hp} {a : Addr} (s : Same H H') : Same (del H a) (del H' a) := fun b o e => by
  by_cases c : b = a
  · rw [show del H a b = Option.none from if_pos c] at e; exact nomatch e
  · rw [del_ne c] at e ⊢; exact s _ _ e
theorem del_upd {H : Hp} {a : Addr} {o : HO} : del (upd H a o) a = del H a := by
  funext b
  by_cases c : b = a
  · rw [show del (upd H a o) a b = Option.none from if_pos c, show del H a b = Option.none from if_pos c]
  · rw [del_ne c, del_ne c, upd_ne c]
/-- what is new in H since H0, but for a -/
def nw (H0 H : Hp) (a : Addr) : Hp := fun b => if H0 b = Option.none ∧ b ≠ a then H b else Option.none
def newH (H0 H : Hp) : Hp := fun b => if H0 b = Option.none then H b else Option.none
theorem nw_at {H0 H : Hp} {a b : Addr} (h : H0 b = Option.none) (n : b ≠ a) : nw H0 H a b = H b := if_pos ⟨h, n⟩
theorem nw_mono {H0 H H' : Hp} {a : Addr} (s : Same H H') : Same (nw H0 H a) (nw H0 H' a) := fun b o e => by
  unfold nw at e ⊢
  by_cases c : H0 b = Option.none ∧ b ≠ a
  · rw [if_pos c] at e ⊢; exact s _ _ e
  · rw [if_neg c] at e; exact nomatch e
theorem nw_upd {H0 H : Hp} {a : Addr} {o : HO} : nw H0 (upd H a o) a = nw H0 H a := by
  funext b
  unfold nw
  by_cases c : H0 b = Option.none ∧ b ≠ a
  · rw [if_pos c, if_pos c, upd_ne c.2]
  · rw [if_neg c, if_neg c]
theorem nw_new {H0 H : Hp} {a : Addr} : Same (nw H0 H a) (newH H0 H) := fun b o e => by
  unfold nw at e
  unfold newH
  by_cases c : H0 b = Option.none ∧ b ≠ a
  · rw [if_pos c] at e; rw [if_pos c.1]; exact e
  · rw [if_neg c] at e; exact nomatch e
theorem new_up {H0 H : Hp} : Same (newH H0 H) H := fun b o e => by
  unfold newH at e
  by_cases c : H0 b = Option.none
  · rw [if_pos c] at e; exact e
  · rw [if_neg c] at e; exact nomatch e
theorem new_del {H0 H : Hp} {a : Addr} (h : H0 a ≠ Option.none) : Same (newH H0 H) (del H a) := fun b o e => by
  unfold newH at e
  by_cases c : H0 b = Option.none
  · rw [if_pos c] at e
    have n : b ≠ a := fun z => h (by rw [← z]; exact c)
    rw [del_ne n]; exact e
  · rw [if_neg c] at e; exact nomatch e
theorem dpa_snoc {K : PySem.W.Frag} {H : Hp} {v : V} {d : PyData} (h : Dp K H v d) : ∀ {vs : List V} {ds : List PyData}, DpAll K H vs ds → DpAll K H (vs ++ [v]) (ds ++ [d])
  | _, _, .nil => .cons h .nil
  | _, _, .cons a t => .cons a (dpa_snoc h t)
theorem dpa_len {K : PySem.W.Frag} {H : Hp} : ∀ {vs : List V} {ds : List PyData}, DpAll K H vs ds → vs.length = ds.length
  | _, _, .nil => rfl
  | _, _, .cons _ t => by rw [List.length_cons, List.length_cons, dpa_len t]
end GM
set_option Elab.async false
set_option linter.all false
set_option maxRecDepth 100000
set_option maxHeartbeats 4000000
namespace PySem
namespace NotAPlayX
open PySem.W PySem.Calls PyProof.Rows PySem.HandSPX
def iA (p1 p2 : Pos) : Arguments := { posonlyargs := [], args := [{ arg := "self", annotation := none, pos := p1 }, { arg := "index", annotation := none, pos := p2 }], vararg := none, kwonlyargs := [], kw_defaults := [], kwarg := none, defaults := [] }
def iB (q1 q2 q3 q4 : Pos) : List Stmt := [.Assign [.Attribute (.Name "self" q1) "index" q2] (.Name "index" q3) q4]
def iS : Scope := { kind := .function, names := [(PySem.Str.ofString "self", .local), (PySem.Str.ofString "index", .local)], isGenerator := false, isCoroutine := false, more := [] }
structure Txt (K : Frag) (mg : Str → Option Value) (C fI : Addr) : Prop where
  gC : mg "NotAPlay" = some (.ref C)
  cls : ∃ nm q N bs bm sn sub ab col dd k0 k1 k2 k3 k5, K.lookup C = some (excClassObj nm q C N bs bm true sn sub ab col dd k0 k1 k2 k3 k5 "ValueError.__new__") ∧ refsVE bm = true
  sa : findIn K (.ref C) "__setattr__" = some (some (.builtin "object.__setattr__"))
  ga : findIn K (.ref C) "__getattribute__" = some (some (.builtin "BaseException.__getattribute__"))
  gg : findIn K (.ref C) "__getattr__" = some none
  noN : findIn K (.ref C) "index" = some none
  iC : findIn K (.ref C) "__init__" = some (some (.ref fI))
  tC : typeIn K (.ref fI) = some (.type "function")
  kC : keepIn K (.ref C) = true
  exC : subIn K (.ref C) (.type "BaseException") = some true
  tyC : typeIn K (.ref C) = some (.type "type")
  hdC : hasDictIn K C = true
  ca : findIn K (.ref C) "__class__" = some (some (.builtin "object.__class__"))
  sp : specialIn K (.builtin "object.__class__") "__get__" = some (some (.builtin "getset_descriptor.__get__"))
  tk : takesIn K (.builtin "object.__class__") = some true
  mo : mroIn K C (.type "object") = some true
  fn : ∃ (oc : Value) (od : Option Addr) (doc pm : Value) (an : Option Addr) (cdv ct : Value) (osl : Array (Option Value)) (p1 p2 q1 q2 q3 q4 : Pos),
    K.lookup fI = some ⟨oc, od, .func (fnOf "__init__" "NotAPlay.__init__" (iA p1 p2) (iB q1 q2 q3 q4) iS .none .none doc pm an cdv ct), osl⟩ ∧ codeIn K cdv "NotAPlay.__init__" = true
theorem one_size (v : Value) : [v].length ≤ sizeLine := by
  rw [sizeLine_eq]
  exact (by decide : 1 ≤ 16777216)
theorem ldC {M : Model} {s : Shared} {name : Str} {scope : Scope} {L a : Addr} {cd : Value} {m : Str → Option Value} {x : Str} {pos : Pos} {v : Value} {Q : Value → Shared → Prop} {A : Around} {E : Value → Shared → Prop} (hn : s.heap.Ns L m) (hv : m x = some v) (h : Q v s)
    (hk : scope.kind = .function := by rfl) (hl : (envOfC name scope L a cd).kindOf x = some .local := by rfl) (hd : (x == ("__debug__" : Str)) = false := by decide) :
    wpAny M A (eval (.Name x pos) (envOfC name scope L a cd)) Q E s := wpAny_Name (wpAny_loadName_local hk hl hn hv h) hd
structure InitEnd (h h' : Heap) (x C dx t1 : Addr) (v : Value) : Prop where
  keep : ∀ b o, b ≠ x → h.get? b = some o → h'.get? b = some o
  obj : h'.get? x = some { cls := .ref C, dict := some dx, data := .fields #[.ref t1, .none, .none, .none, .bool false, .none] }
  dbig : h.objs.size ≤ dx
  dne : dx ≠ x
  ns : h'.Ns1 dx (fun y => if y = "index" then some v else none)
structure OwnMade (h h' : Heap) (e C d : Addr) (v : Value) : Prop where
  keep : ∀ b o, h.get? b = some o → h'.get? b = some o
  new : h.objs.size ≤ e
  obj : ∃ t1 : Addr, h'.get? e = some { cls := .ref C, dict := some d, data := .fields #[.ref t1, .none, .none, .none, .bool false, .none] }
  dbig : h.objs.size ≤ d
  dne : d ≠ e
  ns : h'.Ns1 d (fun y => if y = "index" then some v else none)
section
variable {prog : Program} {w : World} {A : Around} {E : Value → Shared → Prop} {R : Result → Shared → Prop} {s : Shared} {K : Frag} {mg : Str → Option Value} {C fI : Addr}
theorem err_init (T : Txt K mg C fI) {x t0 : Addr} {v : Value} (X : K.In s.heap) (hlim : s.heap.NoLimit) (hx : s.heap.get? x = some (excO C t0)) (hnx : K.lookup x = none) (hroom : A.depth < recursionLimit)
    (hq : ∀ h' tk dx, InitEnd s.heap h' x C dx t0 v → R (.ok (.ret .none)) { s with heap := h', toks := tk }) :
    codeAny (model prog w) A (.call (.ref fI) ⟨[.ref x, v], []⟩) R s := by
  obtain ⟨oc, od, doc, pm, an, cdv, ct, osl, p1, p2, q1, q2, q3, q4, ho, hcd⟩ := T.fn
  obtain ⟨nm, q, N, bs, bm, sn, sub, ab, col, dd, k0, k1, k2, k3, k5, hC, hbm⟩ := T.cls
  have hcl : clsIn K C = some { name := nm, bases := bs, mro := .ref C :: bm, ns := N, qualname := q, hasDict := true, slotNames := sn, subclasses := sub, abstract := ab, collection := col, hasDel := false } := by unfold clsIn; rw [hC] <;> rfl
  refine Att.call_fn (binds := [("self", .ref x), ("index", v)]) X hlim ho hcd hroom (BindsTo.of_eq (by first | rfl | with_unfolding_all rfl)) (by first | rfl | decide | with_unfolding_all rfl) (fun s₁ IC => ?_) rfl rfl rfl
  obtain ⟨h₁, tk₁, rfl⟩ := IC.toInCall.same
  have k : ∀ b o, s.heap.get? b = some o → h₁.get? b = some o := IC.toInCall.keep
  have hn := IC.toInCall.ns
  have X₁ : K.In h₁ := X.keeps k
  have hx₁ := k _ _ hx
  show wpAny _ _ (execs _ _) _ _ _
  refine wpAny_execs_cons (plainObj_wpAny_Assign_Attribute ?_)
  refine ldC (v := v) hn (by first | rfl | with_unfolding_all rfl | kernel_rfl) (ldC (v := .ref x) hn (by first | rfl | with_unfolding_all rfl | kernel_rfl) ?_)
  refine set_plain X₁ (ox := excO C t0) (od := none) ⟨hx₁, rfl, rfl, trivial⟩ T.sa ?_
  refine exc_osa X₁ hx₁ hcl (show refsVE (.ref C :: bm) = true from hbm) rfl T.noN (fun h₃ tk₃ dx k₃ dn dne hx₃ hn₃ => ?_)
  show wpAny _ _ (execs _ _) _ _ _
  have z : s.heap.objs.size < h₁.objs.size := hn.lt
  exact wpAny_execs_nil (hq h₃ tk₃ dx ⟨fun b o hb e => k₃ b o hb (k b o e), hx₃, Nat.le_of_lt (Nat.lt_of_lt_of_le z dn), dne, hn₃⟩)
theorem err_made (T : Txt K mg C fI) {v : Value} (X : K.In s.heap) (hlim : s.heap.NoLimit) (hroom : A.depth + 1 < recursionLimit)
    (hq : ∀ h' tk e d, OwnMade s.heap h' e C d v → R (.ok (.ret (.ref e))) { s with heap := h', toks := tk }) :
    codeAny (model prog w) A (.call (.ref C) ⟨[v], []⟩) R s := by
  obtain ⟨nm, q, N, bs, bm, sn, sub, ab, col, dd, k0, k1, k2, k3, k5, hC, hbm⟩ := T.cls
  obtain ⟨hp, g, dr, tk, os⟩ := s
  have k : ∀ b o, hp.get? b = some o → ((hp.push (kdv_tup [v])).push (excO C hp.objs.size)).get? b = some o := fun b o e => Heap.get?_push_of_some _ (Heap.get?_push_of_some _ e)
  have hget : ((hp.push (kdv_tup [v])).push (excO C hp.objs.size)).get? (hp.objs.size + 1) = some (excO C hp.objs.size) := by heap_get
  have hnx : K.lookup (hp.objs.size + 1) = none := by
    cases e : K.lookup (hp.objs.size + 1) with
    | none => rfl
    | some o =>
      have z : hp.get? (hp.objs.size + 1) = some o := X _ _ e
      exact absurd (Nat.lt_of_succ_lt (Heap.lt_size z)) (Nat.lt_irrefl _)
  refine call_own F.excBase_ValueError (fun X => refsVE_contains X bm hbm) (X _ _ hC) (looks_findIn X T.iC) (fun self => bind_fn X self T.tC) (one_size v) ?_
  refine err_init (s := ⟨(hp.push (kdv_tup [v])).push (excO C hp.objs.size), g, dr, tk, os⟩) T (X.keeps k) (hlim.keeps k) hget hnx ?_ fun h' tk' dx ⟨k', hx, dn, dne, hns⟩ => ?_
  · show A.depth + 1 < recursionLimit
    exact hroom
  · have old : ∀ b o, hp.get? b = some o → h'.get? b = some o := fun b o e => k' b o (Nat.ne_of_lt (Nat.lt_succ_of_lt (Heap.lt_size e))) (k b o e)
    have z : hp.objs.size + 1 + 1 ≤ dx := by
      first
        | (simpa only [Heap.size_push] using dn)
        | exact dn
        | (have q := dn; rw [Heap.size_push, Heap.size_push] at q; exact q)
    exact ⟨rfl, hq h' tk' (hp.objs.size + 1) dx ⟨old, Nat.le_succ _, ⟨_, hx⟩, Nat.le_trans (Nat.le_trans (Nat.le_succ _) (Nat.le_succ _)) z, dne, hns⟩⟩
end
end NotAPlayX
end PySem
namespace GM
open PySem PySem.Spec PyProof.Rows L2
theorem relO_NotAPlay {v : V} {v' : Value} (r : RelV v v') (f : Str) : RelO (List.lookup f [(("index" : Str), v)]) (if f = "index" then some v' else none) := by
  by_cases hw : f = "index"
  · subst hw
    rw [if_pos rfl]
    have q : List.lookup ("index" : Str) [(("index" : Str), v)] = some v := by simp [List.lookup]
    rw [q]
    exact r
  · rw [if_neg hw]
    have qw : (f == ("index" : Str)) = false := by simpa using hw
    have q2 : List.lookup f [(("index" : Str), v)] = none := by simp [List.lookup, qw]
    rw [q2]
    trivial
section
variable {X : Cx} {C fI : Addr}
/-- NotAPlay(e) -/
def tMkNotAPlay (C : Addr) (ta : TA) : L2.St → Hp → XK → Prop := fun σ H Q => ta σ H fun vs H1 => ∃ v, vs = [v] ∧ ∀ d, H1 d = none → Q (.ref C) (some d) (upd H1 d (.xd [(("index" : Str), v)]))
theorem pmk_NotAPlay {a : Expr} {ta : TA} {p pos : Pos} {k : Nat} (T : PySem.NotAPlayX.Txt X.K X.mg C fI) (hr : Room k X.A) (ha : PA X [a] ta) (hg : Gl X "NotAPlay" := by rfl)
    (he : starEach (a :: []) X.env = (false, eval a X.env) :: starEach [] X.env := by rfl) (hpl : (backTo pos (starEach [] X.env)).any (·.1) = false := by rfl) :
    L2N.PMk X (.Call (.Name "NotAPlay" p) [a] [] pos) (tMkNotAPlay C ta) := by
  intro pins s σ H Q I h
  refine wpAny_Call_Name_kw (ld_glob I hg T.gC ?_)
  refine PySem.W.callWith_K (h₀ := X.base) I.ok.mod.kin T.kC (thn (ha.run pos pins s σ H _ I h) fun us s1 hh => ?_) he hpl
  obtain ⟨vs, H1, I1, r1, v, ev, q1⟩ := hh
  subst ev
  refine ⟨I1.kIn, ?_⟩
  cases r1 with
  | cons rv rn =>
    rename_i v' us'
    cases rn
    show wpAny _ _ (call (.ref C) [v']) _ _ _
    have hlim := I1.nolimit
    obtain ⟨hp, g, dr, tk, os⟩ := s1
    refine wpAny_call (PySem.NotAPlayX.err_made T I1.kIn hlim (by have := hr.dp; omega) fun h' tk' e d M => ?_)
    show L2N.MkP X pins σ Q (.ref e) ⟨h', g, dr, tk', os⟩
    obtain ⟨t1, hoe⟩ := M.obj
    have hns := M.ns
    obtain ⟨G', g1, g2⟩ := restrict h' fun b => decide (b ≠ e)
    have gk : ∀ b, b ≠ e → G'.get? b = h'.get? b := fun b hb => g1 b (decide_eq_true hb)
    have ge : G'.get? e = none := g2 e (by simp)
    have old : ∀ b o, hp.get? b = some o → G'.get? b = some o := fun b o q => (gk b (Nat.ne_of_lt (Nat.lt_of_lt_of_le (Heap.lt_size q) M.new))).trans (M.keep b o q)
    have ob : ObjOk X.prog X.w (upd H1 d (.xd [(("index" : Str), v)])) G' d (.xd [(("index" : Str), v)]) :=
      ⟨_, hns.at (fun o q => (gk d M.dne).trans q), fun f => relO_NotAPlay rv f⟩
    have J : Inv X pins σ (upd H1 d (.xd [(("index" : Str), v)])) ⟨G', g, dr, tk', os⟩ := I1.laid (t' := tk') old M.dbig ob
    refine ⟨e, _, _, ⟨G', g, dr, tk', os⟩, _, .ref C, some d, rfl, J, fun b o q => ?_, ge, hoe, ⟨rfl, rfl, fun vs z => by cases z; rfl⟩, rfl, rfl, ?_, rfl, I1.bare, raises_own T.exC T.tyC, q1 d (I1.hok.fresh M.dbig)⟩
    · by_cases hb : b = e
      · have q' : G'.get? b = some o := q
        rw [hb, ge] at q'; cases q'
      · exact (gk b hb).symm.trans q
    · rw [upd_ne (Ne.symm M.dne)]
      exact I1.hok.fresh M.new
/-- raise NotAPlay(e) -/
def tRaiseNotAPlay (C : Addr) (W : WX) (ta : TA) : TS := fun _ σ H => tMkNotAPlay C ta σ H fun cls d H' => W cls d σ H'
theorem ps_raiseNotAPlay {a : Expr} {ta : TA} {W : WX} {p pos pos2 : Pos} {k : Nat} (hc : X.calm = true) (T : PySem.NotAPlayX.Txt X.K X.mg C fI) (hr : Room k X.A) (tk : L2N.Takes X W) (ha : PA X [a] ta) (hg : Gl X "NotAPlay" := by rfl)
    (he : starEach (a :: []) X.env = (false, eval a X.env) :: starEach [] X.env := by rfl) (hpl : (backTo pos (starEach [] X.env)).any (·.1) = false := by rfl) :
    PS X (.Raise (some (.Call (.Name "NotAPlay" p) [a] [] pos)) none pos2) (tRaiseNotAPlay C W ta) := L2N.ps_raise hc tk (pmk_NotAPlay T hr ha hg he hpl)
/-- e.index, e the error that the suite holds -/
def tByNotAPlay (C : Addr) (a : Addr) (cls : Value) (d : Option Addr) (te : TE) : TE := fun σ H Q => te σ H fun x H1 => x = .ref a ∧ cls = .ref C ∧ ∃ (dd : Addr) (v : V), d = some dd ∧ H1 dd = some (.xd [(("index" : Str), v)]) ∧ Q v H1
theorem pe_byNotAPlay {a : Addr} {oe : Obj} {cls : Value} {d : Option Addr} {pn : List (Addr × Obj)} {e : Expr} {te : TE} {pos : Pos} (T : PySem.NotAPlayX.Txt X.K X.mg C fI) (hz : Zc cls d oe) (hf : ∃ vs, oe.data = .fields vs) (he : PE (X.suite a ((a, oe) :: pn)) e te)
    (hb : attributeBase e "index" X.env (eval e X.env) = eval e X.env := by rfl) :
    PE (X.suite a ((a, oe) :: pn)) (.Attribute e "index" pos) (tByNotAPlay C a cls d te) := by
  refine ⟨fun pins s σ H Q I h => ?_⟩
  refine attr_of hb (thn (he.run pins s σ H _ I h) fun u s1 hh => ?_)
  obtain ⟨x, H1, I1, rx, ex, ec, dd, v, ed, ea, q⟩ := hh
  subst ex
  obtain rfl : u = Value.ref a := rx
  subst ec
  subst ed
  obtain ⟨ha, _⟩ := I1.pin (a, oe) (List.mem_append_left _ List.mem_cons_self)
  obtain ⟨vs, hd⟩ := hf
  have hx : ObjOk X.prog X.w H1 s1.heap dd (.xd [(("index" : Str), v)]) := I1.hok dd _ ea
  obtain ⟨mA, hns, hr⟩ := hx
  obtain ⟨od, ho, hl⟩ := lookIn_ns hns
  have l : List.lookup ("index" : Str) [(("index" : Str), v)] = some v := by simp [List.lookup]
  obtain ⟨u, hu, ru⟩ := RelO.some_of (v := v) (o := mA "index") (by rw [← l]; exact hr "index")
  have J : PySem.W.InstAt s1.heap a oe C (some od) := ⟨ha, hz.1, by unfold PySem.W.notCls; rw [hd] <;> rfl, by rw [hz.2]; exact ho⟩
  exact HandSPX.exc_get I1.kIn J T.ga T.gg T.exC (PySem.W.findObj_own T.hdC T.noN rfl (by rw [hl, hu])) (handed_of ru) ⟨v, H1, I1.tok _, ru, q⟩
/-- isinstance(e, c), e the error that the suite holds -/
def rIsNotAPlay (K : PySem.W.Frag) (C a : Addr) (cls : Value) (d : Option Addr) : List V → Hp → VK → Prop := fun xs H Q => ∃ (c : V) (cv : Value) (b : Bool) (dd : Addr) (v : V), xs = [.ref a, c] ∧ cls = .ref C ∧ d = some dd ∧ H dd = some (.xd [(("index" : Str), v)]) ∧ (∀ u, RelV c u → u = cv) ∧ PySem.W.kitOne K (.ref C) cv = some b ∧ Q (.bl b) H
theorem call_isNotAPlay {a : Addr} {oe : Obj} {cls : Value} {d : Option Addr} {pn : List (Addr × Obj)} (T : PySem.NotAPlayX.Txt X.K X.mg C fI) (hz : Zc cls d oe) (hf : ∃ vs, oe.data = .fields vs) : CallR (X.suite a ((a, oe) :: pn)) (.builtin "isinstance") (rIsNotAPlay X.K C a cls d) := by
  intro pins s σ H xs us Q I r h
  obtain ⟨c, cv, b, dd, v, rfl, ec, ed, ea, hcv, e, q⟩ := h
  subst ec
  subst ed
  cases r with
  | cons rx rr =>
    cases rr with
    | cons rt rr =>
      cases rr
      cases rx
      have ec := hcv _ rt
      subst ec
      obtain ⟨hget, _⟩ := I.pin (a, oe) (List.mem_append.mpr (.inl List.mem_cons_self))
      obtain ⟨vs, hv⟩ := hf
      have hx : ObjOk X.prog X.w H s.heap dd (.xd [(("index" : Str), v)]) := I.hok dd _ ea
      obtain ⟨mA, hns, hr⟩ := hx
      obtain ⟨od, ho, hl⟩ := lookIn_ns hns
      have J : PySem.W.InstAt s.heap a oe C (some od) := ⟨hget, hz.1, by unfold PySem.W.notCls; rw [hv] <;> rfl, by rw [hz.2]; exact ho⟩
      have hcl : (PySem.W.clsIn X.K C).isSome = true := by
        obtain ⟨nm, q, N, bs, bm, sn, sub, ab, col, dd, k0, k1, k2, k3, k5, hC, hbm⟩ := T.cls
        unfold PySem.W.clsIn; rw [hC]; rfl
      exact PySem.W.kia_one (PySem.W.kitx_exc hcl T.ga T.gg T.exC T.ca T.sp T.tk T.mo) I.kIn J e (fun z => nomatch z) fun tk => ⟨.bl b, H, I.kept (t' := tk) fun _ _ z => z, rfl, q⟩
end
end GM
set_option Elab.async false
set_option linter.all false
set_option maxRecDepth 100000
set_option maxHeartbeats 4000000
namespace GM
open PySem PySem.Spec PyProof.Rows L2
/-! ### a def of FnG is called -/
section
variable {X : Cx} {CX : CXT} {k : Nat} {f : Addr} {fd : FuncData} {ps : List Str} {sp : Sp} {E : XK} {x : Str} {p pos : Pos} {e : Expr} {es : List Expr} {t : TA}
theorem run_g {pins : List (Addr × Obj)} {σ : L2.St} {H : Hp} {s : Shared} {Q : VK} {us : List Value} {vs : List V} (F : FnG X.prog X.w X.K X.mg X.base CX k f fd ps sp) (hgd : X.A.guards = some []) (hr : Room k X.A) (hb : Binds X.K fd ps []) (hx : Passes CX X E)
    (I : Inv X pins σ H s) (rv : Vals vs us) (h : sp vs H Q E) : wpAny (model X.prog X.w) X.A (call (.ref f) us) (EP X pins σ Q) X.xe s := by
  have el : us.length = ps.length := by rw [← rv.length]; exact F.len _ _ _ _ h
  have bt := hb s us I.kIn (by rw [List.append_nil]; exact el)
  rw [List.append_nil] at bt
  refine wpAny_call (codeAny_mono (F.run X.A X.stack s H ⟨us, []⟩ us vs Q E hgd hr I.env0 bt rv h) ?_)
  intro r s1 hq
  match r, hq with
  | .error e, hq => exact hx pins σ H s e s1 I hq
  | .ok (.ret u), hq => exact I.after hq
  | .ok .next, hq => exact hq.elim
  | .ok .brk, hq => exact hq.elim
  | .ok .cont, hq => exact hq.elim
theorem pe_callG (F : FnG X.prog X.w X.K X.mg X.base CX k f fd ps sp) (hgd : X.A.guards = some []) (hr : Room k X.A) (hg : Gl X x) (hm : X.mg x = some (.ref f)) (hk : PySem.W.keepIn X.K (.ref f) = true) (hb : Binds X.K fd ps []) (hx : Passes CX X E)
    (ha : PA X (e :: es) t) (hdb : (x == ("__debug__" : Str)) = false := by decide) (he : starEach (e :: es) X.env = (false, eval e X.env) :: starEach es X.env := by rfl) (hpl : (backTo pos (starEach es X.env)).any (·.1) = false := by rfl) :
    PE X (.Call (.Name x p) (e :: es) [] pos) (tCallS sp (fun _ => E) t) := by
  constructor
  intro pins s σ H Q I h
  refine wpAny_Call_Name_kw (ld_glob I hg hm ?_ hdb)
  refine PySem.W.callWith_K (h₀ := X.base) I.ok.mod.kin hk (thn (ha.run pos pins s σ H _ I h) ?_) he hpl
  rintro us s1 ⟨vs, H1, I1, r, q⟩
  exact ⟨I1.kIn, run_g F hgd hr hb hx I1 r q⟩
end
/-! ### defs that raise, errors whose context is None -/
theorem takes0N {X : Cx} : L2N.Takes X (fun _ _ _ _ => False) := by
  rintro _ _ ⟨_, _, _, _, _, _, _, _, _, _, _, _, _, _, _, _, z⟩
  exact z.elim
theorem okN {P : Program} {w : World} {K : PySem.W.Frag} {mg : Str → Option Value} {g : Heap} {x qn : Str} {st : Stmt} {f : Addr} {fd : FuncData} {N ps : List Str} {k : Nat} {sp : Sp} (F : Fun K x qn st f fd) (S : FnScope N ps (defScope st)) (ln : ∀ vs H Q E, sp vs H Q E → vs.length = ps.length)
    (hb : ∀ (cdv : Value) (B : Around) (out : List Env) (t : Shared) (H : Hp) (vs : List V) (Q : VK) (E : XK), Room k (B.deeper (envOfC qn (defScope st) t.heap.objs.size f cdv)) → sp vs H Q E →
      ∃ r, PSs (cxOf (L2N.CX P w) P w K mg g N qn (defScope st) f cdv B out t H E) (defBody st) r ∧ r { nx := fun _ H' => Q .non H', rt := Q } (start N vs) H) : FnOk P w K mg g (L2N.CX P w) (k + 1) f fd ps sp := by
  obtain ⟨oc, od, kV, doc, pm, an, cdv, ct, sl, rfl, lk, hcd⟩ := F.ex
  exact fn_of lk hcd S ln fun B out t H vs Q E hr hsp => hb cdv B out t H vs Q E hr hsp
/-- the same, met by a try around it -/
structure KnX (P : Program) (w : World) (K : PySem.W.Frag) (mg : Str → Option Value) (base : Heap) (k : Nat) (x : Str) (ps : List Str) (sp : Sp) where
  f : Addr
  fd : FuncData
  ok : FnOk P w K mg base (L2N.CX P w) k f fd ps sp
  b : Binds K fd ps []
  kp : PySem.W.keepIn K (.ref f) = true
  m : mg x = some (.ref f)
structure KnG (P : Program) (w : World) (K : PySem.W.Frag) (mg : Str → Option Value) (base : Heap) (k : Nat) (x : Str) (ps : List Str) (sp : Sp) where
  f : Addr
  fd : FuncData
  ok : FnG P w K mg base CX0 k f fd ps sp
  b : Binds K fd ps []
  kp : PySem.W.keepIn K (.ref f) = true
  m : mg x = some (.ref f)
structure KnH (P : Program) (w : World) (K : PySem.W.Frag) (mg : Str → Option Value) (base : Heap) (k : Nat) (x : Str) (ps : List Str) (sp : Sp) where
  f : Addr
  fd : FuncData
  ok : L2H.FnH P w K mg base CX0 k f fd ps sp
  b : Binds K fd ps []
  kp : PySem.W.keepIn K (.ref f) = true
  m : mg x = some (.ref f)
theorem hot_suite {X : Cx} {a : Addr} {oe : Obj} {cls : Value} {d : Option Addr} {pn : List (Addr × Obj)} (hz : L2N.Zn cls d oe) (hf : ∃ vs, oe.data = .fields vs) : L2H.HotC (X.suite a ((a, oe) :: pn)) := by
  obtain ⟨vs, hv⟩ := hf
  exact ⟨(a, oe), ⟨rfl, vs, hv, hz.2.2 vs hv⟩, List.mem_cons_self⟩
theorem passAt0 {X : Cx} {σ : L2.St} : PassesAt CX0 X σ E0 := fun _ _ _ _ _ _ h => h.elim
theorem okH {P : Program} {w : World} {K : PySem.W.Frag} {mg : Str → Option Value} {g : Heap} {x qn : Str} {st : Stmt} {f : Addr} {fd : FuncData} {N ps : List Str} {k : Nat} {sp : Sp} (F : Fun K x qn st f fd) (S : FnScope N ps (defScope st)) (ln : ∀ vs H Q E, sp vs H Q E → vs.length = ps.length)
    (hb : ∀ (cdv : Value) (B : Around) (out : List Env) (t : Shared) (H : Hp) (vs : List V) (Q : VK) (E : XK) (p : Addr × Obj), L2H.Hot1 B p → L2H.RoomH k (B.deeper (envOfC qn (defScope st) t.heap.objs.size f cdv)) → sp vs H Q E →
      ∃ r, PSs (L2H.cxH CX0 P w K mg g N qn (defScope st) f cdv B out t H E p) (defBody st) r ∧ r { nx := fun _ H' => Q .non H', rt := Q } (start N vs) H) : L2H.FnH P w K mg g CX0 (k + 1) f fd ps sp := by
  obtain ⟨oc, od, kV, doc, pm, an, cdv, ct, sl, rfl, lk, hcd⟩ := F.ex
  exact L2H.fn_ofH lk hcd S ln fun B out t H vs Q E p hp hr hsp => hb cdv B out t H vs Q E p hp hr hsp
section
variable {P : Program} {w : World} {K : PySem.W.Frag} {mg : Str → Option Value} {base : Heap} (M : Blt mg)
include M
def spWholeH : Sp := fun vs H Q _ => ∃ i : Int, vs = [.int i] ∧ Q (.bl true) H
theorem ok_lwholeH {f : Addr} {fd : FuncData} (F : Fun K "_law_whole" "_law_whole" s__law_whole f fd) : L2H.FnH P w K mg base CX0 1 f fd ["value"] spWholeH := by
  refine okH F sc__law_whole (fun vs H Q E h => ?_) (fun cdv A outer s H vs Q E p hp hr h => ?_)
  · obtain ⟨i, rfl, _⟩ := h
    rfl
  obtain ⟨i, rfl, q⟩ := h
  have nd := sc__law_whole.nd
  refine ⟨_, pss_one (ps_ret (pe_and (pe_callB call_isi (by rfl) M.isinstance boot_isinstance (pa_cons (pv 0) (pa_cons (pe_bltn (v := .ty "int") (by rfl) M.int PyProof.Rows.boot_int rfl) pa_nil))) (pe_one (pe_not (pe_callB call_isi (by rfl) M.isinstance boot_isinstance (pa_cons (pv 0) (pa_cons (pe_bltn (v := .ty "bool") (by rfl) M.bool PyProof.Rows.boot_bool rfl) pa_nil))))))), ?_⟩
  refine ⟨_, rfl, _, _, _, _, true, rfl, .ty "int", .base (.int i), kit_ty (by decide +kernel), true, rfl, ?_⟩
  refine iteT ⟨_, rfl, _, _, _, _, false, rfl, .ty "bool", .base (.int i), kit_ty (by decide +kernel), false, rfl, q⟩
end
end GM
set_option Elab.async false
set_option linter.all false
set_option maxRecDepth 100000
set_option maxHeartbeats 4000000
namespace GM
open PySem PySem.Spec PyProof.Rows L2
/-! ### an own error that stands among the values -/
section
variable {X : Cx} {pins : List (Addr × Obj)} {σ : L2.St} {H : Hp} {s : Shared} {h' : Heap}
theorem Inv.laid2 {a b : Addr} {o u : HO} {t' : Nat} (I : Inv X pins σ H s) (k : ∀ c x, s.heap.get? c = some x → h'.get? c = some x) (ha : s.heap.objs.size ≤ a) (hb : s.heap.objs.size ≤ b)
    (n1 : ObjOk X.prog X.w (upd (upd H a o) b u) h' a o) (n2 : ObjOk X.prog X.w (upd (upd H a o) b u) h' b u) (hne : a ≠ b) : Inv X pins σ (upd (upd H a o) b u) { s with heap := h', toks := t' } := by
  have fa := I.hok.fresh ha
  have fb := I.hok.fresh hb
  have st : ∀ c x, H c = some x → upd (upd H a o) b u c = some x := fun c x e => by rw [upd_ne (ne_of_none e fb), upd_ne (ne_of_none e fa)]; exact e
  refine I.un (h' := h') (t' := t') ⟨fun c x q _ _ _ => k c x q, fun c x q _ _ _ => ⟨x.slots, k c x q⟩, fun c x q n _ => ?_, fun c x q _ => ⟨x, k c x q⟩, fun c xs q => st _ _ q, fun c x y q => st _ _ q, fun c ps q => ⟨#[], by rw [st _ _ q]; simp⟩⟩ fun c x e => ?_
  · have l := Heap.lt_size q
    rw [upd_ne (Nat.ne_of_lt (Nat.lt_of_lt_of_le l hb)), upd_ne (Nat.ne_of_lt (Nat.lt_of_lt_of_le l ha))]; exact n
  · by_cases c1 : c = b
    · subst c1; rw [upd_same] at e; cases e; exact n2
    · rw [upd_ne c1] at e
      by_cases c2 : c = a
      · subst c2; rw [upd_same] at e; cases e; exact n1
      · rw [upd_ne c2] at e
        exact (I.hok c x e).stay (fun c v _ q => k c v q) (fun c q => st _ _ q) fun c xs q => st _ _ q
end
/-- the error at e, its dict at d -/
def errO (C e d : Addr) : HO := .ext fun h => ∃ t1 : Addr, h.get? e = some { cls := .ref C, dict := some d, data := .fields #[.ref t1, .none, .none, .none, .bool false, .none] }
section
variable {X : Cx} {C fI : Addr}
def tNewNotAPlay (C : Addr) (ta : TA) : TE := fun σ H Q => ta σ H fun vs H1 => ∃ v, vs = [v] ∧ ∀ d e, H1 d = Option.none → upd H1 d (.xd [(("index" : Str), v)]) e = Option.none → Q (.ref e) (upd (upd H1 d (.xd [(("index" : Str), v)])) e (errO C e d))
theorem pe_newNotAPlay {a : Expr} {ta : TA} {p pos : Pos} {k : Nat} (T : PySem.NotAPlayX.Txt X.K X.mg C fI) (hr : Room k X.A) (ha : PA X [a] ta) (hg : Gl X "NotAPlay" := by rfl)
    (he : starEach (a :: []) X.env = (false, eval a X.env) :: starEach [] X.env := by rfl) (hpl : (backTo pos (starEach [] X.env)).any (·.1) = false := by rfl) :
    PE X (.Call (.Name "NotAPlay" p) [a] [] pos) (tNewNotAPlay C ta) := by
  constructor
  intro pins s σ H Q I h
  refine wpAny_Call_Name_kw (ld_glob I hg T.gC ?_)
  refine PySem.W.callWith_K (h₀ := X.base) I.ok.mod.kin T.kC (thn (ha.run pos pins s σ H _ I h) fun us s1 hh => ?_) he hpl
  obtain ⟨vs, H1, I1, r1, v, ev, q1⟩ := hh
  subst ev
  refine ⟨I1.kIn, ?_⟩
  cases r1 with
  | cons rv rn =>
    rename_i v' us'
    cases rn
    show wpAny _ _ (call (.ref C) [v']) _ _ _
    have hlim := I1.nolimit
    obtain ⟨hp, g, dr, tk, os⟩ := s1
    refine wpAny_call (PySem.NotAPlayX.err_made T I1.kIn hlim (by have := hr.dp; omega) fun h' tk' e d M => ?_)
    obtain ⟨t1, hoe⟩ := M.obj
    have hns := M.ns
    have fd := I1.hok.fresh M.dbig
    have fe := I1.hok.fresh M.new
    have J := Inv.laid2 (h' := h') (a := d) (b := e) (o := .xd [(("index" : Str), v)]) (u := errO C e d) (t' := tk') I1 M.keep M.dbig M.new ⟨_, hns, fun f => relO_NotAPlay rv f⟩ ⟨⟨t1, hoe⟩, ⟨_, hoe⟩, fun h1 h2 ⟨t, et⟩ kk => ⟨t, kk _ et⟩⟩ M.dne
    exact ⟨.ref e, _, J, rfl, q1 d e fd (by rw [upd_ne (Ne.symm M.dne)]; exact fe)⟩
def tXfNotAPlay (C : Addr) (te : TE) : TE := fun σ H Q => te σ H fun x H1 => ∃ (e d : Addr) (v : V), x = .ref e ∧ H1 e = some (errO C e d) ∧ H1 d = some (.xd [(("index" : Str), v)]) ∧ Q v H1
theorem pe_xfNotAPlay {e : Expr} {te : TE} {pos : Pos} (T : PySem.NotAPlayX.Txt X.K X.mg C fI) (he : PE X e te) (hb : attributeBase e "index" X.env (eval e X.env) = eval e X.env := by rfl) : PE X (.Attribute e "index" pos) (tXfNotAPlay C te) := by
  refine ⟨fun pins s σ H Q I h => ?_⟩
  refine attr_of hb (thn (he.run pins s σ H _ I h) fun u s1 hh => ?_)
  obtain ⟨x, H1, I1, rx, x0, d, v, ex, ee, ea, q⟩ := hh
  subst ex
  obtain rfl : u = Value.ref x0 := rx
  have h1 : ObjOk X.prog X.w H1 s1.heap x0 (errO C x0 d) := I1.hok x0 _ ee
  obtain ⟨⟨t1, ho⟩, _⟩ := h1
  have hx : ObjOk X.prog X.w H1 s1.heap d (.xd [(("index" : Str), v)]) := I1.hok d _ ea
  obtain ⟨mA, hns, hr⟩ := hx
  obtain ⟨od, ho2, hl⟩ := lookIn_ns hns
  have l : List.lookup ("index" : Str) [(("index" : Str), v)] = some v := by simp [List.lookup]
  obtain ⟨u, hu, ru⟩ := RelO.some_of (v := v) (o := mA "index") (by rw [← l]; exact hr "index")
  have J : PySem.W.InstAt s1.heap x0 { cls := .ref C, dict := some d, data := .fields #[.ref t1, .none, .none, .none, .bool false, .none] } C (some od) := ⟨ho, rfl, rfl, ho2⟩
  exact HandSPX.exc_get I1.kIn J T.ga T.gg T.exC (PySem.W.findObj_own T.hdC T.noN rfl (by rw [hl, hu])) (handed_of ru) ⟨v, H1, I1.tok _, ru, q⟩
end
end GM
set_option Elab.async false
set_option linter.all false
set_option maxRecDepth 100000
set_option maxHeartbeats 4000000
set_option pp.maxSteps 400
set_option pp.deepTerms false
namespace GM
open PySem PySem.Spec PyProof.Rows L2
/-! ### drawn digits -/
def Dg : List Int → List Int → Prop
  | [], [] => True
  | d :: ds, s :: ss => (0 ≤ d ∧ d < s) ∧ Dg ds ss
  | _, _ => False
theorem Dg.len : ∀ {ds ss : List Int}, Dg ds ss → ds.length = ss.length
  | [], [], _ => rfl
  | _ :: _, _ :: _, h => congrArg Nat.succ (Dg.len h.2)
  | [], _ :: _, h => h.elim
  | _ :: _, [], h => h.elim
theorem Dg.snoc : ∀ {ds ss : List Int} {d s : Int}, Dg ds ss → 0 ≤ d → d < s → Dg (ds ++ [d]) (ss ++ [s])
  | [], [], _, _, _, a, b => ⟨⟨a, b⟩, True.intro⟩
  | _ :: _, _ :: _, _, _, h, a, b => ⟨h.1, Dg.snoc h.2 a b⟩
  | [], _ :: _, _, _, h, _, _ => h.elim
  | _ :: _, [], _, _, h, _, _ => h.elim
theorem Dg.cons {ds ss : List Int} {s : Int} (h : Dg ds (s :: ss)) : ∃ d r, ds = d :: r ∧ (0 ≤ d ∧ d < s) ∧ Dg r ss := by
  cases ds with
  | nil => exact h.elim
  | cons d r => exact ⟨d, r, rfl, h.1, h.2⟩
theorem Dg.nil {ds : List Int} (h : Dg ds []) : ds = [] := by
  cases ds with
  | nil => rfl
  | cons d r => exact h.elim
theorem Dg.at : ∀ {ds ss : List Int} {i : Nat} {s : Int}, Dg ds ss → ss[i]? = some s → ∃ d, ds[i]? = some d ∧ 0 ≤ d ∧ d < s
  | [], [], _, _, _, e => by simp at e
  | d :: ds, t :: ss, 0, _, h, e => by simp at e; subst e; exact ⟨d, rfl, h.1⟩
  | d :: ds, t :: ss, i + 1, s, h, e => by
    have e' : ss[i]? = some s := by simpa using e
    obtain ⟨x, h1, h2⟩ := Dg.at h.2 e'
    exact ⟨x, by simpa using h1, h2⟩
  | [], _ :: _, _, _, h, _ => h.elim
  | _ :: _, [], _, _, h, _ => h.elim
section
variable {P : Program} {w : World} {K : PySem.W.Frag} {mg : Str → Option Value} {base : Heap} (M : Blt mg)
include M
/-- of an int -/
def spWhole : Sp := fun vs H Q _ => ∃ i : Int, vs = [.int i] ∧ Q (.bl true) H
theorem ok_lwhole {f : Addr} {fd : FuncData} (F : Fun K "_law_whole" "_law_whole" s__law_whole f fd) : FnOk P w K mg base CX0 1 f fd ["value"] spWhole := by
  refine F.ok sc__law_whole (fun vs H Q E h => ?_) (fun cdv A outer s H vs Q E hr h => ?_)
  · obtain ⟨i, rfl, _⟩ := h
    rfl
  obtain ⟨i, rfl, q⟩ := h
  have nd := sc__law_whole.nd
  refine ⟨_, pss_one (ps_ret (pe_and (pe_callB call_isi (by rfl) M.isinstance boot_isinstance (pa_cons (pv 0) (pa_cons (pe_bltn (v := .ty "int") (by rfl) M.int PyProof.Rows.boot_int rfl) pa_nil))) (pe_one (pe_not (pe_callB call_isi (by rfl) M.isinstance boot_isinstance (pa_cons (pv 0) (pa_cons (pe_bltn (v := .ty "bool") (by rfl) M.bool PyProof.Rows.boot_bool rfl) pa_nil))))))), ?_⟩
  refine ⟨_, rfl, _, _, _, _, true, rfl, .ty "int", .base (.int i), kit_ty (by decide +kernel), true, rfl, ?_⟩
  refine iteT ⟨_, rfl, _, _, _, _, false, rfl, .ty "bool", .base (.int i), kit_ty (by decide +kernel), false, rfl, q⟩
theorem ok_whole {f : Addr} {fd : FuncData} (F : Fun K "is_whole" "is_whole" s_is_whole f fd) : FnOk P w K mg base CX0 1 f fd ["value"] spWhole := by
  refine F.ok sc_is_whole (fun vs H Q E h => ?_) (fun cdv A outer s H vs Q E hr h => ?_)
  · obtain ⟨i, rfl, _⟩ := h
    rfl
  obtain ⟨i, rfl, q⟩ := h
  have nd := sc_is_whole.nd
  refine ⟨_, pss_one (ps_ret (pe_and (pe_callB call_isi (by rfl) M.isinstance boot_isinstance (pa_cons (pv 0) (pa_cons (pe_bltn (v := .ty "int") (by rfl) M.int PyProof.Rows.boot_int rfl) pa_nil))) (pe_one (pe_not (pe_callB call_isi (by rfl) M.isinstance boot_isinstance (pa_cons (pv 0) (pa_cons (pe_bltn (v := .ty "bool") (by rfl) M.bool PyProof.Rows.boot_bool rfl) pa_nil))))))), ?_⟩
  refine ⟨_, rfl, _, _, _, _, true, rfl, .ty "int", .base (.int i), kit_ty (by decide +kernel), true, rfl, ?_⟩
  refine iteT ⟨_, rfl, _, _, _, _, false, rfl, .ty "bool", .base (.int i), kit_ty (by decide +kernel), false, rfl, q⟩
/-- some int; the heap as it was -/
def spCell (K : PySem.W.Frag) : Sp := fun vs H Q _ => ∃ (a : Addr) (ns : List Int) (k : Nat), vs = [.ref a, .int (k : Int)] ∧ SqL K H a (ns.map V.int) ∧ ns.length ≤ 63 ∧ k ≤ 1000 ∧ ∀ z : Int, Q (.int z) H
theorem ok_cell {f : Addr} {fd : FuncData} (F : Fun K "_law_cell" "_law_cell" s__law_cell f fd) :
    FnOk P w K mg base CX0 1 f fd ["script", "k"] (spCell K) := by
  refine F.ok sc__law_cell (fun vs H Q E h => ?_) (fun cdv A outer s H vs Q E hr h => ?_)
  · obtain ⟨a, ns, k, rfl, _⟩ := h
    rfl
  obtain ⟨a, ns, k, rfl, hS, hl, hk, q⟩ := h
  have nd := sc__law_cell.nd
  refine ⟨_, pss_cons (ps_if (pt_cmpR op_lt (pv 1) (pe_callB call_len_seq (by rfl) M.len PySem.boot_len (pa_cons (pv 0) pa_nil)) (nomark _)) (pss_one (ps_ret (pe_ix ix_list (pv 0) (pv 1) (fun _ _ => rfl)))) pss_nil)
    (pss_cons (ps_set (i := 2) nd rfl (.inl rfl) pe_int)
    (pss_cons (ps_for PassesOwn.never rfl (pi_list (pv 0)) (pg_name (i := 3) nd rfl (.inl rfl)) (pss_one (ps_set (i := 2) nd rfl (.inl rfl) (pe_op op_mod (pe_callTy call_int1 (by rfl) M.int PyProof.Rows.boot_int (pa_cons (pe_op op_add (pe_op op_mul (pv 2) pe_int) (pe_op op_mod (pe_callTy call_int1 (by rfl) M.int PyProof.Rows.boot_int (pa_cons (pv 3) pa_nil)) pe_int)) pa_nil)) pe_int))))
    (pss_one (ps_ret (pe_op op_mod (pe_callTy call_int1 (by rfl) M.int PyProof.Rows.boot_int (pa_cons (pe_op op_mul (pe_op op_mul (pe_op op_add (pv 2) pe_int) (pe_op op_add (pv 1) pe_int)) pe_int) pa_nil)) pe_int))))), ?_⟩
  refine ⟨_, rfl, _, rfl, a, _, rfl, .inl hS, _, _, rfl, rfl, _, rfl, ite2 (fun c => ?_) (fun c => ?_)⟩
  · have c' := of_decide_eq_true c
    rw [List.length_map] at c'
    have hk' : k < ns.length := by omega
    have g : (ns.map V.int)[k]? = some (.int ns[k]) := by rw [List.getElem?_map, List.getElem?_eq_getElem hk']; rfl
    exact ⟨_, rfl, _, rfl, a, _, _, _, rfl, rfl, hS, atI_nat g, q _⟩
  · refine ⟨_, rfl, a, rfl, ⟨_, hS⟩, for_list (xs := ns.map V.int) (fun i σ H' => H' = H ∧ ∃ (z : Int) (y : Option V), σ = [some (.ref a), some (.int (k : Int)), some (.int z), y]) ⟨rfl, 17, Option.none, rfl⟩ (fun i σ H' _ z => by rw [z.1]; exact hS) ?_ ?_⟩
    · rintro i x σ H' hx ⟨rfl, z, y, rfl⟩
      obtain ⟨v, hv, rfl⟩ := map_at hx
      refine ⟨_, rfl, _, _, rfl, rfl, .inr ⟨by decide, by decide⟩, _, rfl, .inl ⟨_, rfl, _, _, rfl, rfl, (by show (0 : Int) < 1000003; decide), _, _, rfl, rfl, .inl ⟨_, rfl, _, _, rfl, rfl, (by show (0 : Int) < 1000003; decide), ?_⟩⟩⟩
      exact ⟨rfl, _, _, rfl⟩
    · rintro σ H' ⟨rfl, z, y, rfl⟩
      refine ⟨_, rfl, _, _, rfl, rfl, _, rfl, _, _, rfl, rfl, _, _, rfl, rfl, .inr ⟨by omega, by omega⟩, _, _, rfl, rfl, .inr ⟨by decide, by decide⟩, .inl ⟨_, rfl, _, _, rfl, rfl, (by show (0 : Int) < 2147483647; decide), ?_⟩⟩
      exact q _
/-- a new list of digits -/
def spDigits (K : PySem.W.Frag) : Sp := fun vs H Q _ => ∃ (c : Int) (l : Addr) (ss : List Int), vs = [.int c, .ref l] ∧ SqL K H l (ss.map V.int) ∧ ss.length ≤ 1000 ∧ (∀ s ∈ ss, 0 < s ∧ s < 1073741824) ∧
  ∀ p ds H', Same H H' → H p = none → H' p = some (.lst (ds.map V.int)) → Dg ds ss → Q (.ref p) H'
theorem ok_digits {f : Addr} {fd : FuncData} (F : Fun K "_law_digits" "_law_digits" s__law_digits f fd) :
    FnOk P w K mg base CX0 1 f fd ["cell", "sizes"] (spDigits K) := by
  refine F.ok sc__law_digits (fun vs H Q E h => ?_) (fun cdv A outer s H vs Q E hr h => ?_)
  · obtain ⟨c, l, ss, rfl, _⟩ := h
    rfl
  obtain ⟨c, l, ss, rfl, hS, hlen, hpos, q⟩ := h
  have nd := sc__law_digits.nd
  refine ⟨_, pss_cons (ps_set (i := 2) nd rfl (.inl rfl) (pe_lst pa_nil))
    (pss_cons (ps_set (i := 3) nd rfl (.inl rfl) (pe_callTy call_int1 (by rfl) M.int PyProof.Rows.boot_int (pa_cons (pv 0) pa_nil)))
    (pss_cons (ps_if (pt_cmpR op_ge (pv 3) (pe_op op_pow pe_int pe_int) (nomark _)) (pss_cons (ps_set (i := 3) nd rfl (.inl rfl) (pe_op op_sub (pv 3) (pe_op op_pow pe_int pe_int)))
      (pss_cons (ps_for PassesOwn.never rfl (pi_list (pv 1)) (pg_name (i := 4) nd rfl (.inl rfl)) (pss_cons (ps_expr (pe_bm PySem.F.plainAttrs_list PySem.F.slot_list_append PySem.F.type_list_append mt_append (pv 2) (pa_cons (pe_op op_mod (pe_callTy call_int1 (by rfl) M.int PyProof.Rows.boot_int (pa_cons (pv 3) pa_nil)) (pv 4)) pa_nil)))
        (pss_one (ps_set (i := 3) nd rfl (.inl rfl) (pe_op op_fdiv (pe_callTy call_int1 (by rfl) M.int PyProof.Rows.boot_int (pa_cons (pv 3) pa_nil)) (pv 4))))))
      (pss_one (ps_ret (pv 2))))) pss_nil)
    (pss_cons (ps_set (i := 5) nd rfl (.inl rfl) (pe_op op_mod (pe_callTy call_int1 (by rfl) M.int PyProof.Rows.boot_int (pa_cons (pv 3) pa_nil)) pe_int))
    (pss_cons (ps_for PassesOwn.never rfl (pi_range1 rfl M.range (pa_cons (pe_callB call_len_seq (by rfl) M.len PySem.boot_len (pa_cons (pv 1) pa_nil)) pa_nil)) (pg_name (i := 6) nd rfl (.inl rfl)) (pss_cons (ps_set (i := 5) nd rfl (.inl rfl) (pe_op op_mod (pe_callTy call_int1 (by rfl) M.int PyProof.Rows.boot_int (pa_cons (pe_op op_add (pe_op op_add (pe_op op_mul (pv 5) pe_int) (pe_op op_mul pe_int (pv 6))) pe_int) pa_nil)) pe_int))
      (pss_cons (ps_set (i := 7) nd rfl (.inl rfl) (pe_op op_mod (pe_callTy call_int1 (by rfl) M.int PyProof.Rows.boot_int (pa_cons (pe_op op_mul (pv 5) (pe_op op_add (pe_op op_fdiv (pv 5) pe_int) pe_int)) pa_nil)) pe_int))
      (pss_one (ps_expr (pe_bm PySem.F.plainAttrs_list PySem.F.slot_list_append PySem.F.type_list_append mt_append (pv 2) (pa_cons (pe_op op_mod (pe_op op_fdiv (pv 7) pe_int) (pe_ix ix_list (pv 1) (pv 6) (fun _ _ => rfl))) pa_nil)))))))
    (pss_one (ps_ret (pv 2))))))), ?_⟩
  refine ⟨Nat.zero_le _, fun o no => ?_⟩
  have s1 : Same H (upd H o (.lst [])) := same_new no _
  refine ⟨_, rfl, .inl ⟨_, rfl, ?_⟩⟩
  refine ⟨_, rfl, _, _, rfl, rfl, ⟨by decide, by decide, by decide⟩, _, _, rfl, rfl, _, rfl, ite2 (fun _ => ?_) (fun _ => ?_)⟩
  · refine ⟨_, rfl, _, _, rfl, rfl, ⟨by decide, by decide, by decide⟩, _, _, rfl, rfl, ?_⟩
    refine ⟨_, rfl, l, rfl, ⟨_, s1.seq hS⟩, for_list (xs := ss.map V.int) (fun i σ H' => Same H H' ∧ ∃ (ds : List Int) (r : Int) (y : Option V), H' o = some (.lst (ds.map V.int)) ∧ Dg ds (ss.take i) ∧ σ = [some (.int c), some (.ref l), some (.ref o), some (.int r), y, Option.none, Option.none, Option.none])
      ⟨s1, [], _, Option.none, upd_same, True.intro, rfl⟩ (fun i σ H' _ z => z.1.seq hS) ?_ ?_⟩
    · rintro i x σ H' hx ⟨sm, ds, r, y, eo, hd, rfl⟩
      obtain ⟨v, hv, rfl⟩ := map_at hx
      have hv2 := hpos v (List.mem_of_getElem? hv)
      refine ⟨_, rfl, .inl ⟨rfl, _, SqL.of eo⟩, _, rfl, .inl ⟨_, rfl, _, rfl, _, _, rfl, rfl, hv2.1, o, _, _, rfl, rfl, eo, ?_, ?_⟩⟩
      · rw [List.length_map, hd.len, List.length_take]
        exact Nat.lt_of_le_of_lt (Nat.min_le_right _ _) (small1000 hlen)
      · refine ⟨_, rfl, .inl ⟨_, rfl, _, rfl, _, _, rfl, rfl, hv2, ?_⟩⟩
        refine ⟨fun b u e => ?_, ds ++ [r % v], _, _, ?_, ?_, rfl⟩
        · rw [upd_ne (ne_of_none e no)]
          exact sm _ _ e
        · rw [upd_same, List.map_append]
          rfl
        · rw [tk1 hv]
          exact hd.snoc (Int.emod_nonneg _ (by omega)) (Int.emod_lt_of_pos _ hv2.1)
    · rintro σ H' ⟨sm, ds, r, y, eo, hd, rfl⟩
      rw [List.length_map, List.take_length] at hd
      exact ⟨_, rfl, q o ds H' sm no eo hd⟩
  · refine ⟨_, rfl, .inl ⟨_, rfl, _, _, rfl, rfl, (by show (0 : Int) < 2147483629; decide), ?_⟩⟩
    refine ⟨_, rfl, l, _, rfl, .inl (s1.seq hS), _, rfl, (by rw [List.length_map]; omega), (by rw [List.length_map]; omega), ?_⟩
    have hn : (((ss.map V.int).length : Nat) : Int).toNat = ss.length := by rw [List.length_map]; rfl
    rw [hn]
    refine for_range (n := ss.length) (fun i σ H' => Same H H' ∧ ∃ (ds : List Int) (r z : Int) (y y' : Option V), H' o = some (.lst (ds.map V.int)) ∧ Dg ds (ss.take i) ∧ σ = [some (.int c), some (.ref l), some (.ref o), some (.int r), Option.none, some (.int z), y, y'])
      ⟨s1, [], _, _, Option.none, Option.none, upd_same, True.intro, rfl⟩ ?_ ?_
    · rintro i σ H' hi ⟨sm, ds, r, z, y, y', eo, hd, rfl⟩
      refine ⟨_, rfl, _, _, rfl, rfl, .inr ⟨by decide, by decide⟩, _, rfl, _, _, rfl, rfl, .inl ⟨by decide, by decide⟩, _, _, rfl, rfl, _, _, rfl, rfl, .inl ⟨_, rfl, _, _, rfl, rfl, (by show (0 : Int) < 2147483647; decide), ?_⟩⟩
      have b0 := Int.emod_nonneg (z * 48271 + 974711 * (0 + (i : Int)) + 12345) (show (2147483647 : Int) ≠ 0 by decide)
      have b1 := Int.emod_lt_of_pos (z * 48271 + 974711 * (0 + (i : Int)) + 12345) (show (0 : Int) < 2147483647 by decide)
      refine ⟨_, rfl, _, rfl, _, _, rfl, rfl, ⟨by decide, by decide⟩, _, _, rfl, rfl, _, _, rfl, rfl, .inl ⟨?_, ?_⟩, .inl ⟨_, rfl, _, _, rfl, rfl, (by show (0 : Int) < 2147483629; decide), ?_⟩⟩
      · exact Int.lt_of_lt_of_le (by decide) b0
      · exact Int.lt_trans b1 (by decide)
      have g : (ss.map V.int)[i]? = some (.int ss[i]) := by rw [List.getElem?_map, List.getElem?_eq_getElem hi]; rfl
      have hv2 := hpos ss[i] (List.getElem_mem hi)
      refine ⟨_, rfl, .inl ⟨rfl, _, SqL.of eo⟩, _, rfl, _, _, rfl, rfl, ⟨by decide, by decide⟩, _, rfl, _, rfl, l, _, _, _, rfl, rfl, sm.seq hS, ?_, _, _, rfl, rfl, hv2.1, o, _, _, rfl, rfl, eo, ?_, ?_⟩
      · rw [Int.zero_add]; exact atI_nat g
      · rw [List.length_map, hd.len, List.length_take]
        exact Nat.lt_of_le_of_lt (Nat.min_le_right _ _) (small1000 hlen)
      · refine ⟨fun b u e => ?_, ds ++ [((z * 48271 + 974711 * (0 + (i : Int)) + 12345) % 2147483647 * ((z * 48271 + 974711 * (0 + (i : Int)) + 12345) % 2147483647 / 65537 + 3)) % 2147483629 / 19 % ss[i]], _, _, _, _, ?_, ?_, rfl⟩
        · rw [upd_ne (ne_of_none e no)]
          exact sm _ _ e
        · rw [upd_same, List.map_append]
          rfl
        · rw [tk1 (List.getElem?_eq_getElem hi)]
          exact hd.snoc (Int.emod_nonneg _ (by omega)) (Int.emod_lt_of_pos _ hv2.1)
    · rintro σ H' ⟨sm, ds, r, z, y, y', eo, hd, rfl⟩
      rw [List.take_length] at hd
      exact ⟨_, rfl, q o ds H' sm no eo hd⟩
end
end GM
set_option Elab.async false
set_option linter.all false
set_option maxRecDepth 100000
set_option maxHeartbeats 4000000
set_option pp.maxSteps 150
set_option pp.deepTerms false
namespace GM
open PySem PySem.Spec PyProof.Rows L2
/-- the moves of a vertex: ascending, each a vertex -/
def Asc (n : Int) (xs : List Int) : Prop := xs.Pairwise (· < ·) ∧ (∀ x ∈ xs, 0 ≤ x ∧ x < n) ∧ xs ≠ [] ∧ xs.length ≤ 1000
theorem asc_step {n : Int} {xs : List Int} (h : Asc n xs) {i : Nat} {x : Int} (hx : xs[i]? = some x) (l : Int) (hl : l = 0 ∨ ∃ j y, j < i ∧ xs[j]? = some y ∧ l = y + 1) : l ≤ x ∧ x < n := by
  have hm := h.2.1 x (List.mem_of_getElem? hx)
  refine ⟨?_, hm.2⟩
  rcases hl with rfl | ⟨j, y, hj, hy, rfl⟩
  · exact hm.1
  · obtain ⟨a1, a2⟩ := List.getElem?_eq_some_iff.mp hx
    obtain ⟨b1, b2⟩ := List.getElem?_eq_some_iff.mp hy
    have := List.pairwise_iff_getElem.mp h.1 j i b1 a1 hj
    rw [a2, b2] at this
    omega
theorem neverOk {P : Program} {w : World} {K : PySem.W.Frag} {mg : Str → Option Value} {base : Heap} {f : Addr} {fd : FuncData} {ps : List Str} {sp : Sp} (no : ∀ vs H Q E, ¬ sp vs H Q E) : FnOk P w K mg base CX0 0 f fd ps sp :=
  ⟨fun vs H Q E h => absurd h (no vs H Q E), fun A outer s H args us vs Q E _ _ _ _ h => absurd h (no vs H Q E)⟩
section
variable {P : Program} {w : World} {K : PySem.W.Frag} {mg : Str → Option Value} {base : Heap} (M : Blt mg)
include M
/-- a whole number within its bounds -/
def spNumTo : Sp := fun vs H Q _ => ∃ i m : Int, vs = [.int i, .int m] ∧ 0 ≤ i ∧ i ≤ m ∧ Q (.bl true) H
theorem ok_numto {f : Addr} {fd : FuncData} (F : Fun K "is_number_to" "is_number_to" s_is_number_to f fd) (Gis_whole : Kn P w K mg base 1 "is_whole" ["value"] spWhole) :
    FnOk P w K mg base CX0 2 f fd ["value", "most"] spNumTo := by
  refine F.ok sc_is_number_to (fun vs H Q E h => ?_) (fun cdv A outer s H vs Q E hr h => ?_)
  · obtain ⟨i, m, rfl, _⟩ := h
    rfl
  obtain ⟨i, m, rfl, h0, h1, q⟩ := h
  have nd := sc_is_number_to.nd
  refine ⟨_, pss_one (ps_ret (pe_and (pe_call Gis_whole.ok (hr.mono (by decide)) (by rfl) Gis_whole.m Gis_whole.kp Gis_whole.b .nil pass0 (pa_cons (pv 0) pa_nil)) (pe_one (pe_chain op_le op_le pe_int (pv 0) (pv 1))))), ?_⟩
  refine ⟨_, rfl, _, rfl, _, rfl, iteT ?_⟩
  refine ⟨_, rfl, _, _, rfl, rfl, _, rfl, ?_⟩
  rw [if_pos (decide_eq_true h0)]
  refine ⟨_, rfl, _, _, rfl, rfl, ?_⟩
  show Q (.bl (decide (i ≤ m))) H
  rw [decide_eq_true h1]
  exact q
def spSucc : Sp := fun vs H Q _ => ∃ (a : Addr) (xs : List Int) (n : Int), vs = [.ref a, .int n] ∧ H a = some (.lst (xs.map V.int)) ∧ Asc n xs ∧ ∀ H', Same H H' → Q (.bl true) H'
theorem ok_succ {f : Addr} {fd : FuncData} (F : Fun K "are_successors" "are_successors" s_are_successors f fd) (Gis_whole : Kn P w K mg base 1 "is_whole" ["value"] spWhole) :
    FnOk P w K mg base CX0 2 f fd ["value", "count"] spSucc := by
  refine F.ok sc_are_successors (fun vs H Q E h => ?_) (fun cdv A outer s H vs Q E hr h => ?_)
  · obtain ⟨a, xs, n, rfl, _⟩ := h
    rfl
  obtain ⟨a, xs, n, rfl, ea, ha, q⟩ := h
  have nd := sc_are_successors.nd
  refine ⟨_, pss_cons (ps_if (pt_not (pt_val (pe_callB call_isiT (by rfl) M.isinstance boot_isinstance (pa_cons (pv 0) (pa_cons (pe_tup (pa_cons (pe_bltn (v := .ty "list") (by rfl) M.list PyProof.Rows.boot_list rfl) (pa_cons (pe_bltn (v := .ty "tuple") (by rfl) M.tuple PyProof.Rows.boot_tuple rfl) pa_nil))) pa_nil))))) (pss_one (ps_ret pe_bl)) pss_nil)
    (pss_cons (ps_set (i := 2) nd rfl (.inl rfl) pe_int)
    (pss_cons (ps_for PassesOwn.never rfl (pi_list (pv 0)) (pg_name (i := 3) nd rfl (.inl rfl)) (pss_cons (ps_if (PW.pt (pw_or (pt_not (pt_val (pe_call Gis_whole.ok (hr.mono (by decide)) (by rfl) Gis_whole.m Gis_whole.kp Gis_whole.b .nil pass0 (pa_cons (pv 3) pa_nil)))) (pw_or1 (pt_not (pt_chain op_le op_lt (pv 2) (pv 3) (pv 1)))))) (pss_one (ps_ret pe_bl)) pss_nil)
      (pss_one (ps_set (i := 2) nd rfl (.inl rfl) (pe_op op_add (pv 3) pe_int)))))
    (pss_one (ps_ret (pe_cmpR op_gt (pe_callB call_len_seq (by rfl) M.len PySem.boot_len (pa_cons (pv 0) pa_nil)) pe_int (nomark _)))))), ?_⟩
  refine ⟨_, rfl, le_line (n := 2) (by decide), fun t ht => ?_⟩
  have st := same_new ht (.tup [.ty "list", .ty "tuple"])
  refine ⟨_, t, _, _, _, true, rfl, upd_same, .cons (.ty "list") (.cons (.ty "tuple") .nil), .base (.lst (st _ _ ea)), kitAny_cons (b := true) (kit_ty (by decide +kernel)) (fun z => nomatch z) (fun _ => rfl), true, rfl, iteF ?_⟩
  have hlen : xs.length ≤ 1000 := ha.2.2.2
  refine ⟨_, rfl, a, rfl, ⟨_, SqL.of (st _ _ ea)⟩, for_list (xs := xs.map V.int) (fun i σ H' => Same H H' ∧ ∃ (l : Int) (y : Option V), (l = 0 ∨ ∃ j z, j < i ∧ xs[j]? = some z ∧ l = z + 1) ∧ σ = [some (.ref a), some (.int n), some (.int l), y]) ⟨st, 0, Option.none, .inl rfl, rfl⟩ (fun i σ H' _ z => SqL.of (z.1 _ _ ea)) ?_ ?_⟩
  · rintro i x σ H' hx ⟨sm, l, y, hl, rfl⟩
    obtain ⟨z, hz, rfl⟩ := map_at hx
    obtain ⟨h1, h2⟩ := asc_step ha hz l hl
    refine ⟨_, rfl, _, rfl, true, rfl, iteF ?_⟩
    refine ⟨_, rfl, _, rfl, _, _, rfl, rfl, _, rfl, ?_⟩
    rw [if_pos (decide_eq_true h1)]
    refine ⟨_, rfl, _, _, rfl, rfl, true, congrArg V.bl (decide_eq_true h2), iteF ?_⟩
    refine ⟨_, rfl, _, _, rfl, rfl, ?_⟩
    exact ⟨sm, z + 1, _, .inr ⟨i, z, Nat.lt_succ_self _, hz, rfl⟩, rfl⟩
  · rintro σ H' ⟨sm, l, y, hl, rfl⟩
    refine ⟨_, rfl, a, _, rfl, .inl (SqL.of (sm _ _ ea)), _, _, rfl, rfl, ?_⟩
    have e : decide ((0 : Int) < (((xs.map V.int).length : Nat) : Int)) = true := decide_eq_true (by
      rw [List.length_map]
      have := List.length_pos_iff.mpr ha.2.2.1
      omega)
    show Q (.bl (decide ((0 : Int) < (((xs.map V.int).length : Nat) : Int)))) H'
    rw [e]
    exact q H' sm
/-! ### as_tuples: of an int, of a list of ints, of a list of such lists -/
def spAs0 : Sp := fun vs H Q _ => ∃ i : Int, vs = [.int i] ∧ ∀ H', Same H H' → Q (.int i) H'
def spAs1 : Sp := fun vs H Q _ => ∃ (a : Addr) (xs : List Int), vs = [.ref a] ∧ H a = some (.lst (xs.map V.int)) ∧ xs.length ≤ 1000 ∧ ∀ p H', Same H H' → H p = none → H' p = some (.tup (xs.map V.int)) → Q (.ref p) H'
def spAs2 : Sp := fun vs H Q _ => ∃ (a : Addr) (rs : List Addr) (xss : List (List Int)), vs = [.ref a] ∧ H a = some (.lst (rs.map V.ref)) ∧ Paired (fun r xs => H r = some (.lst (xs.map V.int))) rs xss ∧ rs.length ≤ 1000 ∧ (∀ xs ∈ xss, xs.length ≤ 1000) ∧
  ∀ p ts H', Same H H' → H p = none → H' p = some (.tup (ts.map V.ref)) → Paired (fun t xs => H' t = some (.tup (xs.map V.int))) ts xss → Q (.ref p) H'
theorem ok_as0 {f : Addr} {fd : FuncData} (F : Fun K "as_tuples" "as_tuples" s_as_tuples f fd) (bA : Binds K fd ["value"] []) (mA : mg "as_tuples" = some (.ref f)) : FnOk P w K mg base CX0 1 f fd ["value"] spAs0 := by
  refine F.ok sc_as_tuples (fun vs H Q E h => ?_) (fun cdv A outer s H vs Q E hr h => ?_)
  · obtain ⟨i, rfl, _⟩ := h
    rfl
  obtain ⟨i, rfl, q⟩ := h
  have Gas_tuples : Kn P w K mg base 0 "as_tuples" ["value"] (fun _ _ _ _ => False) := ⟨f, fd, neverOk fun _ _ _ _ h => h, bA, F.kp, mA⟩
  have nd := sc_as_tuples.nd
  refine ⟨_, pss_cons (ps_if (pt_val (pe_callB call_isiT (by rfl) M.isinstance boot_isinstance (pa_cons (pv 0) (pa_cons (pe_tup (pa_cons (pe_bltn (v := .ty "list") (by rfl) M.list PyProof.Rows.boot_list rfl) (pa_cons (pe_bltn (v := .ty "tuple") (by rfl) M.tuple PyProof.Rows.boot_tuple rfl) pa_nil))) pa_nil)))) (pss_one (ps_ret (pe_tupleOf (by rfl) M.tuple (pe_lc (own := [("item", 1)]) (g := gName 1) (tt := tYes) rfl nd (pi_list (pv 0)) (blkOk_by (N := n_as_tuples) (sc := defScope s_as_tuples) (by decide +kernel)) (fun _ _ _ _ _ => pg_name (i := 1) nd rfl (Or.inl rfl)) (fun _ _ _ _ _ => pts_nil) (fun _ _ _ _ _ => (pe_call Gas_tuples.ok (hr.mono (by decide)) (by rfl) Gas_tuples.m Gas_tuples.kp Gas_tuples.b .nil pass0 (pa_cons (pv 1) pa_nil))))))) pss_nil)
    (pss_one (ps_ret (pv 0))), ?_⟩
  refine ⟨_, rfl, le_line (n := 2) (by decide), fun t ht => ?_⟩
  refine ⟨_, t, _, _, _, false, rfl, upd_same, .cons (.ty "list") (.cons (.ty "tuple") .nil), .base (.int i), kitAny_cons (b := false) (kit_ty (by decide +kernel)) (fun _ => kitAny_cons (b := false) (kit_ty (by decide +kernel)) (fun _ => kitAny_nil) (fun z => nomatch z)) (fun z => nomatch z), false, rfl, iteF ?_⟩
  exact ⟨_, rfl, q _ (same_new ht _)⟩
theorem ok_as1 {f : Addr} {fd : FuncData} (F : Fun K "as_tuples" "as_tuples" s_as_tuples f fd) (Gas_tuples : Kn P w K mg base 1 "as_tuples" ["value"] spAs0) : FnOk P w K mg base CX0 2 f fd ["value"] spAs1 := by
  refine F.ok sc_as_tuples (fun vs H Q E h => ?_) (fun cdv A outer s H vs Q E hr h => ?_)
  · obtain ⟨a, xs, rfl, _⟩ := h
    rfl
  obtain ⟨a, xs, rfl, ea, hl, q⟩ := h
  have nd := sc_as_tuples.nd
  refine ⟨_, pss_cons (ps_if (pt_val (pe_callB call_isiT (by rfl) M.isinstance boot_isinstance (pa_cons (pv 0) (pa_cons (pe_tup (pa_cons (pe_bltn (v := .ty "list") (by rfl) M.list PyProof.Rows.boot_list rfl) (pa_cons (pe_bltn (v := .ty "tuple") (by rfl) M.tuple PyProof.Rows.boot_tuple rfl) pa_nil))) pa_nil)))) (pss_one (ps_ret (pe_tupleOf (by rfl) M.tuple (pe_lc (own := [("item", 1)]) (g := gName 1) (tt := tYes) rfl nd (pi_list (pv 0)) (blkOk_by (N := n_as_tuples) (sc := defScope s_as_tuples) (by decide +kernel)) (fun _ _ _ _ _ => pg_name (i := 1) nd rfl (Or.inl rfl)) (fun _ _ _ _ _ => pts_nil) (fun _ _ _ _ _ => (pe_call Gas_tuples.ok (hr.mono (by decide)) (by rfl) Gas_tuples.m Gas_tuples.kp Gas_tuples.b .nil pass0 (pa_cons (pv 1) pa_nil))))))) pss_nil)
    (pss_one (ps_ret (pv 0))), ?_⟩
  refine ⟨_, rfl, le_line (n := 2) (by decide), fun t ht => ?_⟩
  have st := same_new ht (.tup [.ty "list", .ty "tuple"])
  refine ⟨_, t, _, _, _, true, rfl, upd_same, .cons (.ty "list") (.cons (.ty "tuple") .nil), .base (.lst (st _ _ ea)), kitAny_cons (b := true) (kit_ty (by decide +kernel)) (fun z => nomatch z) (fun _ => rfl), true, rfl, iteT ?_⟩
  refine ⟨_, rfl, a, rfl, ⟨_, SqL.of (st _ _ ea)⟩, fun D hD => ?_⟩
  refine lc_list (xs := xs.map V.int) (fun i H' => Same H H' ∧ H' D = some (.lst ((xs.take i).map V.int))) ⟨st.trans (same_new hD _), upd_same⟩ (fun i H' _ z => SqL.of (z.1 _ _ ea)) ?_ ?_
  · rintro i x H1 hx ⟨sm, eD⟩
    obtain ⟨z, hz, rfl⟩ := map_at hx
    refine ⟨rfl, tYI ?_⟩
    refine ⟨_, rfl, z, rfl, fun H2 s2 => ⟨_, s2 _ _ eD, ?_, same_upd (sm.trans s2) (st.free hD) _, ?_⟩⟩
    · rw [List.length_map]; exact lt_line (Nat.le_trans (List.length_take_le' _ _) hl)
    · rw [upd_same, tk1 hz, List.map_append]; rfl
  · rintro H1 ⟨sm, eD⟩
    rw [List.length_map, List.take_length] at eD
    refine .inl ⟨D, _, rfl, SqL.of eD, fun u hu => ?_⟩
    exact q u _ (sm.trans (same_new hu _)) (sm.free hu) upd_same
theorem ok_as2 {f : Addr} {fd : FuncData} (F : Fun K "as_tuples" "as_tuples" s_as_tuples f fd) (Gas_tuples : Kn P w K mg base 2 "as_tuples" ["value"] spAs1) : FnOk P w K mg base CX0 3 f fd ["value"] spAs2 := by
  refine F.ok sc_as_tuples (fun vs H Q E h => ?_) (fun cdv A outer s H vs Q E hr h => ?_)
  · obtain ⟨a, rs, xss, rfl, _⟩ := h
    rfl
  obtain ⟨a, rs, xss, rfl, ea, pr, hl, hls, q⟩ := h
  have nd := sc_as_tuples.nd
  refine ⟨_, pss_cons (ps_if (pt_val (pe_callB call_isiT (by rfl) M.isinstance boot_isinstance (pa_cons (pv 0) (pa_cons (pe_tup (pa_cons (pe_bltn (v := .ty "list") (by rfl) M.list PyProof.Rows.boot_list rfl) (pa_cons (pe_bltn (v := .ty "tuple") (by rfl) M.tuple PyProof.Rows.boot_tuple rfl) pa_nil))) pa_nil)))) (pss_one (ps_ret (pe_tupleOf (by rfl) M.tuple (pe_lc (own := [("item", 1)]) (g := gName 1) (tt := tYes) rfl nd (pi_list (pv 0)) (blkOk_by (N := n_as_tuples) (sc := defScope s_as_tuples) (by decide +kernel)) (fun _ _ _ _ _ => pg_name (i := 1) nd rfl (Or.inl rfl)) (fun _ _ _ _ _ => pts_nil) (fun _ _ _ _ _ => (pe_call Gas_tuples.ok (hr.mono (by decide)) (by rfl) Gas_tuples.m Gas_tuples.kp Gas_tuples.b .nil pass0 (pa_cons (pv 1) pa_nil))))))) pss_nil)
    (pss_one (ps_ret (pv 0))), ?_⟩
  refine ⟨_, rfl, le_line (n := 2) (by decide), fun t ht => ?_⟩
  have st := same_new ht (.tup [.ty "list", .ty "tuple"])
  refine ⟨_, t, _, _, _, true, rfl, upd_same, .cons (.ty "list") (.cons (.ty "tuple") .nil), .base (.lst (st _ _ ea)), kitAny_cons (b := true) (kit_ty (by decide +kernel)) (fun z => nomatch z) (fun _ => rfl), true, rfl, iteT ?_⟩
  refine ⟨_, rfl, a, rfl, ⟨_, SqL.of (st _ _ ea)⟩, fun D hD => ?_⟩
  refine lc_list (xs := rs.map V.ref) (fun i H' => Same H H' ∧ ∃ ts : List Addr, H' D = some (.lst (ts.map V.ref)) ∧ Paired (fun t xs => t ≠ D ∧ H' t = some (.tup (xs.map V.int))) ts (xss.take i)) ⟨st.trans (same_new hD _), [], upd_same, .nil⟩ (fun i H' _ z => SqL.of (z.1 _ _ ea)) ?_ ?_
  · rintro i x H1 hx ⟨sm, ts, eD, pt⟩
    obtain ⟨r, hr', rfl⟩ := map_atV hx
    obtain ⟨xs, hxs, er⟩ := pr_get pr hr'
    have li := lt_of_at hxs
    have lt : ts.length = i := by rw [pt.length, List.length_take, Nat.min_eq_left (Nat.le_of_lt li)]
    refine ⟨rfl, tYI ?_⟩
    refine ⟨_, rfl, r, xs, rfl, sm _ _ er, hls xs (List.mem_of_getElem? hxs), fun p H2 s2 hp e2 => ⟨_, s2 _ _ eD, ?_, same_upd (sm.trans s2) (st.free hD) _, ts ++ [p], ?_, ?_⟩⟩
    · rw [List.length_map, lt]; exact lt_line (by have := lt_of_at hr'; omega)
    · rw [upd_same, List.map_append]; rfl
    · have hpD : p ≠ D := fun z => by rw [z, eD] at hp; cases hp
      rw [tk1 hxs]
      exact (L2.Paired.mapP pt fun b ys z => ⟨z.1, by rw [upd_ne z.1]; exact s2 _ _ z.2⟩).snoc ⟨hpD, by rw [upd_ne hpD]; exact e2⟩
  · rintro H1 ⟨sm, ts, eD, pt⟩
    rw [List.length_map, pr.length, List.take_length] at pt
    refine .inl ⟨D, _, rfl, SqL.of eD, fun u hu => ?_⟩
    have su := same_new hu (.tup (ts.map V.ref))
    exact q u ts _ (sm.trans su) (sm.free hu) upd_same (L2.Paired.mapP pt fun b ys z => su _ _ z.2)
end
end GM
set_option Elab.async false
set_option linter.all false
set_option maxRecDepth 100000
set_option maxHeartbeats 4000000
set_option pp.maxSteps 150
set_option pp.deepTerms false
namespace GM
open PySem PySem.Spec PyProof.Rows L2
/-! ### games -/
/-- what the walk asks of the class Game as the top has made it -/
structure GTxt (K : PySem.W.Frag) (mg : Str → Option Value) (C : Addr) : Prop where
  cl : Cls K C
  nO : NoAttr K C "owners"
  nP : NoAttr K C "priorities"
  nS : NoAttr K C "successors"
  nT : NoAttr K C "top"
  nH : NoAttr K C "height"
  nC : NoAttr K C "ceiling"
  mgC : mg "Game" = some (.ref C)
  gp : ∃ t, mg "GREATEST_PRIORITY" = some (.int 30 t)
def fl1 (a : Addr) : List (Str × V) := putF "owners" (.ref a) []
def fl2 (a b : Addr) : List (Str × V) := putF "priorities" (.ref b) (fl1 a)
def fl3 (a b c : Addr) : List (Str × V) := putF "successors" (.ref c) (fl2 a b)
def fl4 (a b c : Addr) (m : Int) : List (Str × V) := putF "top" (.int m) (fl3 a b c)
def fl5 (a b c : Addr) (m : Int) : List (Str × V) := putF "height" (.int ((m + 1) / 2)) (fl4 a b c m)
def flds (a b c : Addr) (m : Int) : List (Str × V) := putF "ceiling" (.int (m + 2 - m % 2)) (fl5 a b c m)
theorem putF_len (f : Str) (v : V) : ∀ l : List (Str × V), (putF f v l).length ≤ l.length + 1
  | [] => Nat.le_refl _
  | (g, x) :: r => by
    show (if g = f then (g, v) :: r else (g, x) :: putF f v r).length ≤ _
    by_cases h : g = f
    · rw [if_pos h]; exact Nat.le_succ _
    · rw [if_neg h]; exact Nat.succ_le_succ (putF_len f v r)
theorem fl1_len (a : Addr) : (fl1 a).length ≤ 1 := putF_len _ _ _
theorem fl2_len (a b : Addr) : (fl2 a b).length ≤ 2 := Nat.le_trans (putF_len _ _ _) (Nat.succ_le_succ (fl1_len a))
theorem fl3_len (a b c : Addr) : (fl3 a b c).length ≤ 3 := Nat.le_trans (putF_len _ _ _) (Nat.succ_le_succ (fl2_len a b))
theorem fl4_len (a b c : Addr) (m : Int) : (fl4 a b c m).length ≤ 4 := Nat.le_trans (putF_len _ _ _) (Nat.succ_le_succ (fl3_len a b c))
theorem fl5_len (a b c : Addr) (m : Int) : (fl5 a b c m).length ≤ 5 := Nat.le_trans (putF_len _ _ _) (Nat.succ_le_succ (fl4_len a b c m))
theorem fl3_pri (a b c : Addr) : (fl3 a b c).lookup ("priorities" : Str) = some (.ref b) := by
  unfold fl3 fl2
  rw [lookup_putF, if_neg (by decide +kernel), lookup_putF, if_pos rfl]
theorem fl4_top (a b c : Addr) (m : Int) : (fl4 a b c m).lookup ("top" : Str) = some (.int m) := by
  unfold fl4
  rw [lookup_putF, if_pos rfl]
theorem fl5_top (a b c : Addr) (m : Int) : (fl5 a b c m).lookup ("top" : Str) = some (.int m) := by
  unfold fl5
  rw [lookup_putF, if_neg (by decide +kernel), fl4_top]
theorem fld_own (a b c : Addr) (m : Int) : (flds a b c m).lookup ("owners" : Str) = some (.ref a) := by
  unfold flds fl5 fl4 fl3 fl2 fl1
  rw [lookup_putF, if_neg (by decide +kernel), lookup_putF, if_neg (by decide +kernel), lookup_putF, if_neg (by decide +kernel), lookup_putF, if_neg (by decide +kernel), lookup_putF, if_neg (by decide +kernel), lookup_putF, if_pos rfl]
theorem fld_pri (a b c : Addr) (m : Int) : (flds a b c m).lookup ("priorities" : Str) = some (.ref b) := by
  unfold flds fl5 fl4
  rw [lookup_putF, if_neg (by decide +kernel), lookup_putF, if_neg (by decide +kernel), lookup_putF, if_neg (by decide +kernel), fl3_pri]
theorem fld_suc (a b c : Addr) (m : Int) : (flds a b c m).lookup ("successors" : Str) = some (.ref c) := by
  unfold flds fl5 fl4 fl3
  rw [lookup_putF, if_neg (by decide +kernel), lookup_putF, if_neg (by decide +kernel), lookup_putF, if_neg (by decide +kernel), lookup_putF, if_pos rfl]
theorem fld_top (a b c : Addr) (m : Int) : (flds a b c m).lookup ("top" : Str) = some (.int m) := by
  unfold flds
  rw [lookup_putF, if_neg (by decide +kernel), fl5_top]
theorem fld_hei (a b c : Addr) (m : Int) : (flds a b c m).lookup ("height" : Str) = some (.int ((m + 1) / 2)) := by
  unfold flds fl5
  rw [lookup_putF, if_neg (by decide +kernel), lookup_putF, if_pos rfl]
theorem fld_cei (a b c : Addr) (m : Int) : (flds a b c m).lookup ("ceiling" : Str) = some (.int (m + 2 - m % 2)) := by
  unfold flds
  rw [lookup_putF, if_pos rfl]
theorem fld_no (a b c : Addr) (m : Int) {g : Str} (h1 : ¬ g = "ceiling") (h2 : ¬ g = "height") (h3 : ¬ g = "top") (h4 : ¬ g = "successors") (h5 : ¬ g = "priorities") (h6 : ¬ g = "owners") : (flds a b c m).lookup g = none := by
  unfold flds fl5 fl4 fl3 fl2 fl1
  rw [lookup_putF, if_neg h1, lookup_putF, if_neg h2, lookup_putF, if_neg h3, lookup_putF, if_neg h4, lookup_putF, if_neg h5, lookup_putF, if_neg h6]
  rfl
/-- the greatest of these, 0 if there is none -/
def IsTop (m : Int) (ps : List Int) : Prop := (ps = [] ∧ m = 0) ∨ (m ∈ ps ∧ ∀ y ∈ ps, y ≤ m)
/-- a game stands at p -/
structure GameAt (C : Addr) (H : Hp) (p : Addr) (os ps : List Int) (rows : List (List Int)) (dx a b c : Addr) (ts : List Addr) (m : Int) : Prop where
  ob : H p = some (.ins C dx (flds a b c m))
  oa : H a = some (.tup (os.map V.int))
  ob2 : H b = some (.tup (ps.map V.int))
  oc : H c = some (.tup (ts.map V.ref))
  or : Paired (fun t xs => H t = some (.tup (xs.map V.int))) ts rows
  top : IsTop m ps
theorem GameAt.same {C : Addr} {H H' : Hp} {p : Addr} {os ps : List Int} {rows : List (List Int)} {dx a b c : Addr} {ts : List Addr} {m : Int} (g : GameAt C H p os ps rows dx a b c ts m) (s : Same H H') : GameAt C H' p os ps rows dx a b c ts m :=
  ⟨s _ _ g.ob, s _ _ g.oa, s _ _ g.ob2, s _ _ g.oc, L2.Paired.mapP g.or fun _ _ e => s _ _ e, g.top⟩
/-- what makes a game -/
structure Valid (os ps : List Int) (rows : List (List Int)) : Prop where
  l1 : ps.length = os.length
  l2 : rows.length = os.length
  n : os.length ≤ 1000
  o : ∀ x ∈ os, 0 ≤ x ∧ x ≤ 1
  p : ∀ x ∈ ps, 0 ≤ x ∧ x ≤ 30
  r : ∀ x ∈ rows, Asc (os.length : Nat) x
/-- all but the object at p is kept -/
def Kp (H H' : Hp) (p : Addr) : Prop := ∀ q o, H q = some o → q ≠ p → H' q = some o
theorem Kp.new {H H' : Hp} {p x : Addr} (k : Kp H H' p) (h : H' x = none) (o : HO) : Kp H (upd H' x o) p := fun q u e n => by
  have := k q u e n
  rw [upd_ne (ne_of_none this h)]; exact this
theorem Kp.upd {H H' : Hp} {p : Addr} (k : Kp H H' p) (o : HO) : Kp H (upd H' p o) p := fun q u e n => by
  rw [upd_ne n]; exact k q u e n
theorem Kp.same {H H' H2 : Hp} {p : Addr} (k : Kp H H' p) (s : Same H' H2) : Kp H H2 p := fun q u e n => s _ _ (k q u e n)
theorem pr_kp {H H' : Hp} {p C dx : Addr} {fs : List (Str × V)} {rs : List Addr} {rows : List (List Int)} (er : Paired (fun r xs => H r = some (.lst (xs.map V.int))) rs rows) (k : Kp H H' p) (hp : H p = some (.ins C dx fs)) :
    Paired (fun r xs => H' r = some (.lst (xs.map V.int))) rs rows := L2.Paired.mapP er fun r xs e => k _ _ e (ne_of e hp (fun z => nomatch z))
def spInit (C : Addr) : Sp := fun vs H Q _ => ∃ (p dx a b c : Addr) (os ps : List Int) (rs : List Addr) (rows : List (List Int)), vs = [.ref p, .ref a, .ref b, .ref c] ∧ H p = some (.ins C dx []) ∧ H a = some (.lst (os.map V.int)) ∧ H b = some (.lst (ps.map V.int)) ∧ H c = some (.lst (rs.map V.ref)) ∧
  Paired (fun r xs => H r = some (.lst (xs.map V.int))) rs rows ∧ Valid os ps rows ∧
  ∀ H' a' b' c' ts m, GameAt C H' p os ps rows dx a' b' c' ts m → (∀ q o, H q = some o → q ≠ p → H' q = some o) → Q .non H'
section
variable {P : Program} {w : World} {K : PySem.W.Frag} {mg : Str → Option Value} {base : Heap} {C : Addr} (M : Blt mg) (T : GTxt K mg C)
include M T
theorem ok_init {f : Addr} {fd : FuncData} (F : Fun K "__init__" "Game.__init__" s_Game___init__ f fd) (Gis_number_to : Kn P w K mg base 2 "is_number_to" ["value", "most"] spNumTo) (Gare_successors : Kn P w K mg base 2 "are_successors" ["value", "count"] spSucc)
    (Gas_tuples : Kn P w K mg base 3 "as_tuples" ["value"] spAs2) :
    FnOk P w K mg base CX0 4 f fd ["self", "owners", "priorities", "successors"] (spInit C) := by
  refine F.ok sc_Game___init__ (fun vs H Q E h => ?_) (fun cdv A outer s H vs Q E hr h => ?_)
  · obtain ⟨p, dx, a, b, c, os, ps, rs, rows, rfl, _⟩ := h
    rfl
  obtain ⟨p, dx, a, b, c, os, ps, rs, rows, rfl, hp, ea, eb, ec, er, V0, q⟩ := h
  obtain ⟨tg, egp⟩ := T.gp
  have hu := hr.units
  have nd := sc_Game___init__.nd
  refine ⟨_, pss_cons (ps_for PassesOwn.never rfl (pi_range1 rfl M.range (pa_cons (pe_callB call_len_seq (by rfl) M.len PySem.boot_len (pa_cons (pv 1) pa_nil)) pa_nil)) (pg_name (i := 4) nd rfl (.inl rfl)) (pss_one (ps_if (pt_not (PW.pt (pw_and (pt_val (pe_call Gis_number_to.ok (hr.mono (by decide)) (by rfl) Gis_number_to.m Gis_number_to.kp Gis_number_to.b .nil pass0 (pa_cons (pe_ix ix_list (pv 1) (pv 4) (fun _ _ => rfl)) (pa_cons pe_int pa_nil)))) (pw_and (pt_val (pe_call Gis_number_to.ok (hr.mono (by decide)) (by rfl) Gis_number_to.m Gis_number_to.kp Gis_number_to.b .nil pass0 (pa_cons (pe_ix ix_list (pv 2) (pv 4) (fun _ _ => rfl)) (pa_cons (pe_glob (v := .int 30) (by rfl) egp ⟨_, rfl⟩) pa_nil)))) (pw_and1 (pt_val (pe_call Gare_successors.ok (hr.mono (by decide)) (by rfl) Gare_successors.m Gare_successors.kp Gare_successors.b .nil pass0 (pa_cons (pe_ix ix_list (pv 3) (pv 4) (fun _ _ => rfl)) (pa_cons (pe_callB call_len_seq (by rfl) M.len PySem.boot_len (pa_cons (pv 1) pa_nil)) pa_nil))))))))) (pss_one ps_never) pss_nil)))
    (pss_cons (ps_fld (pv 0) (pe_tupleOf (by rfl) M.tuple (pv 1)) rfl)
    (pss_cons (ps_fld (pv 0) (pe_tupleOf (by rfl) M.tuple (pv 2)) rfl)
    (pss_cons (ps_fld (pv 0) (pe_call Gas_tuples.ok (hr.mono (by decide)) (by rfl) Gas_tuples.m Gas_tuples.kp Gas_tuples.b .nil pass0 (pa_cons (pv 3) pa_nil)) rfl)
    (pss_cons (ps_fld (pv 0) (pe_callBK (cr_maxDef rfl (Nat.lt_of_le_of_lt (Nat.add_le_add_left (by decide) _) hu)) (by rfl) M.max (by decide +kernel) (pa_cons (pe_fld (pv 0) rfl) pa_nil) (pk_cons pe_int pk_nil)) rfl)
    (pss_cons (ps_fld (pv 0) (pe_op op_fdiv (pe_op op_add (pe_fld (pv 0) rfl) pe_int) pe_int) rfl)
    (pss_one (ps_fld (pv 0) (pe_op op_sub (pe_op op_add (pe_fld (pv 0) rfl) pe_int) (pe_op op_mod (pe_fld (pv 0) rfl) pe_int)) rfl))))))), ?_⟩
  have n1 := V0.n
  refine ⟨_, rfl, a, _, rfl, .inl (SqL.of ea), _, rfl, (by rw [List.length_map]; omega), (by rw [List.length_map]; omega), ?_⟩
  have hn : (((os.map V.int).length : Nat) : Int).toNat = os.length := by rw [List.length_map]; rfl
  rw [hn]
  refine for_range (n := os.length) (fun i σ H' => Same H H' ∧ ∃ y : Option V, σ = [some (.ref p), some (.ref a), some (.ref b), some (.ref c), y]) ⟨fun _ _ e => e, Option.none, rfl⟩ ?_ ?_
  · rintro i σ H' hi ⟨sm, y, rfl⟩
    have eo : os[i]? = some os[i] := List.getElem?_eq_getElem hi
    have hip : i < ps.length := by rw [V0.l1]; exact hi
    have hir : i < rows.length := by rw [V0.l2]; exact hi
    have ep : ps[i]? = some ps[i] := List.getElem?_eq_getElem hip
    have erw : rows[i]? = some rows[i] := List.getElem?_eq_getElem hir
    obtain ⟨r, hr', ex⟩ := pr_getR er erw
    have b1 := V0.o _ (List.getElem_mem hi)
    have b2 := V0.p _ (List.getElem_mem hip)
    have b3 := V0.r _ (List.getElem_mem hir)
    refine ⟨_, rfl, _, rfl, a, _, _, _, rfl, rfl, SqL.of (sm _ _ ea), (by rw [Int.zero_add]; exact atI_nat (at_map eo)), os[i], 1, rfl, b1.1, b1.2, true, rfl, iteT ?_⟩
    refine ⟨_, rfl, _, rfl, b, _, _, _, rfl, rfl, SqL.of (sm _ _ eb), (by rw [Int.zero_add]; exact atI_nat (at_map ep)), ps[i], 30, rfl, b2.1, b2.2, true, rfl, iteT ?_⟩
    refine ⟨_, rfl, _, rfl, c, _, _, _, rfl, rfl, SqL.of (sm _ _ ec), (by rw [Int.zero_add]; exact atI_nat (at_map hr')), _, rfl, a, _, rfl, .inl (SqL.of (sm _ _ ea)), r, rows[i], _, rfl, sm _ _ ex, (by rw [List.length_map]; exact b3), fun H2 s2 => ⟨true, rfl, iteF ?_⟩⟩
    exact ⟨sm.trans s2, _, rfl⟩
  · rintro σ H0 ⟨sm0, y, rfl⟩
    have hp0 := sm0 _ _ hp
    have kp0 : Kp H H0 p := fun q o e _ => sm0 _ _ e
    have npa : ∀ {x : Addr} {l : List V}, H x = some (.lst l) → x ≠ p := fun e => ne_of e hp (fun z => nomatch z)
    refine ⟨_, rfl, .inl ⟨a, _, rfl, SqL.of (kp0 _ _ ea (npa ea)), fun a' ha' => ?_⟩⟩
    have s1 := same_new ha' (.tup (os.map V.int))
    refine ⟨_, rfl, p, C, dx, _, rfl, s1 _ _ hp0, T.cl, T.nO, by decide, ?_⟩
    have pa : a' ≠ p := (ne_of_none hp0 ha').symm
    have kp1 : Kp H (upd (upd H0 a' (.tup (os.map V.int))) p (.ins C dx (fl1 a'))) p := (kp0.new ha' _).upd _
    have ga1 : (upd (upd H0 a' (.tup (os.map V.int))) p (.ins C dx (fl1 a'))) a' = some (.tup (os.map V.int)) := by rw [upd_ne pa, upd_same]
    have gp1 : (upd (upd H0 a' (.tup (os.map V.int))) p (.ins C dx (fl1 a'))) p = some (.ins C dx (fl1 a')) := upd_same
    show tSeq _ _ _ [some (.ref p), some (.ref a), some (.ref b), some (.ref c), y] (upd (upd H0 a' (.tup (os.map V.int))) p (.ins C dx (fl1 a')))
    generalize (upd (upd H0 a' (.tup (os.map V.int))) p (.ins C dx (fl1 a'))) = G1 at kp1 ga1 gp1 ⊢
    refine ⟨_, rfl, .inl ⟨b, _, rfl, SqL.of (kp1 _ _ eb (npa eb)), fun b' hb' => ?_⟩⟩
    have s2 := same_new hb' (.tup (ps.map V.int))
    refine ⟨_, rfl, p, C, dx, _, rfl, s2 _ _ gp1, T.cl, T.nP, Nat.lt_of_le_of_lt (fl1_len a') (by decide), ?_⟩
    have pb : b' ≠ p := (ne_of_none gp1 hb').symm
    have kp2 : Kp H (upd (upd G1 b' (.tup (ps.map V.int))) p (.ins C dx (fl2 a' b'))) p := (kp1.new hb' _).upd _
    have ga2 : (upd (upd G1 b' (.tup (ps.map V.int))) p (.ins C dx (fl2 a' b'))) a' = some (.tup (os.map V.int)) := by rw [upd_ne pa]; exact s2 _ _ ga1
    have gb2 : (upd (upd G1 b' (.tup (ps.map V.int))) p (.ins C dx (fl2 a' b'))) b' = some (.tup (ps.map V.int)) := by rw [upd_ne pb, upd_same]
    have gp2 : (upd (upd G1 b' (.tup (ps.map V.int))) p (.ins C dx (fl2 a' b'))) p = some (.ins C dx (fl2 a' b')) := upd_same
    show tSeq _ _ _ [some (.ref p), some (.ref a), some (.ref b), some (.ref c), y] (upd (upd G1 b' (.tup (ps.map V.int))) p (.ins C dx (fl2 a' b')))
    generalize (upd (upd G1 b' (.tup (ps.map V.int))) p (.ins C dx (fl2 a' b'))) = G2 at kp2 ga2 gb2 gp2 ⊢
    refine ⟨_, rfl, c, rs, rows, rfl, kp2 _ _ ec (npa ec), pr_kp er kp2 hp, ?_, fun xs hx => (V0.r xs hx).2.2.2, fun c' ts G3 s3 hc' gc3 gr3 => ?_⟩
    · rw [er.length, V0.l2]; exact V0.n
    refine ⟨_, rfl, p, C, dx, _, rfl, s3 _ _ gp2, T.cl, T.nS, Nat.lt_of_le_of_lt (fl2_len a' b') (by decide), ?_⟩
    have pc : c' ≠ p := (ne_of_none gp2 hc').symm
    have pt : ∀ {x : Addr} {l : List V}, G3 x = some (.tup l) → x ≠ p := fun e => ne_of e (s3 _ _ gp2) (fun z => nomatch z)
    have kp4 : Kp H (upd G3 p (.ins C dx (fl3 a' b' c'))) p := (kp2.same s3).upd _
    have ga4 : (upd G3 p (.ins C dx (fl3 a' b' c'))) a' = some (.tup (os.map V.int)) := by rw [upd_ne pa]; exact s3 _ _ ga2
    have gb4 : (upd G3 p (.ins C dx (fl3 a' b' c'))) b' = some (.tup (ps.map V.int)) := by rw [upd_ne pb]; exact s3 _ _ gb2
    have gc4 : (upd G3 p (.ins C dx (fl3 a' b' c'))) c' = some (.tup (ts.map V.ref)) := by rw [upd_ne pc]; exact gc3
    have gr4 : Paired (fun t xs => (upd G3 p (.ins C dx (fl3 a' b' c'))) t = some (.tup (xs.map V.int))) ts rows := L2.Paired.mapP gr3 fun t xs e => by rw [upd_ne (pt e)]; exact e
    have gp4 : (upd G3 p (.ins C dx (fl3 a' b' c'))) p = some (.ins C dx (fl3 a' b' c')) := upd_same
    show tSeq _ _ _ [some (.ref p), some (.ref a), some (.ref b), some (.ref c), y] (upd G3 p (.ins C dx (fl3 a' b' c')))
    generalize (upd G3 p (.ins C dx (fl3 a' b' c'))) = G4 at kp4 ga4 gb4 gc4 gr4 gp4 ⊢
    -- top
    have fin : ∀ m : Int, IsTop m ps → ∀ (D : Ends), D = { nx := fun x H' => Q V.non H', rt := Q } → sFld K (tVar 0) (tC (.int m)) "top" { D with nx := tSeq (sFld K (tVar 0) (tOp (rI CDiv fun i j => .int (i / j)) (tOp (rI0 fun i j => .int (i + j)) (tFld K (tVar 0) "top") (tC (.int 1))) (tC (.int 2))) "height") (sFld K (tVar 0) (tOp (rI0 fun i j => .int (i - j)) (tOp (rI0 fun i j => .int (i + j)) (tFld K (tVar 0) "top") (tC (.int 2))) (tOp (rI (fun _ j => 0 < j) fun i j => .int (i % j)) (tFld K (tVar 0) "top") (tC (.int 2)))) "ceiling") D } [some (.ref p), some (.ref a), some (.ref b), some (.ref c), y] G4 := by
      rintro m hm D rfl
      refine ⟨_, rfl, p, C, dx, _, rfl, gp4, T.cl, T.nT, Nat.lt_of_le_of_lt (fl3_len a' b' c') (by decide), ?_⟩
      refine ⟨_, rfl, p, C, dx, _, _, rfl, upd_same, T.cl, T.nT, fl4_top a' b' c' m, _, _, rfl, rfl, _, _, rfl, rfl, ⟨by decide, by decide⟩, _, rfl, p, C, dx, _, rfl, upd_same, T.cl, T.nH, Nat.lt_of_le_of_lt (fl4_len a' b' c' m) (by decide), ?_⟩
      refine ⟨_, rfl, p, C, dx, _, _, rfl, upd_same, T.cl, T.nT, fl5_top a' b' c' m, _, _, rfl, rfl, _, rfl, p, C, dx, _, _, rfl, upd_same, T.cl, T.nT, fl5_top a' b' c' m, _, _, rfl, rfl, (by show (0 : Int) < 2; decide), _, _, rfl, rfl, _, rfl, p, C, dx, _, rfl, upd_same, T.cl, T.nC, Nat.lt_of_le_of_lt (fl5_len a' b' c' m) (by decide), ?_⟩
      have pt4 : ∀ {x : Addr} {l : List V}, G4 x = some (.tup l) → x ≠ p := fun e => ne_of e gp4 (fun z => nomatch z)
      refine q _ a' b' c' ts m ⟨upd_same, ?_, ?_, ?_, ?_, hm⟩ (((kp4.upd _).upd _).upd _)
      · rw [upd_ne pa, upd_ne pa, upd_ne pa]; exact ga4
      · rw [upd_ne pb, upd_ne pb, upd_ne pb]; exact gb4
      · rw [upd_ne pc, upd_ne pc, upd_ne pc]; exact gc4
      · exact L2.Paired.mapP gr4 fun t xs e => by rw [upd_ne (pt4 e), upd_ne (pt4 e), upd_ne (pt4 e)]; exact e
    refine ⟨_, rfl, p, C, dx, _, _, rfl, gp4, T.cl, T.nP, fl3_pri a' b' c', b', ps, 0, rfl, rfl, sqT gb4, fun e => ?_, fun m h1 h2 => ?_⟩
    · exact fin 0 (.inl ⟨e, rfl⟩) _ rfl
    · exact fin m (.inr ⟨h1, h2⟩) _ rfl
end
end GM
set_option Elab.async false
set_option linter.all false
set_option maxRecDepth 100000
set_option maxHeartbeats 4000000
set_option pp.maxSteps 150
set_option pp.deepTerms false
namespace GM
open PySem PySem.Spec PyProof.Rows L2
/-! ### _law_graph -/
theorem Dg.all : ∀ {ds ss : List Int}, Dg ds ss → ∀ {m : Int}, (∀ s ∈ ss, s ≤ m) → ∀ d ∈ ds, 0 ≤ d ∧ d < m
  | [], [], _, _, _, d, h => nomatch h
  | d :: ds, s :: ss, h, m, k, e, he => by
    rcases List.mem_cons.mp he with rfl | he
    · have := k s List.mem_cons_self
      have h2 := h.1.2
      exact ⟨h.1.1, by omega⟩
    · exact Dg.all h.2 (fun s hs => k s (List.mem_cons_of_mem _ hs)) e he
  | [], _ :: _, h, _, _, _, _ => h.elim
  | _ :: _, [], h, _, _, _, _ => h.elim
/-- a drawn game: three lists -/
structure GraphAt (H : Hp) (g : Addr) (os ps : List Int) (rows : List (List Int)) (o p s : Addr) (rs : List Addr) : Prop where
  g0 : H g = some (.lst [.ref o, .ref p, .ref s])
  o0 : H o = some (.lst (os.map V.int))
  p0 : H p = some (.lst (ps.map V.int))
  s0 : H s = some (.lst (rs.map V.ref))
  r0 : Paired (fun r xs => H r = some (.lst (xs.map V.int))) rs rows
theorem GraphAt.same {H H' : Hp} {g : Addr} {os ps : List Int} {rows : List (List Int)} {o p s : Addr} {rs : List Addr} (h : GraphAt H g os ps rows o p s rs) (k : Same H H') : GraphAt H' g os ps rows o p s rs :=
  ⟨k _ _ h.g0, k _ _ h.o0, k _ _ h.p0, k _ _ h.s0, L2.Paired.mapP h.r0 fun _ _ e => k _ _ e⟩
def spGraph (K : PySem.W.Frag) : Sp := fun vs H Q _ => ∃ (a : Addr) (ns : List Int) (at' n : Nat) (top : Int), vs = [.ref a, .int (at' : Int), .int (n : Int), .int top] ∧ SqL K H a (ns.map V.int) ∧ ns.length ≤ 63 ∧ at' ≤ 900 ∧ n ≤ 60 ∧ 2 ≤ top ∧ top ≤ 30 ∧
  ∀ H' g os ps rows o p s rs, Same H H' → H g = none → GraphAt H' g os ps rows o p s rs → Valid os ps rows → os.length = n → (∀ x ∈ ps, x ≤ top) → Q (.ref g) H'
theorem dInt (a b : Int) : decide (V.int a = V.int b) = decide (a = b) := decide_eq_decide.mpr ⟨V.int.inj, fun h => congrArg V.int h⟩
theorem asc_map {l : List Nat} (h : l.Pairwise (· < ·)) : (l.map fun i : Nat => (i : Int)).Pairwise (· < ·) := by
  rw [List.pairwise_map]
  exact h.imp fun z => by omega
theorem asc_filter (p : Nat → Bool) (n : Nat) : ((List.range n).filter p).Pairwise (· < ·) := List.pairwise_lt_range.filter p
section
variable {P : Program} {w : World} {K : PySem.W.Frag} {mg : Str → Option Value} {base : Heap} (M : Blt mg)
include M
theorem ok_graph {f : Addr} {fd : FuncData} (F : Fun K "_law_graph" "_law_graph" s__law_graph f fd) (G_law_cell : Kn P w K mg base 1 "_law_cell" ["script", "k"] (spCell K)) (G_law_digits : Kn P w K mg base 1 "_law_digits" ["cell", "sizes"] (spDigits K)) :
    FnOk P w K mg base CX0 2 f fd ["script", "at", "count", "top"] (spGraph K) := by
  refine F.ok sc__law_graph (fun vs H Q E h => ?_) (fun cdv A outer s H vs Q E hr h => ?_)
  · obtain ⟨a, ns, at', n, top, rfl, _⟩ := h
    rfl
  obtain ⟨a, ns, at', n, top, rfl, hS, hl, hat, hn, ht0, ht, q⟩ := h
  have nd := sc__law_graph.nd
  refine ⟨_, pss_cons (ps_set (i := 4) nd rfl (.inr rfl) (pe_call G_law_digits.ok (hr.mono (by decide)) (by rfl) G_law_digits.m G_law_digits.kp G_law_digits.b .nil pass0 (pa_cons (pe_call G_law_cell.ok (hr.mono (by decide)) (by rfl) G_law_cell.m G_law_cell.kp G_law_cell.b .nil pass0 (pa_cons (pv 0) (pa_cons (pv 1) pa_nil))) (pa_cons (pe_lst (pa_cons pe_int (pa_cons pe_int (pa_cons pe_int (pa_cons pe_int pa_nil))))) pa_nil))))
    (pss_cons (ps_set (i := 5) nd rfl (.inr rfl) (pe_ix ix_list (pe_lst (pa_cons pe_int (pa_cons pe_int (pa_cons pe_int (pa_cons pe_int pa_nil))))) (pe_ix ix_list (pv 4) pe_int (fun _ _ => rfl)) (fun _ _ => rfl)))
    (C8.pss_cut (ps_if (PW.pt (pw_and (pt_cmpR op_gt (pv 2) pe_int (nomark _)) (pw_and1 (pt_cmpR op_eq (pe_ix ix_list (pv 4) pe_int (fun _ _ => rfl)) pe_int (nomark _))))) (pss_one (ps_set (i := 5) nd rfl (.inr rfl) (pe_op op_mul pe_int (pv 2)))) pss_nil)
    (pss_cons (ps_set (i := 6) nd rfl (.inl rfl) (pe_lst pa_nil))
    (pss_cons (ps_set (i := 7) nd rfl (.inl rfl) (pe_lst pa_nil))
    (pss_cons (ps_set (i := 8) nd rfl (.inl rfl) (pe_lst pa_nil))
    (pss_cons (ps_for PassesOwn.never rfl (pi_range1 rfl M.range (pa_cons (pv 2) pa_nil)) (pg_name (i := 9) nd rfl (.inr rfl)) (pss_cons (ps_set (i := 10) nd rfl (.inr rfl) (pe_call G_law_digits.ok (hr.mono (by decide)) (by rfl) G_law_digits.m G_law_digits.kp G_law_digits.b .nil pass0 (pa_cons (pe_call G_law_cell.ok (hr.mono (by decide)) (by rfl) G_law_cell.m G_law_cell.kp G_law_cell.b .nil pass0 (pa_cons (pv 0) (pa_cons (pe_op op_add (pe_op op_add (pv 1) pe_int) (pv 9)) pa_nil))) (pa_cons (pe_op op_cat (pe_lst (pa_cons pe_int (pa_cons (pe_op op_add (pv 3) pe_int) (pa_cons (pv 2) pa_nil)))) (pe_lc (own := [("u", 12)]) (g := gName 12) (tt := tYes) rfl nd (pi_range1 rfl M.range (pa_cons (pv 2) pa_nil)) (blkOk_by (N := n__law_graph) (sc := defScope s__law_graph) (by decide +kernel)) (fun _ _ _ _ _ => pg_name (i := 12) nd rfl (Or.inl rfl)) (fun _ _ _ _ _ => pts_nil) (fun _ _ _ _ _ => (pv 5)))) pa_nil))))
      (pss_cons (ps_setLc (i := 11) (own := [("u", 12)]) (g := gName 12) (tt := _) rfl nd rfl rfl (sw_true rfl rfl rfl (by decide +kernel)) (pi_range1 rfl M.range (pa_cons (pv 2) pa_nil)) (blkOk_by (N := n__law_graph) (sc := defScope s__law_graph) (by decide +kernel)) (fun _ _ _ _ _ => pg_name (i := 12) nd rfl (Or.inl rfl)) (fun _ _ _ _ _ => pts_one (PW.pt (pw_or (pt_cmpR op_eq (pe_ix (show IxR _ (rIxL K) from ix_list) (pv 10) (pe_op op_add pe_int (pv 12)) (fun _ _ => rfl)) pe_int (nomark _)) (pw_or1 (PW.pt (pw_and (pt_cmpR op_eq (pe_ix (show IxR _ (rIxL K) from ix_list) (pv 4) pe_int (fun _ _ => rfl)) pe_int (nomark _)) (pw_and1 (pt_cmpR op_eq (pv 12) (pe_op op_add (pv 9) pe_int) (nomark _))))))))) (fun _ _ _ _ _ => (pv 12)))
      (C8.pss_cut (ps_if (pt_cmpR op_eq (pe_callB call_len_seq (by rfl) M.len PySem.boot_len (pa_cons (pv 11) pa_nil)) pe_int (nomark _)) (pss_one (ps_set (i := 11) nd rfl (.inl rfl) (pe_lst (pa_cons (pe_ix ix_list (pv 10) pe_int (fun _ _ => rfl)) pa_nil)))) pss_nil)
      (pss_cons (ps_expr (pe_bm PySem.F.plainAttrs_list PySem.F.slot_list_append PySem.F.type_list_append mt_append (pv 6) (pa_cons (pe_ix ix_list (pv 10) pe_int (fun _ _ => rfl)) pa_nil)))
      (pss_cons (ps_expr (pe_bm PySem.F.plainAttrs_list PySem.F.slot_list_append PySem.F.type_list_append mt_append (pv 7) (pa_cons (pe_ix ix_list (pe_lst (pa_cons (pe_ix ix_list (pv 10) pe_int (fun _ _ => rfl)) (pa_cons (pe_ix ix_list (pv 10) pe_int (fun _ _ => rfl)) (pa_cons (pe_op op_mod (pe_callTy call_int1 (by rfl) M.int PyProof.Rows.boot_int (pa_cons (pe_ix ix_list (pv 10) pe_int (fun _ _ => rfl)) pa_nil)) pe_int) pa_nil)))) (pe_ix ix_list (pv 4) pe_int (fun _ _ => rfl)) (fun _ _ => rfl)) pa_nil)))
      (pss_one (ps_expr (pe_bm PySem.F.plainAttrs_list PySem.F.slot_list_append PySem.F.type_list_append mt_append (pv 8) (pa_cons (pv 11) pa_nil))))))))))
    (pss_one (ps_ret (pe_lst (pa_cons (pv 6) (pa_cons (pv 7) (pa_cons (pv 8) pa_nil)))))))))))), ?_⟩
  refine ⟨_, rfl, _, rfl, a, ns, at', rfl, hS, hl, by omega, fun z0 => ⟨le_line (n := 4) (by decide), fun l0 hl0 => ⟨z0, l0, [2, 4, 3, 2], rfl, SqL.of upd_same, by decide, by decide, fun p0 ds0 H1 s1 hp0 ep0 hd0 => ?_⟩⟩⟩
  have sm1 : Same H H1 := (same_new hl0 _).trans s1
  obtain ⟨d0, r0, rfl, b0, hd0⟩ := hd0.cons
  obtain ⟨d1, r1, rfl, b1, hd0⟩ := hd0.cons
  obtain ⟨d2, r2, rfl, b2, hd0⟩ := hd0.cons
  obtain ⟨d3, r3, rfl, b3, hd0⟩ := hd0.cons
  cases hd0.nil
  obtain ⟨c0, ec0, c1, c2⟩ : ∃ c : Int, atI [V.int 2, V.int 3, V.int 5, V.int 9] d1 = some (.int c) ∧ 0 < c ∧ c ≤ 240 := by
    rcases (show d1 = 0 ∨ d1 = 1 ∨ d1 = 2 ∨ d1 = 3 by omega) with rfl | rfl | rfl | rfl <;> exact ⟨_, rfl, by decide, by decide⟩
  refine ⟨le_line (n := 4) (by decide), fun l1 hl1 => ⟨_, rfl, p0, _, 1, .int d1, rfl, rfl, SqL.of (same_new hl1 _ _ _ ep0), rfl, l1, _, d1, _, rfl, rfl, SqL.of upd_same, ec0, ?_⟩⟩
  have s2 := same_new hl1 (.lst [V.int 2, V.int 3, V.int 5, V.int 9])
  have sm2 := sm1.trans s2
  have ep02 := s2 _ _ ep0
  refine ⟨fun σ H' => Same H H' ∧ H' p0 = some (.lst ([d0, d1, d2, d3].map V.int)) ∧ ∃ c : Int, 0 < c ∧ c ≤ 240 ∧ σ = [some (.ref a), some (.int (at' : Int)), some (.int (n : Int)), some (.int top), some (.ref p0), some (.int c), Option.none, Option.none, Option.none, Option.none, Option.none, Option.none, Option.none], ?_, ?_⟩
  · refine ⟨_, rfl, _, _, rfl, rfl, _, rfl, ite2 (fun g1 => ?_) (fun g1 => ?_)⟩
    · have g1' : (10 : Int) < n := of_decide_eq_true g1
      refine ⟨_, rfl, p0, _, 3, .int d3, rfl, rfl, SqL.of ep02, rfl, rfl, _, rfl, ite2 (fun _ => ?_) (fun _ => ?_)⟩
      · exact ⟨_, rfl, _, _, rfl, rfl, .inl ⟨by decide, by decide⟩, sm2, ep02, _, by omega, by omega, rfl⟩
      · exact ⟨sm2, ep02, _, c1, c2, rfl⟩
    · exact iteF ⟨sm2, ep02, _, c1, c2, rfl⟩
  clear c1 c2 ec0 sm2 ep02 s2 sm1 ep0 s1
  rintro σ H2 ⟨sm2, ep02, c, c1, c2, rfl⟩
  refine ⟨Nat.zero_le _, fun o no => ⟨Nat.zero_le _, fun p np => ⟨Nat.zero_le _, fun sx ns' => ?_⟩⟩⟩
  have sO := same_new no (.lst [])
  have sP := same_new np (.lst [])
  have sS := same_new ns' (.lst [])
  have nop : o ≠ p := ne_of_none upd_same np
  have nps : p ≠ sx := ne_of_none upd_same ns'
  have nos : o ≠ sx := ne_of_none (sP _ _ upd_same) ns'
  refine ⟨_, rfl, _, rfl, by omega, by omega, ?_⟩
  have hnn : ((n : Int)).toNat = n := rfl
  rw [hnn]
  refine for_range (n := n) (fun i σ H' => Same H2 H' ∧ ∃ (os ps : List Int) (rs : List Addr) (rows : List (List Int)) (y9 y10 y11 : Option V), H' o = some (.lst (os.map V.int)) ∧ H' p = some (.lst (ps.map V.int)) ∧ H' sx = some (.lst (rs.map V.ref)) ∧
      Paired (fun r xs => r ≠ o ∧ r ≠ p ∧ r ≠ sx ∧ H' r = some (.lst (xs.map V.int))) rs rows ∧ os.length = i ∧ ps.length = i ∧ rows.length = i ∧ (∀ x ∈ os, 0 ≤ x ∧ x ≤ 1) ∧ (∀ x ∈ ps, 0 ≤ x ∧ x ≤ top) ∧ (∀ x ∈ rows, Asc (n : Int) x) ∧
      σ = [some (.ref a), some (.int (at' : Int)), some (.int (n : Int)), some (.int top), some (.ref p0), some (.int c), some (.ref o), some (.ref p), some (.ref sx), y9, y10, y11, Option.none])
    ⟨((sO.trans sP).trans sS), [], [], [], [], Option.none, Option.none, Option.none, by rw [upd_ne nos, upd_ne nop]; exact upd_same, by rw [upd_ne nps]; exact upd_same, upd_same, .nil, rfl, rfl, rfl, (fun x h => nomatch h), (fun x h => nomatch h), (fun x h => nomatch h), rfl⟩ ?_ ?_
  · rintro i σ H3 hi ⟨sm3, os, ps, rs, rows, y9, y10, y11, eo, ep, es, pr, l1, l2, l3, v1, v2, v3, rfl⟩
    refine ⟨_, rfl, _, rfl, _, _, rfl, rfl, _, rfl, _, _, rfl, rfl, a, ns, at' + 1 + i, (show [V.ref a, V.int ((at' : Int) + 1 + (0 + (i : Int)))] = [V.ref a, V.int ((at' + 1 + i : Nat) : Int)] by rw [show (at' : Int) + 1 + (0 + (i : Int)) = ((at' + 1 + i : Nat) : Int) by omega]), (sm2.trans sm3).seq hS, hl, by omega, fun z1 => ?_⟩
    refine ⟨_, rfl, _, _, rfl, rfl, _, rfl, le_line (n := 3) (by decide), fun l4 hl4 => ⟨_, rfl, (n : Int), rfl, by omega, by omega, fun D1 hD1 => ?_⟩⟩
    refine lc_mapR (n := n) (fun _ => .int c) (by omega) hD1 (fun j H' k' nn hj sm h => ⟨rfl, tYI ⟨_, rfl, h⟩⟩) (fun H4 s4 eD1 => ?_)
    rw [const_range] at eD1
    refine ⟨l4, D1, _, _, rfl, rfl, s4 _ _ upd_same, eD1, le_line (by show 3 + (List.replicate n (V.int c)).length ≤ 1000; rw [List.length_replicate]; omega), fun q4 hq4 => ?_⟩
    have eq4 : upd H4 q4 (.lst ([V.int 2, V.int (top + 1), V.int (n : Int)] ++ List.replicate n (V.int c))) q4 = some (.lst (([2, top + 1, (n : Int)] ++ List.replicate n c).map V.int)) := by
      rw [upd_same, List.map_append, rep_map]; rfl
    have s34 := ((same_new hl4 (.lst [V.int 2, V.int (top + 1), V.int (n : Int)])).trans s4).trans (same_new hq4 (.lst ([V.int 2, V.int (top + 1), V.int (n : Int)] ++ List.replicate n (V.int c))))
    refine ⟨z1, q4, [2, top + 1, (n : Int)] ++ List.replicate n c, rfl, SqL.of eq4, by rw [List.length_append, List.length_replicate]; show 3 + n ≤ 1000; omega, fun s hs => ?_, fun p5 ds5 H5 s5 hp5 ep5 hd5 => ?_⟩
    · rcases List.mem_append.mp hs with hs | hs
      · simp only [List.mem_cons, List.not_mem_nil, or_false] at hs
        rcases hs with rfl | rfl | rfl <;> omega
      · rw [List.eq_of_mem_replicate hs]; omega
    obtain ⟨e0, r0, rfl, g0, hd5⟩ := hd5.cons
    obtain ⟨e1, r1, rfl, g1, hd5⟩ := hd5.cons
    obtain ⟨e2, rest, rfl, g2, hd5⟩ := hd5.cons
    have lr : rest.length = n := (Dg.len hd5).trans List.length_replicate
    have s35 := s34.trans s5
    have ep05 := s35 _ _ (sm3 _ _ ep02)
    have at5 : ∀ {j : Nat} {z : Int}, (e0 :: e1 :: e2 :: rest)[j]? = some z → atI ((e0 :: e1 :: e2 :: rest).map V.int) (j : Int) = some (.int z) := fun e => atI_nat (at_map e)
    refine ⟨_, rfl, (n : Int), rfl, by omega, by omega, fun D hD => ?_⟩
    refine lc_filterR (n := n) (fun u => decide (rest.getD u 0 = 0) || (decide (d0 = 1) && decide (u = i + 1))) (by omega) hD (fun u H' k' nn hu sm hk hno => ?_) (fun H6 s6 eD => ?_)
    · have hur : u < rest.length := by omega
      have ex : (e0 :: e1 :: e2 :: rest)[3 + u]? = some (rest.getD u 0) := by
        rw [show 3 + u = u + 3 by omega]
        show rest[u]? = _
        rw [List.getD_eq_getElem?_getD, List.getElem?_eq_getElem hur]; rfl
      refine ⟨rfl, ?_⟩
      refine ⟨_, rfl, _, rfl, _, _, rfl, rfl, p5, _, _, .int (rest.getD u 0), rfl, rfl, SqL.of (sm _ _ ep5), (show atI ((e0 :: e1 :: e2 :: rest).map V.int) ((3 : Int) + (0 + (u : Int))) = _ by rw [show (3 : Int) + (0 + (u : Int)) = ((3 + u : Nat) : Int) by omega]; exact at5 ex), rfl, _, rfl, ?_⟩
      have ep06 := sm _ _ ep05
      refine ite2 (fun c1 => ?_) (fun c1 => ?_)
      · rw [dInt] at c1
        refine iteT ⟨_, rfl, hk ?_ _ (.refl _)⟩
        rw [c1]; rfl
      · rw [dInt] at c1
        have c1' := Bool.eq_false_iff.mpr c1
        refine ⟨_, rfl, p0, _, 0, .int d0, rfl, rfl, SqL.of ep06, rfl, rfl, _, rfl, ite2 (fun c2 => ?_) (fun c2 => ?_)⟩
        · rw [dInt] at c2
          refine ⟨_, rfl, _, rfl, _, _, rfl, rfl, rfl, _, rfl, ite2 (fun c3 => ?_) (fun c3 => ?_)⟩
          · have c3' := V.int.inj (of_decide_eq_true c3)
            refine ⟨_, rfl, hk ?_ _ (.refl _)⟩
            rw [c1', c2, decide_eq_true (show u = i + 1 by omega)]; rfl
          · have c3' : ¬ u = i + 1 := fun e => c3 (decide_eq_true (congrArg V.int (by omega)))
            refine hno ?_ _ (.refl _)
            rw [c1', c2, decide_eq_false c3']; rfl
        · rw [dInt] at c2
          have c2' := Bool.eq_false_iff.mpr c2
          refine iteF (hno ?_ _ (.refl _))
          rw [c1', c2']; rfl
    · have s36 := s35.trans s6
      have nD : ∀ {x : Addr} {l : List V}, H3 x = some (.lst l) → D ≠ x := fun e z => by
        rw [z, s35 _ _ e] at hD
        cases hD
      have hsub : ∀ x ∈ (((List.range n).filter fun u => decide (rest.getD u 0 = 0) || (decide (d0 = 1) && decide (u = i + 1))).map fun i : Nat => (i : Int)), 0 ≤ x ∧ x < (n : Int) := by
        intro x hx
        obtain ⟨u, hu, rfl⟩ := List.mem_map.mp hx
        have := List.mem_range.mp (List.mem_filter.mp hu).1
        omega
      have hasc := asc_map (asc_filter (fun u => decide (rest.getD u 0 = 0) || (decide (d0 = 1) && decide (u = i + 1))) n)
      have hlen : (((List.range n).filter fun u => decide (rest.getD u 0 = 0) || (decide (d0 = 1) && decide (u = i + 1))).map fun i : Nat => (i : Int)).length ≤ n := by
        rw [List.length_map]
        exact Nat.le_trans (List.length_filter_le _ _) (by rw [List.length_range]; exact Nat.le_refl _)
      generalize (((List.range n).filter fun u => decide (rest.getD u 0 = 0) || (decide (d0 = 1) && decide (u = i + 1))).map fun i : Nat => (i : Int)) = tg at eD hsub hasc hlen
      have pr6 : Paired (fun r xs => r ≠ o ∧ r ≠ p ∧ r ≠ sx ∧ H6 r = some (.lst (xs.map V.int))) rs rows := L2.Paired.mapP pr fun r xs z => ⟨z.1, z.2.1, z.2.2.1, s36 _ _ z.2.2.2⟩
      refine ⟨fun σ H' => Same H6 H' ∧ ∃ (t : Addr) (xs : List Int), H' t = some (.lst (xs.map V.int)) ∧ Asc (n : Int) xs ∧ t ≠ o ∧ t ≠ p ∧ t ≠ sx ∧ σ = [some (.ref a), some (.int (at' : Int)), some (.int (n : Int)), some (.int top), some (.ref p0), some (.int c), some (.ref o), some (.ref p), some (.ref sx), some (.int (0 + (i : Int))), some (.ref p5), some (.ref t), Option.none], ?_, ?_⟩
      · refine ⟨_, rfl, D, _, rfl, .inl (SqL.of eD), rfl, _, rfl, ite2 (fun c1 => ?_) (fun c1 => ?_)⟩
        · refine ⟨_, rfl, p5, _, 2, .int e2, rfl, rfl, SqL.of (s6 _ _ ep5), at5 (j := 2) rfl, le_line (n := 1) (by decide), fun t ht => ?_⟩
          have nt : ∀ {x : Addr} {l : List V}, H3 x = some (.lst l) → t ≠ x := fun e z => by
            rw [z, s36 _ _ e] at ht
            cases ht
          exact ⟨same_new ht _, t, [e2], upd_same, ⟨List.pairwise_singleton _ _, fun x hx => by rw [List.mem_singleton.mp hx]; exact g2, (fun z => nomatch z), by show 1 ≤ 1000; decide⟩, nt eo, nt ep, nt es, rfl⟩
        · have hne : tg ≠ [] := fun z => by
            subst z
            exact c1 rfl
          exact ⟨.refl _, D, tg, eD, ⟨hasc, hsub, hne, by omega⟩, nD eo, nD ep, nD es, rfl⟩
      · rintro σ H7 ⟨sm7, t, xs, et, hax, nt1, nt2, nt3, rfl⟩
        have s37 := s36.trans sm7
        have eo7 := s37 _ _ eo
        have ep7 := s37 _ _ ep
        have es7 := s37 _ _ es
        have ep57 := sm7 _ _ (s6 _ _ ep5)
        have ep07 := sm7 _ _ (s6 _ _ ep05)
        have sm27 := sm3.trans s37
        have np5o : p5 ≠ o := fun z => by rw [z] at hp5; rw [s34 _ _ eo] at hp5; cases hp5
        have np5p : p5 ≠ p := fun z => by rw [z] at hp5; rw [s34 _ _ ep] at hp5; cases hp5
        have np0o : p0 ≠ o := ne_of_none ep02 no
        have np0p : p0 ≠ p := ne_of_none (sO _ _ ep02) np
        -- owners.append(row[0])
        refine ⟨_, rfl, .inl ⟨rfl, _, SqL.of eo7⟩, _, rfl, p5, _, 0, .int e0, rfl, rfl, SqL.of ep57, at5 (j := 0) rfl, o, _, _, rfl, rfl, eo7, by rw [List.length_map, l1]; exact lt_line (by omega), ?_⟩
        have a1 : upd H7 o (.lst (os.map V.int ++ [V.int e0])) o = some (.lst ((os ++ [e0]).map V.int)) := by rw [upd_same, List.map_append]; rfl
        have a2 : upd H7 o (.lst (os.map V.int ++ [V.int e0])) p = some (.lst (ps.map V.int)) := by rw [upd_ne nop.symm]; exact ep7
        have a3 : upd H7 o (.lst (os.map V.int ++ [V.int e0])) sx = some (.lst (rs.map V.ref)) := by rw [upd_ne nos.symm]; exact es7
        have a4 : upd H7 o (.lst (os.map V.int ++ [V.int e0])) p5 = some (.lst ((e0 :: e1 :: e2 :: rest).map V.int)) := by rw [upd_ne np5o]; exact ep57
        have a5 : upd H7 o (.lst (os.map V.int ++ [V.int e0])) p0 = some (.lst ([d0, d1, d2, d3].map V.int)) := by rw [upd_ne np0o]; exact ep07
        have a6 : upd H7 o (.lst (os.map V.int ++ [V.int e0])) t = some (.lst (xs.map V.int)) := by rw [upd_ne nt1]; exact et
        have a7 : Paired (fun r xs => r ≠ o ∧ r ≠ p ∧ r ≠ sx ∧ upd H7 o (.lst (os.map V.int ++ [V.int e0])) r = some (.lst (xs.map V.int))) rs rows := L2.Paired.mapP pr6 fun r xs z => ⟨z.1, z.2.1, z.2.2.1, by rw [upd_ne z.1]; exact sm7 _ _ z.2.2.2⟩
        have a8 : Same H2 (upd H7 o (.lst (os.map V.int ++ [V.int e0]))) := same_upd sm27 no _
        show tSeq _ _ _ [some (.ref a), some (.int (at' : Int)), some (.int (n : Int)), some (.int top), some (.ref p0), some (.int c), some (.ref o), some (.ref p), some (.ref sx), some (.int (0 + (i : Int))), some (.ref p5), some (.ref t), Option.none] (upd H7 o (.lst (os.map V.int ++ [V.int e0])))
        generalize upd H7 o (.lst (os.map V.int ++ [V.int e0])) = H8 at a1 a2 a3 a4 a5 a6 a7 a8 ⊢
        -- priorities.append(..)
        obtain ⟨pv0, epv, pv1, pv2⟩ : ∃ z : Int, atI [V.int e1, V.int e1, V.int (e1 % 3)] d2 = some (.int z) ∧ 0 ≤ z ∧ z ≤ top := by
          rcases (show d2 = 0 ∨ d2 = 1 ∨ d2 = 2 by omega) with rfl | rfl | rfl
          · exact ⟨_, rfl, by omega, by omega⟩
          · exact ⟨_, rfl, by omega, by omega⟩
          · exact ⟨_, rfl, by omega, by omega⟩
        refine ⟨_, rfl, .inl ⟨rfl, _, SqL.of a2⟩, _, rfl, p5, _, 1, .int e1, rfl, rfl, SqL.of a4, at5 (j := 1) rfl, _, rfl, p5, _, 1, .int e1, rfl, rfl, SqL.of a4, at5 (j := 1) rfl, _, rfl, p5, _, 1, .int e1, rfl, rfl, SqL.of a4, at5 (j := 1) rfl, .inl ⟨_, rfl, _, _, rfl, rfl, (by show (0 : Int) < 3; decide), le_line (n := 3) (by decide), fun l8 hl8 => ?_⟩⟩
        have s8 := same_new hl8 (.lst [V.int e1, V.int e1, V.int (e1 % 3)])
        refine ⟨_, rfl, p0, _, 2, .int d2, rfl, rfl, SqL.of (s8 _ _ a5), rfl, l8, _, d2, _, rfl, rfl, SqL.of upd_same, epv, p, _, _, rfl, rfl, s8 _ _ a2, by rw [List.length_map, l2]; exact lt_line (by omega), ?_⟩
        generalize upd H8 l8 (.lst [V.int e1, V.int e1, V.int (e1 % 3)]) = H9 at s8 ⊢
        have b1' : upd H9 p (.lst (ps.map V.int ++ [V.int pv0])) o = some (.lst ((os ++ [e0]).map V.int)) := by rw [upd_ne nop]; exact s8 _ _ a1
        have b2' : upd H9 p (.lst (ps.map V.int ++ [V.int pv0])) p = some (.lst ((ps ++ [pv0]).map V.int)) := by rw [upd_same, List.map_append]; rfl
        have b3' : upd H9 p (.lst (ps.map V.int ++ [V.int pv0])) sx = some (.lst (rs.map V.ref)) := by rw [upd_ne nps.symm]; exact s8 _ _ a3
        have b6' : upd H9 p (.lst (ps.map V.int ++ [V.int pv0])) t = some (.lst (xs.map V.int)) := by rw [upd_ne nt2]; exact s8 _ _ a6
        have b7' : Paired (fun r xs => r ≠ o ∧ r ≠ p ∧ r ≠ sx ∧ upd H9 p (.lst (ps.map V.int ++ [V.int pv0])) r = some (.lst (xs.map V.int))) rs rows := L2.Paired.mapP a7 fun r xs z => ⟨z.1, z.2.1, z.2.2.1, by rw [upd_ne z.2.1]; exact s8 _ _ z.2.2.2⟩
        have b8' : Same H2 (upd H9 p (.lst (ps.map V.int ++ [V.int pv0]))) := fun b u e => by
          rw [upd_ne (ne_of_none (sO _ _ e) np)]
          exact s8 _ _ (a8 _ _ e)
        generalize upd H9 p (.lst (ps.map V.int ++ [V.int pv0])) = H10 at b1' b2' b3' b6' b7' b8' ⊢
        -- successors.append(targets)
        refine ⟨_, rfl, .inl ⟨rfl, _, SqL.of b3'⟩, _, rfl, sx, _, _, rfl, rfl, b3', by rw [List.length_map, b7'.length, l3]; exact lt_line (by omega), ?_⟩
        refine ⟨fun b u e => ?_, os ++ [e0], ps ++ [pv0], rs ++ [t], rows ++ [xs], _, _, _, ?_, ?_, ?_, ?_, ?_, ?_, ?_, ?_, ?_, ?_, rfl⟩
        · rw [upd_ne (ne_of_none (sP _ _ (sO _ _ e)) ns')]; exact b8' _ _ e
        · rw [upd_ne nos]; exact b1'
        · rw [upd_ne nps]; exact b2'
        · rw [upd_same, List.map_append]; rfl
        · exact (L2.Paired.mapP b7' fun r xs z => ⟨z.1, z.2.1, z.2.2.1, by rw [upd_ne z.2.2.1]; exact z.2.2.2⟩).snoc ⟨nt1, nt2, nt3, by rw [upd_ne nt3]; exact b6'⟩
        · rw [List.length_append, l1]; rfl
        · rw [List.length_append, l2]; rfl
        · rw [List.length_append, l3]; rfl
        · intro x hx
          rcases List.mem_append.mp hx with hx | hx
          · exact v1 x hx
          · rw [List.mem_singleton.mp hx]; omega
        · intro x hx
          rcases List.mem_append.mp hx with hx | hx
          · exact v2 x hx
          · rw [List.mem_singleton.mp hx]; exact ⟨pv1, pv2⟩
        · intro x hx
          rcases List.mem_append.mp hx with hx | hx
          · exact v3 x hx
          · rw [List.mem_singleton.mp hx]; exact hax
  · rintro σ H3 ⟨sm3, os, ps, rs, rows, y9, y10, y11, eo, ep, es, pr, l1, l2, l3, v1, v2, v3, rfl⟩
    refine ⟨_, rfl, _, rfl, _, rfl, le_line (n := 3) (by decide), fun g hg => ?_⟩
    have sg := same_new hg (.lst [V.ref o, V.ref p, V.ref sx])
    refine q _ g os ps rows o p sx rs ((sm2.trans sm3).trans sg) ((sm2.trans sm3).free hg) ⟨upd_same, sg _ _ eo, sg _ _ ep, sg _ _ es, L2.Paired.mapP pr fun r xs z => sg _ _ z.2.2.2⟩ ⟨by omega, by omega, by omega, v1, fun x hx => ⟨(v2 x hx).1, Int.le_trans (v2 x hx).2 ht⟩, fun x hx => by rw [l1]; exact v3 x hx⟩ l1 (fun x hx => (v2 x hx).2)
end
end GM
set_option Elab.async false
set_option linter.all false
set_option maxRecDepth 100000
set_option maxHeartbeats 4000000
set_option pp.maxSteps 150
set_option pp.deepTerms false
namespace GM
open PySem PySem.Spec PyProof.Rows L2
/-! ### winner_of -/
def iEither (t u : TI) : TI := fun σ H R => t σ H R ∨ u σ H R
theorem pi_either {X : Cx} {tg e : Expr} {t u : TI} (h : PI X tg e t) (k : PI X tg e u) : PI X tg e (iEither t u) :=
  ⟨fun pins s σ H R I r => r.elim (h.run pins s σ H R I) (k.run pins s σ H R I)⟩
theorem gd_at {α : Type} {l : List α} {i : Nat} {d : α} (h : i < l.length) : l[i]? = some (l.getD i d) := by
  rw [List.getD_eq_getElem?_getD, List.getElem?_eq_getElem h]; rfl
def SqV (H : Hp) (a : Addr) (xs : List V) : Prop := H a = some (.lst xs) ∨ H a = some (.tup xs)
theorem SqV.same {H H' : Hp} {a : Addr} {xs : List V} (h : SqV H a xs) (s : Same H H') : SqV H' a xs := h.imp (s _ _) (s _ _)
theorem catA {K : PySem.W.Frag} {H : Hp} {a b : Addr} {xs ys : List V} {Q : VK} (ha : SqT K H a xs) (hb : SqT K H b ys) (hz : xs.length + ys.length ≤ sizeLine) (q : ∀ r H', Same H H' → SqT K H' r (xs ++ ys) → Q (.ref r) H') : rCatA K (.ref a) (.ref b) H Q := by
  refine ⟨a, b, xs, ys, rfl, rfl, ha, hb, hz, fun e => ?_, fun _ e => ?_, fun _ _ p hp => q p _ (same_new hp _) (sqT upd_same)⟩
  · subst e; exact q b H (.refl _) hb
  · subst e; exact q a H (.refl _) (by rw [List.append_nil]; exact ha)
theorem cutV_all {xs : List V} {lo hi : Option Int} (h : HT.sIx xs.length 0 lo = 0 ∧ HT.sIx xs.length xs.length hi = xs.length) : cutV xs lo hi = xs := by
  unfold cutV
  rw [h.1, h.2, List.drop_zero, Nat.sub_zero, List.take_length]
theorem cutA {K : PySem.W.Frag} {H : Hp} {a : Addr} {xs : List V} {lo hi : Option Int} {Q : VK} (ha : SqT K H a xs) (q : ∀ r H', Same H H' → SqT K H' r (cutV xs lo hi) → Q (.ref r) H') : rSlA K (.ref a) lo hi H Q := by
  refine ⟨a, xs, rfl, ha, fun e => ?_, fun _ p hp => q p _ (same_new hp _) (sqT upd_same)⟩
  exact q a H (.refl _) (by rw [cutV_all e]; exact ha)
theorem tupOf {K : PySem.W.Frag} {H : Hp} {a : Addr} {xs : List V} {Q : VK} (h : SqV H a xs) (q : ∀ r H', Same H H' → SqT K H' r xs → Q (.ref r) H') : kTup K (.ref a) H Q := by
  rcases h with h | h
  · exact .inl ⟨a, xs, rfl, SqL.of h, fun p hp => q p _ (same_new hp _) (sqT upd_same)⟩
  · exact .inr ⟨a, xs, rfl, sqT h, q a H (.refl _) (sqT h)⟩
theorem inV_int (x : Int) (l : List Int) : inV (.int x) (l.map V.int) = decide (x ∈ l) := by
  unfold inV
  rw [List.any_map]
  by_cases c : x ∈ l
  · rw [decide_eq_true c]
    exact List.any_eq_true.mpr ⟨x, c, beq_self_eq_true x⟩
  · rw [decide_eq_false c]
    exact List.any_eq_false.mpr fun y hy h => c ((beq_iff_eq.mp (show (y == x) = true from h)) ▸ hy)
theorem flat_int (l : List Int) : (l.map V.int).all flatV = true := by
  rw [List.all_map]
  exact List.all_eq_true.mpr fun _ _ => rfl
/-- the numbers, and each one's next -/
def stepsOf (lead ring : List Int) : List Int := lead ++ ring
def aheadOf (lead ring : List Int) : List Int := lead ++ ring ++ ring.take 1
def badAt (n : Nat) (rows : List (List Int)) (st ah : List Int) (k : Nat) : Bool :=
  !(decide (0 ≤ st.getD k 0) && decide (st.getD k 0 < (n : Int))) || (decide (k + 1 < ah.length) && !decide (ah.getD (k + 1) 0 ∈ rows.getD (st.getD k 0).toNat []))
def faultO (n : Nat) (rows : List (List Int)) (lead ring : List Int) : Option Nat :=
  match (List.range (stepsOf lead ring).length).find? (badAt n rows (stepsOf lead ring) (aheadOf lead ring)) with
  | some k => some k
  | none => if ring = [] then some lead.length else none
theorem fault_at {n : Nat} {rows : List (List Int)} {lead ring : List Int} {k : Nat} (hk : k < (stepsOf lead ring).length) (hb : badAt n rows (stepsOf lead ring) (aheadOf lead ring) k = true) (hs : ∀ j, j < k → badAt n rows (stepsOf lead ring) (aheadOf lead ring) j = false) :
    faultO n rows lead ring = some k := by
  unfold faultO
  have e : (List.range (stepsOf lead ring).length).find? (badAt n rows (stepsOf lead ring) (aheadOf lead ring)) = some k := by
    rw [List.find?_range_eq_some]
    exact ⟨hb, List.mem_range.mpr hk, fun j hj => by rw [hs j hj]; rfl⟩
  rw [e]
theorem fault_end {n : Nat} {rows : List (List Int)} {lead ring : List Int} (hs : ∀ j, j < (stepsOf lead ring).length → badAt n rows (stepsOf lead ring) (aheadOf lead ring) j = false) :
    faultO n rows lead ring = if ring = [] then some lead.length else none := by
  unfold faultO
  have e : (List.range (stepsOf lead ring).length).find? (badAt n rows (stepsOf lead ring) (aheadOf lead ring)) = none := by
    refine List.find?_eq_none.mpr fun j hj => ?_
    rw [hs j (List.mem_range.mp hj)]
    exact Bool.false_ne_true
  rw [e]
/-! the same over a tuple -/
section
variable {K : PySem.W.Frag} {a : Addr} {g : TG} {tt : TT} {te : TE} {vs : List Nat} {σ : L2.St} {H1 : Hp} {D : Addr} {Qd : Hp → Prop}
theorem lc_mapIT {xs : List Int} (f : Int → Int) (hlen : xs.length ≤ 1000) (hS : SqT K H1 a (xs.map V.int)) (hD : H1 D = none)
    (hs : ∀ (i : Nat) z H (k : V → Hp → Prop) (n : Hp → Prop), xs[i]? = some z → Same H1 H → k (.int (f z)) H → g (.int z) (wipe σ vs) H fun σ2 H2 => wipe σ2 vs = wipe σ vs ∧ tt σ2 H2 fun b H3 => if b = true then te σ2 H3 k else n H3)
    (hd : ∀ H', Same H1 H' → H' D = some (.lst ((xs.map f).map V.int)) → Qd H') :
    ∃ W : Nat → Nat → Hp → Prop, (∃ m, W 0 m (upd H1 D (.lst []))) ∧ ∀ i m H, W i m H →
      ((Itt K a).stop i H ∧ Qd H) ∨ ((Itt K a).go i H ∧ ∃ Nx : Hp → Prop, (∀ H', Nx H' → ∃ m', m' < m ∧ W (i + 1) m' H') ∧ ∀ x H', (Itt K a).yld i H x H' → g x (wipe σ vs) H' fun σ2 H2 => wipe σ2 vs = wipe σ vs ∧ tt σ2 H2 fun b H3 =>
        if b = true then te σ2 H3 fun y H4 => ∃ acc, H4 D = some (.lst acc) ∧ acc.length < sizeLine ∧ Nx (upd H4 D (.lst (acc ++ [y]))) else Nx H3) := by
  refine lc_tup (xs := xs.map V.int) (fun i H => Same H1 H ∧ H D = some (.lst (((xs.take i).map f).map V.int))) ⟨same_new hD _, upd_same⟩ (fun i H _ z => seqT_same z.1 hS) ?_ ?_
  · rintro i x H hx ⟨sm, eD⟩
    obtain ⟨z, hz, rfl⟩ := map_at hx
    refine hs i z H _ (fun H3 => Same H1 H3 ∧ H3 D = some (.lst (((xs.take (i + 1)).map f).map V.int))) hz sm ⟨_, eD, ?_, same_upd sm hD _, ?_⟩
    · rw [List.length_map, List.length_map]
      exact lt_line (Nat.le_trans (List.length_take_le _ _) (Nat.le_of_lt (Nat.lt_of_lt_of_le (lt_of_at hz) hlen)))
    · rw [upd_same, tk1 hz, List.map_append, List.map_append]; rfl
  · rintro H ⟨sm, eD⟩
    rw [List.length_map, List.take_length] at eD
    exact hd H sm eD
end
def prios (ps : List Int) (ring : List Int) : List Int := ring.map fun v => ps.getD v.toNat 0
def spWin (C Cn : Addr) : Sp := fun vs H Q E => ∃ (p la ra : Addr) (lead ring : List Int) (os ps : List Int) (rows : List (List Int)) (dx a b c : Addr) (ts : List Addr) (m : Int), vs = [.ref p, .ref la, .ref ra] ∧ GameAt C H p os ps rows dx a b c ts m ∧ Valid os ps rows ∧ os.length ≤ 60 ∧
  SqV H la (lead.map V.int) ∧ SqV H ra (ring.map V.int) ∧ lead.length + ring.length ≤ 900 ∧
  (∀ k, faultO os.length rows lead ring = some k → ∀ d H', Same H H' → H' d = some (.xd [(("index" : Str), .int (k : Nat))]) → E (.ref Cn) (some d) H') ∧
  (faultO os.length rows lead ring = none → ∀ t H', Same H H' → t ∈ prios ps ring → (∀ y ∈ prios ps ring, y ≤ t) → Q (.int (t % 2)) H')
theorem cut1 (xs : List V) : cutV xs (some 1) none = xs.drop 1 := cut_lo xs 1
theorem cut2 (xs : List V) : cutV xs none (some 1) = xs.take 1 := cut_hi xs 1
theorem steps_ahead (lead ring : List Int) : ((lead ++ ring).drop 1 ++ ring.take 1) = (aheadOf lead ring).drop 1 := by
  unfold aheadOf
  cases h : lead ++ ring with
  | nil =>
    have : ring = [] := (List.append_eq_nil_iff.mp h).2
    subst this; rfl
  | cons a l => rfl
structure KL (P : Program) (w : World) (K : PySem.W.Frag) (mg : Str → Option Value) (base : Heap) (C : Addr) where
  f : Addr
  fd : FuncData
  ok : FnOk P w K mg base CX0 1 f fd ["self"] (fun vs H Q _ => ∃ (p : Addr) (os ps : List Int) (rows : List (List Int)) (dx a b c : Addr) (ts : List Addr) (m : Int), vs = [.ref p] ∧ GameAt C H p os ps rows dx a b c ts m ∧ Q (.int (os.length : Nat)) H)
  b : Binds K fd ["self"] []
  ml : PySem.W.findIn K (.ref C) "__len__" = some (some (.ref f))
  fn : PySem.W.isFn K (.ref f) = true
def spLen (C : Addr) : Sp := fun vs H Q _ => ∃ (p : Addr) (os ps : List Int) (rows : List (List Int)) (dx a b c : Addr) (ts : List Addr) (m : Int), vs = [.ref p] ∧ GameAt C H p os ps rows dx a b c ts m ∧ Q (.int (os.length : Nat)) H
def spCheck (K : PySem.W.Frag) (C Cn : Addr) : Sp := fun vs H Q E => ∃ (p wk sp : Addr) (st ah : List Int) (os ps : List Int) (rows : List (List Int)) (dx a b c : Addr) (ts : List Addr) (m : Int), vs = [.ref p, .ref wk, .ref sp] ∧ GameAt C H p os ps rows dx a b c ts m ∧ Valid os ps rows ∧ os.length ≤ 60 ∧
  SqT K H wk (st.map V.int) ∧ SqT K H sp ((ah.drop 1).map V.int) ∧ st.length ≤ 900 ∧ ah.length ≤ 901 ∧
  (∀ k, k < st.length → badAt os.length rows st ah k = true → (∀ j, j < k → badAt os.length rows st ah j = false) → ∀ d H', Same H H' → H' d = some (.xd [(("index" : Str), .int (k : Nat))]) → E (.ref Cn) (some d) H') ∧
  ((∀ j, j < st.length → badAt os.length rows st ah j = false) → ∀ H', Same H H' → Q .non H')
/-- a def that may raise, called -/
structure KnE (P : Program) (w : World) (K : PySem.W.Frag) (mg : Str → Option Value) (base : Heap) (k : Nat) (x : Str) (ps : List Str) (sp : Sp) where
  f : Addr
  fd : FuncData
  ok : FnOk P w K mg base (L2N.CX P w) k f fd ps sp
  b : Binds K fd ps []
  kp : PySem.W.keepIn K (.ref f) = true
  m : mg x = some (.ref f)
section
variable {P : Program} {w : World} {K : PySem.W.Frag} {mg : Str → Option Value} {base : Heap} {C Cn fI : Addr} (M : Blt mg) (T : GTxt K mg C) (TN : PySem.NotAPlayX.Txt K mg Cn fI)
include M T TN
theorem ok_check {f : Addr} {fd : FuncData} (F : Fun K "check_walk" "check_walk" s_check_walk f fd) (GL : KL P w K mg base C) : FnOk P w K mg base (L2N.CX P w) 3 f fd ["game", "walk", "steps"] (spCheck K C Cn) := by
  refine okN F sc_check_walk (fun vs H Q E h => ?_) (fun cdv A outer s H vs Q E hr h => ?_)
  · obtain ⟨p, wk, sp, st, ah, os, ps, rows, dx, a, b, c, ts, m, rfl, _⟩ := h
    rfl
  obtain ⟨p, wk, sp, st, ah, os, ps, rows, dx, a, b, c, ts, m, rfl, G, V0, h60, qw, qs, lst, lah, qE, qQ⟩ := h
  have nd := sc_check_walk.nd
  refine ⟨_, pss_one (ps_for (passes_of rfl) rfl (pi_enumT (by rfl) M.enumerate (pa_cons (pv 1) pa_nil)) (pg_tup rfl (pgs_cons (pg_name (i := 3) nd rfl (.inl rfl)) (pgs_cons (pg_name (i := 4) nd rfl (.inl rfl)) pgs_nil))) (pss_cons (ps_if (pt_not (pt_chain op_le op_lt pe_int (pv 4) (pe_callB (show CallR _ (.builtin "len") (rLenO C (spLen C)) from cr_lenO GL.ok GL.b (hr.mono (by decide)) GL.ml GL.fn) (by rfl) M.len PySem.boot_len (pa_cons (pv 0) pa_nil)))) (pss_one (ps_raiseNotAPlay rfl TN hr (L2N.takes_of rfl rfl rfl rfl) (pa_cons (pv 3) pa_nil))) pss_nil)
      (pss_one (ps_if (PW.pt (pw_and (pt_cmpR op_lt (pv 3) (pe_callB call_len_seq (by rfl) M.len PySem.boot_len (pa_cons (pv 2) pa_nil)) (nomark _)) (pw_and1 (pt_cmpR op_notIn_seq (pe_ix ix_tup (pv 2) (pv 3) (fun _ _ => rfl)) (pe_ix ix_tup (pe_fld (pv 0) rfl) (pv 4) (fun _ _ => rfl)) rfl)))) (pss_one (ps_raiseNotAPlay rfl TN hr (L2N.takes_of rfl rfl rfl rfl) (pa_cons (pv 3) pa_nil))) pss_nil)))), ?_⟩
  have m7 := Same.refl H
  refine ⟨_, rfl, wk, st.map V.int, rfl, qw, ?_⟩
  refine for_et (xs := st.map V.int) (fun i σ H' => Same H H' ∧ (∀ j, j < i → badAt os.length rows st ah j = false) ∧ ∃ y5 y6 : Option V, σ = [some (.ref p), some (.ref wk), some (.ref sp), y5, y6]) ⟨.refl _, fun _ h => absurd h (Nat.not_lt_zero _), Option.none, Option.none, rfl⟩ (fun i σ H' _ z => seqT_same z.1 qw) ?_ ?_
  · rintro i x Tp σ H8 hx ⟨sm, hbad, y5, y6, rfl⟩ hTp
    obtain ⟨z, hz, rfl⟩ := map_at hx
    have hi := lt_of_at hz
    have ez : st.getD i 0 = z := by rw [List.getD_eq_getElem?_getD, hz]; rfl
    have sT := same_new hTp (.tup [.int (i : Nat), .int z])
    have eTp : upd H8 Tp (.tup [.int (i : Nat), .int z]) Tp = some (.tup [.int (i : Nat), .int z]) := upd_same
    have smT := sm.trans sT
    generalize upd H8 Tp (.tup [.int (i : Nat), .int z]) = H9 at sT eTp smT ⊢
    have m9 := m7.trans smT
    have G9 := G.same m9
    have bdef : badAt os.length rows st ah i = (!(decide (0 ≤ z) && decide (z < (os.length : Int))) || (decide (i + 1 < ah.length) && !decide (ah.getD (i + 1) 0 ∈ rows.getD z.toNat []))) := by unfold badAt; rw [ez]
    refine ⟨Tp, _, rfl, sqT eTp, rfl, _, _, rfl, _, _, rfl, rfl, ?_⟩
    have raised : badAt os.length rows st ah i = true → ∀ d, H9 d = Option.none → E (.ref Cn) (some d) (upd H9 d (.xd [(("index" : Str), .int (i : Nat))])) := fun hb d hd => qE i hi hb hbad d _ (m9.trans (same_new hd _)) upd_same
    have nxt : badAt os.length rows st ah i = false → ∀ j, j < i + 1 → badAt os.length rows st ah j = false := fun hb j hj => by
      by_cases h : j < i
      · exact hbad j h
      · have : j = i := by omega
        rw [this]; exact hb
    refine ⟨_, rfl, _, _, rfl, rfl, _, rfl, ?_⟩
    by_cases c1 : (0 : Int) ≤ z
    · rw [if_pos (decide_eq_true c1)]
      refine ⟨_, rfl, p, dx, _, rfl, G9.ob, p, os, ps, rows, dx, a, b, c, ts, m, rfl, G9, os.length, rfl, by omega, _, _, rfl, rfl, ?_⟩
      by_cases c2 : z < (os.length : Int)
      · refine ⟨true, congrArg V.bl (decide_eq_true c2), iteF ?_⟩
        have hzn : z.toNat < os.length := by omega
        have hz2 : ((z.toNat : Nat) : Int) = z := by omega
        have hrow : rows[z.toNat]? = some (rows.getD z.toNat []) := gd_at (by rw [V0.l2]; exact hzn)
        obtain ⟨tr, htr, etr⟩ := pr_getR G9.or hrow
        rw [decide_eq_true c1, decide_eq_true c2] at bdef
        refine ⟨_, rfl, _, rfl, sp, _, rfl, .inr (seqT_same smT qs), _, _, rfl, rfl, _, rfl, ?_⟩
        rw [List.length_map, List.length_drop]
        by_cases c3 : i + 1 < ah.length
        · rw [decide_eq_true (show ((i : Nat) : Int) < ((ah.length - 1 : Nat) : Int) by omega)]
          rw [decide_eq_true c3] at bdef
          have ea : (ah.drop 1)[i]? = some (ah.getD (i + 1) 0) := by rw [List.getElem?_drop, Nat.add_comm]; exact gd_at c3
          refine iteT ⟨_, rfl, _, rfl, sp, _, _, _, rfl, rfl, seqT_same smT qs, atI_nat (at_map ea), _, rfl, p, C, dx, _, _, rfl, G9.ob, T.cl, T.nS, fld_suc a b c m, _, rfl, c, _, _, _, rfl, rfl, sqT G9.oc, (by rw [← hz2]; exact atI_nat (at_map htr)), tr, _, rfl, .inr (sqT etr), rfl, flat_int _, _, rfl, ?_⟩
          rw [inV_int]
          by_cases c4 : ah.getD (i + 1) 0 ∈ rows.getD z.toNat []
          · rw [decide_eq_true c4] at bdef ⊢
            exact iteF ⟨smT, nxt bdef, _, _, rfl⟩
          · rw [decide_eq_false c4] at bdef ⊢
            exact iteT ⟨_, rfl, _, rfl, fun d hd => raised bdef d hd⟩
        · rw [decide_eq_false (show ¬ ((i : Nat) : Int) < ((ah.length - 1 : Nat) : Int) by omega)]
          rw [decide_eq_false c3] at bdef
          exact iteF ⟨smT, nxt bdef, _, _, rfl⟩
      · rw [decide_eq_true c1, decide_eq_false c2] at bdef
        exact ⟨false, congrArg V.bl (decide_eq_false c2), iteT ⟨_, rfl, _, rfl, fun d hd => raised bdef d hd⟩⟩
    · rw [if_neg (by rw [decide_eq_false c1]; exact Bool.false_ne_true)]
      rw [decide_eq_false c1] at bdef
      exact ⟨_, rfl, iteT ⟨_, rfl, _, rfl, fun d hd => raised bdef d hd⟩⟩
  · rintro σ H8 ⟨sm, hbad, y5, y6, rfl⟩
    rw [List.length_map] at hbad
    exact qQ hbad _ sm
theorem ok_win {f : Addr} {fd : FuncData} (F : Fun K "winner_of" "winner_of" s_winner_of f fd) (Gcheck_walk : KnE P w K mg base 3 "check_walk" ["game", "walk", "steps"] (spCheck K C Cn)) : FnOk P w K mg base (L2N.CX P w) 4 f fd ["game", "lead", "ring"] (spWin C Cn) := by
  refine okN F sc_winner_of (fun vs H Q E h => ?_) (fun cdv A outer s H vs Q E hr h => ?_)
  · obtain ⟨p, la, ra, lead, ring, os, ps, rows, dx, a, b, c, ts, m, rfl, _⟩ := h
    rfl
  obtain ⟨p, la, ra, lead, ring, os, ps, rows, dx, a, b, c, ts, m, rfl, G, V0, h60, el, er, hl, qE, qQ⟩ := h
  have nd := sc_winner_of.nd
  refine ⟨_, pss_cons (ps_set (i := 3) nd rfl (.inl rfl) (pe_op op_catA (pe_tupleOf (by rfl) M.tuple (pv 1)) (pe_tupleOf (by rfl) M.tuple (pv 2))))
    (pss_cons (ps_expr (pe_callS Gcheck_walk.ok (hr.mono (by decide)) (by rfl) Gcheck_walk.m Gcheck_walk.kp Gcheck_walk.b (fun σ => L2N.passAt (L2N.takes_of rfl rfl rfl rfl) σ) (pa_cons (pv 0) (pa_cons (pv 3) (pa_cons (pe_op op_catA (pe_slice sl_tupA (pv 3) (po_some pe_int) po_none) (pe_slice sl_tupA (pe_tupleOf (by rfl) M.tuple (pv 2)) po_none (po_some pe_int))) pa_nil)))))
    (pss_cons (ps_if (pt_not (pt_truth (pv 2) (by intro _; rfl))) (pss_one (ps_raiseNotAPlay rfl TN hr (L2N.takes_of rfl rfl rfl rfl) (pa_cons (pe_callB call_len_seq (by rfl) M.len PySem.boot_len (pa_cons (pv 3) pa_nil)) pa_nil))) pss_nil)
    (pss_one (ps_ret (pe_op op_mod (pe_callB (cr_max rfl) (by rfl) M.max (by decide +kernel) (pa_cons (pe_lc (own := [("vertex", 4)]) (g := gName 4) (tt := tYes) rfl nd (pi_either (pi_list (pv 2)) (pi_tup (pv 2))) (blkOk_by (N := n_winner_of) (sc := defScope s_winner_of) (by decide +kernel)) (fun _ _ _ _ _ => pg_name (i := 4) nd rfl (Or.inl rfl)) (fun _ _ _ _ _ => pts_nil) (fun _ _ _ _ _ => (pe_ix (show IxR _ (rIxT K) from ix_tup) (show PE _ _ (tFld K (tVar 0) "priorities") from pe_fld (pv 0) rfl) (pv 4) (fun _ _ => rfl)))) pa_nil)) pe_int))))), ?_⟩
  have l900 : lead.length + ring.length ≤ sizeLine := le_line (by omega)
  refine ⟨_, rfl, ?_⟩
  refine tupOf el fun r1 H1 s1 q1 => ⟨_, rfl, ?_⟩
  refine tupOf (er.same s1) fun r2 H2 s2 q2 => ?_
  refine catA (seqT_same s2 q1) q2 (by rw [List.length_map, List.length_map]; exact l900) fun wk H3 s3 qw => ?_
  rw [← List.map_append] at qw
  have m3 := (s1.trans s2).trans s3
  refine ⟨_, rfl, _, rfl, _, rfl, _, rfl, ?_⟩
  unfold tNoPart
  refine cutA qw fun r4 H4 s4 q4 => ⟨_, rfl, ?_⟩
  refine tupOf ((er.same m3).same s4) fun r5 H5 s5 q5 => ?_
  refine ⟨_, rfl, ?_⟩
  refine cutA q5 fun r6 H6 s6 q6 => ?_
  refine catA (seqT_same (s5.trans s6) q4) q6 ?_ fun sp H7 s7 qs => ?_
  · rw [cut1, cut2, List.length_drop, List.length_take, List.length_map, List.length_map, List.length_append]; exact le_line (by omega)
  rw [cut1, cut2, ← List.map_drop, ← List.map_take, ← List.map_append, steps_ahead] at qs
  have m47 := ((s4.trans s5).trans s6).trans s7
  have m7 := m3.trans m47
  have qw7 := seqT_same m47 qw
  clear q1 q2 q4 q5 q6 qw s1 s2 s3 s4 s5 s6 s7 m3 m47
  have hst : (stepsOf lead ring) = lead ++ ring := rfl
  rw [← hst] at qw7
  have lst : (stepsOf lead ring).length = lead.length + ring.length := by rw [hst, List.length_append]
  generalize hS : stepsOf lead ring = st at *
  generalize hA : aheadOf lead ring = ah at *
  have lah : ah.length ≤ 901 := by
    rw [← hA]; unfold aheadOf; rw [List.length_append, List.length_append, List.length_take]; omega
  refine ⟨p, wk, sp, st, ah, os, ps, rows, dx, a, b, c, ts, m, rfl, G.same m7, V0, h60, qw7, qs, by omega, lah, fun k hk hb hs d H8 s8 ed => ?_, fun hbad H8 sm => ?_⟩
  · exact qE k (fault_at (n := os.length) (rows := rows) (lead := lead) (ring := ring) (by rw [hS]; exact hk) (by rw [hS, hA]; exact hb) (by rw [hS, hA]; exact hs)) d _ (m7.trans s8) ed
  · have hend := fault_end (n := os.length) (rows := rows) (lead := lead) (ring := ring) (by rw [hS, hA]; exact hbad)
    have m8 := m7.trans sm
    have G8 := G.same m8
    have er8 := er.same m8
    have tru : TruV K (.ref ra) H8 (!ring.isEmpty) := by
      have e : (ring.map V.int).isEmpty = ring.isEmpty := by cases ring <;> rfl
      rcases er8 with h | h
      · exact .inl ⟨_, SqL.of h, by rw [e]⟩
      · exact .inr (.inl ⟨_, sqT h, by rw [e]⟩)
    refine ⟨_, rfl, _, tru, ?_⟩
    cases hr0 : ring with
    | nil =>
      subst hr0
      rw [if_pos rfl] at hend
      refine iteT ⟨_, rfl, wk, _, rfl, .inr (seqT_same sm qw7), _, rfl, fun d hd => ?_⟩
      refine qE _ hend d _ (m8.trans (same_new hd _)) ?_
      rw [upd_same, List.length_map, lst]; rfl
    | cons r0 rs0 =>
      rw [← hr0]
      rw [if_neg (by rw [hr0]; exact List.cons_ne_nil _ _)] at hend
      have e0 : ring.isEmpty = false := by rw [hr0]; rfl
      rw [e0]
      refine iteF ?_
      have inr : ∀ z ∈ ring, 0 ≤ z ∧ z < (os.length : Int) := fun z hz => by
        obtain ⟨j, hj, ej⟩ := List.getElem_of_mem hz
        have hb := hbad (lead.length + j) (by omega)
        have e1 : st.getD (lead.length + j) 0 = z := by
          rw [← hS, List.getD_eq_getElem?_getD]
          unfold stepsOf
          rw [List.getElem?_append_right (by omega), Nat.add_sub_cancel_left, List.getElem?_eq_getElem hj, ej]; rfl
        unfold badAt at hb
        rw [e1] at hb
        have h2 := (Bool.or_eq_false_iff.mp hb).1
        have h3 : (decide (0 ≤ z) && decide (z < (os.length : Int))) = true := by
          cases h4 : (decide (0 ≤ z) && decide (z < (os.length : Int))) with
          | true => rfl
          | false => rw [h4] at h2; exact nomatch h2
        have h5 := Bool.and_eq_true_iff.mp h3
        exact ⟨of_decide_eq_true h5.1, of_decide_eq_true h5.2⟩
      have fin : ∀ (D : Addr) (H9 : Hp), Same H8 H9 → H9 D = some (.lst ((prios ps ring).map V.int)) → rMax K [.ref D] H9 (fun x H10 => rI (fun _ j => 0 < j) (fun i j => V.int (i % j)) x (.int 2) H10 Q) := fun D H9 s9 eD => by
        refine ⟨D, prios ps ring, rfl, SqL.of eD, ?_, fun mx h1 h2 => ⟨_, _, rfl, rfl, (by show (0 : Int) < 2; decide), qQ hend mx H9 (m8.trans s9) h1 h2⟩⟩
        unfold prios
        rw [List.length_map, hr0]; exact Nat.succ_pos _
      have turn : ∀ (i : Nat) (z : Int) (H9 : Hp) (k : V → Hp → Prop) (nn : Hp → Prop) (σ : L2.St), σ[0]? = some (some (.ref p)) → σ[4]? = some (some (.int z)) → z ∈ ring → Same H8 H9 → k (.int (ps.getD z.toNat 0)) H9 → tOp (rIxT K) (tFld K (tVar 0) "priorities") (tVar 4) σ H9 k := by
        intro i z H9 k nn σ e0 e6 hz s9 hk
        have h3 := inr z hz
        have ep : ps[z.toNat]? = some (ps.getD z.toNat 0) := gd_at (by rw [V0.l1]; omega)
        have G9 := G8.same s9
        exact ⟨_, e0, p, C, dx, _, _, rfl, G9.ob, T.cl, T.nP, fld_pri a b c m, _, e6, b, _, _, _, rfl, rfl, sqT G9.ob2, (by rw [show z = ((z.toNat : Nat) : Int) by omega]; exact atI_nat (at_map (by rw [Int.toNat_natCast]; exact ep))), hk⟩
      rcases er8 with h | h
      · refine .inl ⟨_, rfl, ra, rfl, ⟨_, SqL.of h⟩, fun D hD => ?_⟩
        refine lc_mapI (fun v => ps.getD v.toNat 0) (by omega) (SqL.of h) hD (fun i z H9 k nn hz sm9 hk => ⟨rfl, tYI (turn i z H9 k nn _ rfl rfl (List.mem_of_getElem? hz) sm9 hk)⟩) (fun H9 s9 eD => fin D H9 s9 eD)
      · refine .inr ⟨_, rfl, ra, rfl, ⟨_, sqT h⟩, fun D hD => ?_⟩
        refine lc_mapIT (fun v => ps.getD v.toNat 0) (by omega) (sqT h) hD (fun i z H9 k nn hz sm9 hk => ⟨rfl, tYI (turn i z H9 k nn _ rfl rfl (List.mem_of_getElem? hz) sm9 hk)⟩) (fun H9 s9 eD => fin D H9 s9 eD)
end
end GM
set_option Elab.async false
set_option linter.all false
set_option maxRecDepth 100000
set_option maxHeartbeats 4000000
set_option pp.maxSteps 150
set_option pp.deepTerms false
namespace GM
open PySem PySem.Spec PyProof.Rows L2
/-! ### walks -/
def Wk (n : Nat) (rows : List (List Int)) (st : List Int) : Prop :=
  (∀ x ∈ st, 0 ≤ x ∧ x < (n : Int)) ∧ ∀ k, k + 1 < st.length → st.getD (k + 1) 0 ∈ rows.getD (st.getD k 0).toNat []
theorem wk_one {n : Nat} {rows : List (List Int)} {x : Int} (h : 0 ≤ x ∧ x < (n : Int)) : Wk n rows [x] :=
  ⟨fun y hy => by rw [List.mem_singleton.mp hy]; exact h, fun k hk => absurd hk (by rw [List.length_singleton]; omega)⟩
theorem getD_l {l m : List Int} {k : Nat} (h : k < l.length) : (l ++ m).getD k 0 = l.getD k 0 := by
  rw [List.getD_eq_getElem?_getD, List.getD_eq_getElem?_getD, List.getElem?_append_left h]
theorem getD_r {l : List Int} {x : Int} : (l ++ [x]).getD l.length 0 = x := by
  rw [List.getD_eq_getElem?_getD, List.getElem?_append_right (Nat.le_refl _), Nat.sub_self]; rfl
theorem getD_take {l : List Int} {k j : Nat} (h : k < j) : (l.take j).getD k 0 = l.getD k 0 := by
  rw [List.getD_eq_getElem?_getD, List.getD_eq_getElem?_getD, List.getElem?_take_of_lt h]
theorem wk_snoc {n : Nat} {rows : List (List Int)} {pre : List Int} {z t : Int} (h : Wk n rows (pre ++ [z])) (ht : 0 ≤ t ∧ t < (n : Int)) (hm : t ∈ rows.getD z.toNat []) : Wk n rows (pre ++ [z] ++ [t]) := by
  refine ⟨fun x hx => ?_, fun k hk => ?_⟩
  · rcases List.mem_append.mp hx with hx | hx
    · exact h.1 x hx
    · rw [List.mem_singleton.mp hx]; exact ht
  · have e : (pre ++ [z]).length = pre.length + 1 := by rw [List.length_append]; rfl
    rw [List.length_append, e, List.length_singleton] at hk
    by_cases c : k + 1 < pre.length + 1
    · rw [getD_l (l := pre ++ [z]) (by omega), getD_l (l := pre ++ [z]) (by omega)]
      exact h.2 k (by omega)
    · have ek : k = pre.length := by omega
      subst ek
      rw [getD_l (l := pre ++ [z]) (by omega), getD_r]
      rw [← e, getD_r]
      exact hm
theorem nodup_len : ∀ (n : Nat) (l : List Nat), l.Nodup → (∀ x ∈ l, x < n) → l.length ≤ n
  | 0, [], _, _ => Nat.le_refl _
  | 0, x :: l, _, h => absurd (h x List.mem_cons_self) (Nat.not_lt_zero _)
  | n + 1, l, hd, h => by
    by_cases c : n ∈ l
    · have e := nodup_len n (l.erase n) (hd.erase n) (fun x hx => by
        have h1 := h x (List.mem_of_mem_erase hx)
        have h2 : x ≠ n := fun z => (hd.mem_erase_iff.mp hx).1 z
        omega)
      rw [List.length_erase_of_mem c] at e
      omega
    · have e := nodup_len n l hd (fun x hx => by
        have h1 := h x hx
        have h2 : x ≠ n := fun z => c (z ▸ hx)
        omega)
      omega
/-- two of many are equal -/
theorem wk_meet {n : Nat} {st : List Int} (hb : ∀ x ∈ st, 0 ≤ x ∧ x < (n : Int)) (hl : n < st.length) : ∃ i j, i < j ∧ j < st.length ∧ st.getD i 0 = st.getD j 0 := by
  refine Classical.byContradiction fun hno => ?_
  have nd : (st.map Int.toNat).Nodup := by
    refine List.pairwise_iff_getElem.mpr fun i j hi hj hij e => hno ⟨i, j, hij, by rw [List.length_map] at hj; exact hj, ?_⟩
    rw [List.length_map] at hi hj
    rw [List.getElem_map, List.getElem_map] at e
    have b1 := hb _ (List.getElem_mem hi)
    have b2 := hb _ (List.getElem_mem hj)
    rw [List.getD_eq_getElem?_getD, List.getD_eq_getElem?_getD, List.getElem?_eq_getElem hi, List.getElem?_eq_getElem hj]
    show st[i] = st[j]
    omega
  have e := nodup_len n _ nd (fun x hx => by
    obtain ⟨y, hy, rfl⟩ := List.mem_map.mp hx
    have := hb y hy
    omega)
  rw [List.length_map] at e
  omega
theorem wk_cut {n : Nat} {rows : List (List Int)} {st : List Int} {i j : Nat} (h : Wk n rows st) (hij : i < j) (hj : j < st.length) (e : st.getD i 0 = st.getD j 0) : faultO n rows (st.take i) ((st.drop i).take (j - i)) = none := by
  have h1 : stepsOf (st.take i) ((st.drop i).take (j - i)) = st.take j := by
    unfold stepsOf
    rw [← List.take_add, show i + (j - i) = j by omega]
  have hi : i < st.length := by omega
  have h2 : ((st.drop i).take (j - i)).take 1 = [st.getD i 0] := by
    rw [List.drop_eq_getElem_cons hi, show j - i = (j - i - 1) + 1 by omega, List.take_succ_cons, List.take_succ_cons, List.take_zero, List.getD_eq_getElem?_getD, List.getElem?_eq_getElem hi]; rfl
  have h3 : aheadOf (st.take i) ((st.drop i).take (j - i)) = st.take (j + 1) := by
    have : st.take i ++ (st.drop i).take (j - i) = st.take j := h1
    unfold aheadOf
    rw [this, h2, e, tk1 (gd_at (d := (0 : Int)) hj)]
  have h4 : (st.drop i).take (j - i) ≠ [] := fun z => by rw [z] at h2; exact nomatch h2
  have := fault_end (n := n) (rows := rows) (lead := st.take i) (ring := (st.drop i).take (j - i)) (fun k hk => by
    rw [h1, List.length_take] at hk
    rw [h1, h3]
    unfold badAt
    have hkj : k < j := by omega
    rw [getD_take hkj]
    have hx := h.1 (st.getD k 0) (List.mem_of_getElem? (gd_at (d := (0 : Int)) (show k < st.length by omega)))
    rw [decide_eq_true hx.1, decide_eq_true hx.2, List.length_take, getD_take (by omega), decide_eq_true (h.2 k (by omega))]
    exact Bool.and_false _)
  rw [this, if_neg h4]
theorem atI_last {l : List V} {x : V} : atI (l ++ [x]) (-1) = some x := by
  have e : ixN (l ++ [x]).length (-1) = some l.length := by
    rw [List.length_append]
    unfold ixN
    rw [if_neg (by decide), if_pos (by show _ ≤ _; rw [List.length_singleton]; omega)]
    rw [List.length_singleton]
    congr 1
    omega
  unfold atI
  rw [e]
  show (l ++ [x])[l.length]? = some x
  rw [List.getElem?_append_right (Nat.le_refl _), Nat.sub_self]; rfl
def spPlay : Sp := fun vs H Q _ => ∃ (g : Addr) (z : Int) (os ps : List Int) (rows : List (List Int)) (o p sx : Addr) (rs : List Addr), vs = [.ref g, .int z] ∧ GraphAt H g os ps rows o p sx rs ∧ Valid os ps rows ∧ 1 ≤ os.length ∧ os.length ≤ 40 ∧
  ∀ H' r la ra lead ring, Same H H' → H' r = some (.lst [.ref la, .ref ra]) → H' la = some (.lst (lead.map V.int)) → H' ra = some (.lst (ring.map V.int)) → faultO os.length rows lead ring = none → lead.length + ring.length ≤ 400 → (∀ x ∈ lead ++ ring, 0 ≤ x ∧ x < (os.length : Int)) → Q (.ref r) H'
section
variable {P : Program} {w : World} {K : PySem.W.Frag} {mg : Str → Option Value} {base : Heap} (M : Blt mg)
include M
theorem ok_play {f : Addr} {fd : FuncData} (F : Fun K "_law_play" "_law_play" s__law_play f fd) (G_law_digits : Kn P w K mg base 1 "_law_digits" ["cell", "sizes"] (spDigits K)) : FnOk P w K mg base CX0 2 f fd ["game", "cell"] spPlay := by
  refine F.ok sc__law_play (fun vs H Q E h => ?_) (fun cdv A outer s H vs Q E hr h => ?_)
  · obtain ⟨g, z, os, ps, rows, o, p, sx, rs, rfl, _⟩ := h
    rfl
  obtain ⟨g, z, os, ps, rows, o, p, sx, rs, rfl, G, V0, hn1, h40, q⟩ := h
  have nd := sc__law_play.nd
  refine ⟨_, pss_cons (ps_set (i := 2) nd rfl (.inl rfl) (pe_callB call_len_seq (by rfl) M.len PySem.boot_len (pa_cons (pe_ix ix_list (pv 0) pe_int (fun _ _ => rfl)) pa_nil)))
    (pss_cons (ps_set (i := 3) nd rfl (.inl rfl) (pe_call G_law_digits.ok (hr.mono (by decide)) (by rfl) G_law_digits.m G_law_digits.kp G_law_digits.b .nil pass0 (pa_cons (pv 1) (pa_cons (pe_op op_cat (pe_lst (pa_cons (pv 2) (pa_cons pe_int (pa_cons pe_int pa_nil)))) (pe_lc (own := [("k", 5)]) (g := gName 5) (tt := tYes) rfl nd (pi_range1 rfl M.range (pa_cons (pe_op op_add (pv 2) pe_int) pa_nil)) (blkOk_by (N := n__law_play) (sc := defScope s__law_play) (by decide +kernel)) (fun _ _ _ _ _ => pg_name (i := 5) nd rfl (Or.inl rfl)) (fun _ _ _ _ _ => pts_nil) (fun _ _ _ _ _ => pe_int))) pa_nil))))
    (pss_cons (ps_set (i := 4) nd rfl (.inl rfl) (pe_lst (pa_cons (pe_ix ix_list (pv 3) pe_int (fun _ _ => rfl)) pa_nil)))
    (pss_cons (ps_for PassesOwn.never rfl (pi_range1 rfl M.range (pa_cons (pe_op op_add (pv 2) (pe_ix ix_list (pv 3) pe_int (fun _ _ => rfl))) pa_nil)) (pg_name (i := 5) nd rfl (.inl rfl)) (pss_cons (ps_set (i := 6) nd rfl (.inl rfl) (pe_ix ix_list (pe_ix ix_list (pv 0) pe_int (fun _ _ => rfl)) (pe_ix ix_list (pv 4) (pe_un un_neg pe_int) (fun _ _ => rfl)) (fun _ _ => rfl)))
      (pss_one (ps_expr (pe_bm PySem.F.plainAttrs_list PySem.F.slot_list_append PySem.F.type_list_append mt_append (pv 4) (pa_cons (pe_ix ix_list (pv 6) (pe_op op_mod (pe_callTy call_int1 (by rfl) M.int PyProof.Rows.boot_int (pa_cons (pe_ix ix_list (pv 3) (pe_op op_add pe_int (pv 5)) (fun _ _ => rfl)) pa_nil)) (pe_callB call_len_seq (by rfl) M.len PySem.boot_len (pa_cons (pv 6) pa_nil))) (fun _ _ => rfl)) pa_nil))))))
    (pss_cons (ps_set (i := 7) nd rfl (.inl rfl) (pe_lst pa_nil))
    (pss_cons (ps_for PassesOwn.never rfl (pi_range1 rfl M.range (pa_cons (pe_callB call_len_seq (by rfl) M.len PySem.boot_len (pa_cons (pv 4) pa_nil)) pa_nil)) (pg_name (i := 8) nd rfl (.inl rfl)) (pss_one (ps_for PassesOwn.never rfl (pi_range2 rfl M.range (pa_cons (pe_op op_add (pv 8) pe_int) (pa_cons (pe_callB call_len_seq (by rfl) M.len PySem.boot_len (pa_cons (pv 4) pa_nil)) pa_nil))) (pg_name (i := 9) nd rfl (.inl rfl)) (pss_one (ps_if (pt_cmpR op_eq (pe_ix ix_list (pv 4) (pv 8) (fun _ _ => rfl)) (pe_ix ix_list (pv 4) (pv 9) (fun _ _ => rfl)) (nomark _)) (pss_one (ps_expr (pe_bm PySem.F.plainAttrs_list PySem.F.slot_list_append PySem.F.type_list_append mt_append (pv 7) (pa_cons (pe_lst (pa_cons (pv 8) (pa_cons (pv 9) pa_nil))) pa_nil)))) pss_nil)))))
    (pss_cons (ps_set (i := 10) nd rfl (.inl rfl) (pe_ix ix_list (pv 7) (pe_op op_mod (pe_callTy call_int1 (by rfl) M.int PyProof.Rows.boot_int (pa_cons (pe_ix ix_list (pv 3) pe_int (fun _ _ => rfl)) pa_nil)) (pe_callB call_len_seq (by rfl) M.len PySem.boot_len (pa_cons (pv 7) pa_nil))) (fun _ _ => rfl)))
    (pss_one (ps_ret (pe_lst (pa_cons (pe_slice sl_list (pv 4) po_none (po_some (pe_ix ix_list (pv 10) pe_int (fun _ _ => rfl)))) (pa_cons (pe_slice sl_list (pv 4) (po_some (pe_ix ix_list (pv 10) pe_int (fun _ _ => rfl))) (po_some (pe_ix ix_list (pv 10) pe_int (fun _ _ => rfl)))) pa_nil))))))))))), ?_⟩
  have hrl : rows.length = os.length := V0.l2
  refine ⟨_, rfl, g, _, 0, .ref o, rfl, rfl, SqL.of G.g0, rfl, o, _, rfl, .inl (SqL.of G.o0), ?_⟩
  rw [List.length_map]
  generalize hn : os.length = n at *
  refine ⟨_, rfl, _, rfl, le_line (n := 3) (by decide), fun l4 hl4 => ⟨_, rfl, _, _, rfl, rfl, _, rfl, by omega, by omega, fun D1 hD1 => ?_⟩⟩
  rw [show ((n : Int) + 6).toNat = n + 6 by omega]
  refine lc_mapR (n := n + 6) (fun _ => .int 60) (by omega) hD1 (fun j H' k' nn hj sm h => ⟨rfl, tYI h⟩) (fun H4 s4 eD1 => ?_)
  rw [const_range] at eD1
  refine ⟨l4, D1, _, _, rfl, rfl, s4 _ _ upd_same, eD1, le_line (by show 3 + (List.replicate (n + 6) (V.int 60)).length ≤ 1000; rw [List.length_replicate]; omega), fun q4 hq4 => ?_⟩
  have eq4 : upd H4 q4 (.lst ([V.int (n : Int), V.int 7, V.int 1200] ++ List.replicate (n + 6) (V.int 60))) q4 = some (.lst (([(n : Int), 7, 1200] ++ List.replicate (n + 6) 60).map V.int)) := by
    rw [upd_same, List.map_append, rep_map]; rfl
  have s34 := ((same_new hl4 (.lst [V.int (n : Int), V.int 7, V.int 1200])).trans s4).trans (same_new hq4 (.lst ([V.int (n : Int), V.int 7, V.int 1200] ++ List.replicate (n + 6) (V.int 60))))
  refine ⟨z, q4, [(n : Int), 7, 1200] ++ List.replicate (n + 6) 60, rfl, SqL.of eq4, by rw [List.length_append, List.length_replicate]; show 3 + (n + 6) ≤ 1000; omega, fun s hs => ?_, fun p5 ds5 H5 s5 hp5 ep5 hd5 => ?_⟩
  · rcases List.mem_append.mp hs with hs | hs
    · simp only [List.mem_cons, List.not_mem_nil, or_false] at hs
      rcases hs with rfl | rfl | rfl <;> omega
    · rw [List.eq_of_mem_replicate hs]; omega
  obtain ⟨e0, r0, rfl, g0, hd5⟩ := hd5.cons
  obtain ⟨e1, r1, rfl, g1, hd5⟩ := hd5.cons
  obtain ⟨e2, rest, rfl, g2, hd5⟩ := hd5.cons
  have lr : rest.length = n + 6 := (Dg.len hd5).trans List.length_replicate
  have s35 := s34.trans s5
  have at5 : ∀ {j : Nat} {z : Int}, (e0 :: e1 :: e2 :: rest)[j]? = some z → atI ((e0 :: e1 :: e2 :: rest).map V.int) (j : Int) = some (.int z) := fun e => atI_nat (at_map e)
  have rnn : ∀ x ∈ rest, 0 ≤ x := fun x hx => (Dg.all hd5 (m := 60) (fun s hs => by rw [List.eq_of_mem_replicate hs]; exact Int.le_refl _) x hx).1
  generalize hrow : (e0 :: e1 :: e2 :: rest) = row at ep5 at5 ⊢
  clear eq4 s4 s34 hd5 eD1
  refine ⟨_, rfl, p5, _, 0, .int e0, rfl, rfl, SqL.of ep5, at5 (j := 0) (by rw [← hrow]; rfl), le_line (n := 1) (by decide), fun so hso => ?_⟩
  have s6 := same_new hso (.lst [V.int e0])
  have s36 := s35.trans s6
  refine ⟨_, rfl, _, rfl, p5, _, 1, .int e1, rfl, rfl, SqL.of (s6 _ _ ep5), at5 (j := 1) (by rw [← hrow]; rfl), _, _, rfl, rfl, _, rfl, by omega, by omega, ?_⟩
  rw [show ((n : Int) + e1).toNat = n + e1.toNat by omega]
  refine for_range (n := n + e1.toNat) (fun i σ H' => Same H5 H' ∧ ∃ (pre : List Int) (z' : Int) (y5 y6 : Option V), H' so = some (.lst ((pre ++ [z']).map V.int)) ∧ Wk n rows (pre ++ [z']) ∧ pre.length = i ∧ σ = [some (.ref g), some (.int z), some (.int (n : Int)), some (.ref p5), some (.ref so), y5, y6, Option.none, Option.none, Option.none, Option.none])
    ⟨s6, [], e0, Option.none, Option.none, upd_same, wk_one g0, rfl, rfl⟩ ?_ ?_
  · rintro i σ H6 hi ⟨sm, pre, z', y5, y6, eo, wk, hp, rfl⟩
    have G6 := (G.same s35).same sm
    have bz := wk.1 z' (List.mem_append_right _ List.mem_cons_self)
    have erw : rows[z'.toNat]? = some (rows.getD z'.toNat []) := gd_at (by omega)
    have hasc := V0.r _ (List.mem_of_getElem? erw)
    rw [hn] at hasc
    obtain ⟨r, hr', er⟩ := pr_getR G6.r0 erw
    generalize htg : rows.getD z'.toNat [] = tg at *
    have hz2 : ((z'.toNat : Nat) : Int) = z' := by omega
    refine ⟨_, rfl, g, _, 2, .ref sx, rfl, rfl, SqL.of G6.g0, rfl, _, rfl, 1, rfl, so, _, _, _, rfl, rfl, SqL.of eo, (by rw [List.map_append]; exact atI_last), sx, _, _, .ref r, rfl, rfl, SqL.of G6.s0, (by rw [← hz2]; exact atI_nat (at_map hr')), ?_⟩
    obtain ⟨x0, hx0⟩ : ∃ x, (e0 :: e1 :: e2 :: rest)[3 + i]? = some x ∧ 0 ≤ x := by
      have hir : i < rest.length := by omega
      refine ⟨rest.getD i 0, ?_, rnn _ (List.mem_of_getElem? (gd_at hir))⟩
      rw [show 3 + i = i + 3 by omega]
      exact gd_at (l := rest) hir
    rw [hrow] at hx0
    have tl : 0 < tg.length := List.length_pos_iff.mpr hasc.2.2.1
    have m0 := Int.emod_nonneg x0 (show ((tg.length : Nat) : Int) ≠ 0 by omega)
    have m1 := Int.emod_lt_of_pos x0 (show (0 : Int) < ((tg.length : Nat) : Int) by omega)
    obtain ⟨t, et, tm⟩ := at_int (xs := tg) m0 m1
    refine ⟨_, rfl, .inl ⟨rfl, _, SqL.of eo⟩, _, rfl, _, rfl, _, rfl, _, _, rfl, rfl, p5, _, _, .int x0, rfl, rfl, SqL.of (sm _ _ ep5), (by rw [show (3 : Int) + (0 + (i : Int)) = ((3 + i : Nat) : Int) by omega]; exact at5 hx0.1), .inl ⟨_, rfl, _, rfl, r, _, rfl, .inl (SqL.of er), _, _, rfl, rfl, ?_, r, _, _, _, rfl, rfl, SqL.of er, (by rw [List.length_map]; exact et), so, _, _, rfl, rfl, eo, ?_, ?_⟩⟩
    · rw [List.length_map]; show (0 : Int) < _; omega
    · rw [List.length_map, List.length_append, List.length_singleton]; exact lt_line (by omega)
    · refine ⟨same_upd sm hso _, pre ++ [z'], t, _, _, ?_, wk_snoc wk (hasc.2.1 t tm) (by rw [htg]; exact tm), by rw [List.length_append, hp]; rfl, rfl⟩
      rw [upd_same, List.map_append (l₁ := pre ++ [z'])]; rfl
  · rintro σ H6 ⟨sm, pre, z', y5, y6, eo, wk, hp, rfl⟩
    have lst : (pre ++ [z']).length = n + e1.toNat + 1 := by rw [List.length_append, hp]; rfl
    have l50 : (pre ++ [z']).length ≤ 50 := by omega
    have hnl : n < (pre ++ [z']).length := by omega
    have s06 := s35.trans sm
    have ep6 := sm _ _ ep5
    generalize pre ++ [z'] = st at eo wk lst l50 hnl
    clear hp
    refine ⟨Nat.zero_le _, fun cu hcu => ?_⟩
    have s7 := same_new hcu (.lst [])
    have eo7 := s7 _ _ eo
    have ncs : so ≠ cu := ne_of_none eo hcu
    refine ⟨_, rfl, so, _, rfl, .inl (SqL.of eo7), _, rfl, by rw [List.length_map]; omega, by rw [List.length_map]; omega, ?_⟩
    rw [List.length_map, Int.toNat_natCast]
    refine for_range (n := st.length) (fun i σ H' => Same H6 H' ∧ ∃ (cs : List Addr) (y8 y9 : Option V), H' cu = some (.lst (cs.map V.ref)) ∧ cs.length ≤ i * 50 ∧ (∀ c ∈ cs, ∃ a b : Nat, c ≠ cu ∧ H' c = some (.lst [.int (a : Int), .int (b : Int)]) ∧ a < b ∧ b < st.length ∧ st.getD a 0 = st.getD b 0) ∧
        (∀ a b, a < i → a < b → b < st.length → st.getD a 0 = st.getD b 0 → cs ≠ []) ∧ σ = [some (.ref g), some (.int z), some (.int (n : Int)), some (.ref p5), some (.ref so), y5, y6, some (.ref cu), y8, y9, Option.none])
      ⟨s7, [], Option.none, Option.none, upd_same, Nat.zero_le _, (fun c hc => nomatch hc), (fun a b h => absurd h (Nat.not_lt_zero _)), rfl⟩ ?_ ?_
    · rintro i σ H7 hi ⟨sm7, cs, y8, y9, ec, lc, inv, all, rfl⟩
      refine ⟨_, rfl, _, _, rfl, rfl, _, rfl, so, _, rfl, .inl (SqL.of (sm7 _ _ eo)), _, _, rfl, ?_, ?_⟩
      · rw [List.length_map]; omega
      rw [List.length_map, show (((st.length : Nat) : Int) - (0 + (i : Int) + 1)).toNat = st.length - (i + 1) by omega]
      refine for_range (lo := 0 + (i : Int) + 1) (n := st.length - (i + 1)) (fun j σ H' => Same H6 H' ∧ ∃ (cs : List Addr) (y9 : Option V), H' cu = some (.lst (cs.map V.ref)) ∧ cs.length ≤ i * 50 + j ∧ (∀ c ∈ cs, ∃ a b : Nat, c ≠ cu ∧ H' c = some (.lst [.int (a : Int), .int (b : Int)]) ∧ a < b ∧ b < st.length ∧ st.getD a 0 = st.getD b 0) ∧
        (∀ a b, a < i ∨ (a = i ∧ b < i + 1 + j) → a < b → b < st.length → st.getD a 0 = st.getD b 0 → cs ≠ []) ∧ σ = [some (.ref g), some (.int z), some (.int (n : Int)), some (.ref p5), some (.ref so), y5, y6, some (.ref cu), some (.int (0 + (i : Int))), y9, Option.none])
        ⟨sm7, cs, y9, ec, lc, inv, (fun a b h hab => by
          rcases h with h | ⟨h, h2⟩
          · exact all a b h hab
          · omega), rfl⟩ ?_ ?_
      · rintro j σ H8 hj ⟨sm8, cs, y9, ec, lc, inv, all, rfl⟩
        have hb : i + 1 + j < st.length := by omega
        have ei : ((0 : Int) + (i : Int)) = ((i : Nat) : Int) := by omega
        have ej : ((i : Int) + 1 + (j : Int)) = ((i + 1 + j : Nat) : Int) := by omega
        rw [ei, ej]
        have eo8 := sm8 _ _ eo
        refine ⟨_, rfl, _, rfl, so, _, _, _, rfl, rfl, SqL.of eo8, atI_nat (at_map (gd_at (d := 0) (show i < st.length by omega))), _, rfl, _, rfl, so, _, _, _, rfl, rfl, SqL.of eo8, atI_nat (at_map (gd_at (d := 0) hb)), rfl, _, rfl, ite2 (fun c => ?_) (fun c => ?_)⟩
        · rw [dInt] at c
          have c := of_decide_eq_true c
          refine ⟨_, rfl, .inl ⟨rfl, _, SqL.of ec⟩, _, rfl, _, rfl, le_line (n := 2) (by decide), fun k hk => ?_⟩
          have s9 := same_new hk (.lst [V.int ((i : Nat) : Int), V.int ((i + 1 + j : Nat) : Int)])
          have nk : k ≠ cu := fun z => by rw [z, ec] at hk; cases hk
          refine ⟨cu, _, _, rfl, rfl, s9 _ _ ec, ?_, ?_⟩
          · rw [List.length_map]
            have := sizeLine_eq
            have : i * 50 ≤ 50 * 50 := Nat.mul_le_mul_right _ (by omega)
            omega
          refine ⟨same_upd (sm8.trans s9) hcu _, cs ++ [k], _, ?_, ?_, ?_, ?_, rfl⟩
          · rw [upd_same, List.map_append]; rfl
          · rw [List.length_append, List.length_singleton]; omega
          · intro c0 hc0
            rcases List.mem_append.mp hc0 with hc0 | hc0
            · obtain ⟨a, b, h1, h2, h3⟩ := inv c0 hc0
              exact ⟨a, b, h1, by rw [upd_ne h1]; exact s9 _ _ h2, h3⟩
            · rw [List.mem_singleton.mp hc0]
              exact ⟨i, i + 1 + j, nk, by rw [upd_ne nk]; exact upd_same, by omega, hb, c⟩
          · intro a b _ _ _ _ z
            exact absurd z (by simp)
        · rw [dInt] at c
          have c : ¬ st.getD i 0 = st.getD (i + 1 + j) 0 := fun z => c (decide_eq_true z)
          refine ⟨sm8, cs, _, ec, by omega, inv, fun a b h hab hb2 e => ?_, rfl⟩
          rcases h with h | ⟨h, h2⟩
          · exact all a b (.inl h) hab hb2 e
          · by_cases c2 : b < i + 1 + j
            · exact all a b (.inr ⟨h, c2⟩) hab hb2 e
            · have : b = i + 1 + j := by omega
              subst this
              subst h
              exact absurd e c
      · rintro σ H8 ⟨sm8, cs, y9, ec, lc, inv, all, rfl⟩
        refine ⟨sm8, cs, _, _, ec, by rw [Nat.succ_mul]; omega, inv, fun a b h hab hb2 e => ?_, rfl⟩
        refine all a b ?_ hab hb2 e
        by_cases c : a < i
        · exact .inl c
        · exact .inr ⟨by omega, by omega⟩
    · rintro σ H7 ⟨sm7, cs, y8, y9, ec, lc, inv, all, rfl⟩
      obtain ⟨ma, mb, m1, m2, m3⟩ := wk_meet wk.1 hnl
      have hne := all ma mb (by omega) m1 m2 m3
      have cl : 0 < cs.length := List.length_pos_iff.mpr hne
      have n0 := Int.emod_nonneg e2 (show ((cs.length : Nat) : Int) ≠ 0 by omega)
      have n1 := Int.emod_lt_of_pos e2 (show (0 : Int) < ((cs.length : Nat) : Int) by omega)
      obtain ⟨ci, hci⟩ : ∃ ci : Nat, e2 % ((cs.length : Nat) : Int) = (ci : Int) := ⟨(e2 % ((cs.length : Nat) : Int)).toNat, by omega⟩
      have hcil : ci < cs.length := by omega
      have ecc : cs[ci]? = some cs[ci] := List.getElem?_eq_getElem hcil
      obtain ⟨ca, cb, _, ek, hab, hbl, eab⟩ := inv _ (List.mem_of_getElem? ecc)
      have eo7 := sm7 _ _ eo
      refine ⟨_, rfl, _, rfl, p5, _, 2, .int e2, rfl, rfl, SqL.of (sm7 _ _ ep6), at5 (j := 2) (by rw [← hrow]; rfl), .inl ⟨_, rfl, _, rfl, cu, _, rfl, .inl (SqL.of ec), _, _, rfl, rfl, ?_, cu, _, _, _, rfl, rfl, SqL.of ec, (by rw [List.length_map, hci]; exact atI_nat (at_map ecc)), ?_⟩⟩
      · rw [List.length_map]; show (0 : Int) < _; omega
      refine ⟨_, rfl, _, rfl, _, _, 0, .int (ca : Int), rfl, rfl, SqL.of ek, rfl, _, rfl, so, _, rfl, SqL.of eo7, fun k1 hk1 => ?_⟩
      rw [cut_hi]
      have t1 := same_new hk1 (.lst ((st.map V.int).take ca))
      have ek2 := t1 _ _ ek
      have eo8 := t1 _ _ eo7
      refine ⟨_, rfl, _, rfl, _, _, 0, .int (ca : Int), rfl, rfl, SqL.of ek2, rfl, _, rfl, _, rfl, _, _, 1, .int (cb : Int), rfl, rfl, SqL.of ek2, rfl, _, rfl, so, _, rfl, SqL.of eo8, fun k2 hk2 => ?_⟩
      rw [show ((cb : Nat) : Int) = ((ca + (cb - ca) : Nat) : Int) by omega, cut_mid _ _ _ (by rw [List.length_map]; omega)]
      have t2 := same_new hk2 (.lst (((st.map V.int).drop ca).take (cb - ca)))
      refine ⟨le_line (n := 2) (by decide), fun k3 hk3 => ?_⟩
      have t3 := same_new hk3 (.lst [V.ref k1, V.ref k2])
      refine q _ k3 k1 k2 (st.take ca) ((st.drop ca).take (cb - ca)) (((((s06.trans sm7).trans t1).trans t2).trans t3)) upd_same ?_ ?_ (wk_cut wk hab hbl eab) ?_ ?_
      · rw [List.map_take]; exact t3 _ _ (t2 _ _ upd_same)
      · rw [List.map_take, List.map_drop]; exact t3 _ _ upd_same
      · rw [List.length_take, List.length_take, List.length_drop]; omega
      · intro x hx
        rcases List.mem_append.mp hx with hx | hx
        · exact wk.1 x (List.mem_of_mem_take hx)
        · exact wk.1 x (List.mem_of_mem_drop (List.mem_of_mem_take hx))
end
end GM
set_option Elab.async false
set_option linter.all false
set_option maxRecDepth 100000
set_option maxHeartbeats 4000000
set_option pp.maxSteps 150
set_option pp.deepTerms false
namespace GM
open PySem PySem.Spec PyProof.Rows L2
/-! ### many steps -/
section
variable {K : PySem.W.Frag} {g : TG} {tt : TT} {te : TE} {vs : List Nat} {σ : L2.St} {H1 : Hp} {D : Addr} {Qd : Hp → Prop}
theorem lc_filterF {lo n : Nat} (p : Nat → Bool) (hlen : n ≤ 1000) (hD : H1 D = none)
    (hs : ∀ (i : Nat) H (k : V → Hp → Prop) (nn : Hp → Prop), i < n → Same H1 H → (p i = true → ∀ H', Same H H' → k (.int ((lo + i : Nat) : Int)) H') → (p i = false → ∀ H', Same H H' → nn H') → g (.int ((lo : Int) + i)) (wipe σ vs) H fun σ2 H2 => wipe σ2 vs = wipe σ vs ∧ tt σ2 H2 fun b H3 => if b = true then te σ2 H3 k else nn H3)
    (hd : ∀ H', Same H1 H' → H' D = some (.lst ((((List.range n).filter p).map fun i : Nat => ((lo + i : Nat) : Int)).map V.int)) → Qd H') :
    ∃ W : Nat → Nat → Hp → Prop, (∃ m, W 0 m (upd H1 D (.lst []))) ∧ ∀ i m H, W i m H →
      ((Itr (lo : Int) n).stop i H ∧ Qd H) ∨ ((Itr (lo : Int) n).go i H ∧ ∃ Nx : Hp → Prop, (∀ H', Nx H' → ∃ m', m' < m ∧ W (i + 1) m' H') ∧ ∀ x H', (Itr (lo : Int) n).yld i H x H' → g x (wipe σ vs) H' fun σ2 H2 => wipe σ2 vs = wipe σ vs ∧ tt σ2 H2 fun b H3 =>
        if b = true then te σ2 H3 fun y H4 => ∃ acc, H4 D = some (.lst acc) ∧ acc.length < sizeLine ∧ Nx (upd H4 D (.lst (acc ++ [y]))) else Nx H3) := by
  refine lc_range (lo := (lo : Int)) (n := n) (fun i H => i ≤ n ∧ Same H1 H ∧ H D = some (.lst ((((List.range i).filter p).map fun i : Nat => ((lo + i : Nat) : Int)).map V.int))) ⟨Nat.zero_le _, same_new hD _, upd_same⟩ ?_ ?_
  · rintro i H hi ⟨_, sm, eD⟩
    have st : (List.range (i + 1)).filter p = (List.range i).filter p ++ (if p i = true then [i] else []) := by
      rw [List.range_succ, List.filter_append]
      congr 1
      by_cases c : p i = true
      · rw [if_pos c, List.filter_cons_of_pos c]; rfl
      · rw [if_neg c, List.filter_cons_of_neg c]; rfl
    have hl : ((((List.range i).filter p).map fun i : Nat => ((lo + i : Nat) : Int)).map V.int).length < sizeLine := by
      rw [List.length_map, List.length_map]
      refine lt_line (Nat.le_trans (List.length_filter_le _ _) ?_)
      rw [List.length_range]; omega
    refine hs i H _ (fun H3 => i + 1 ≤ n ∧ Same H1 H3 ∧ H3 D = some (.lst ((((List.range (i + 1)).filter p).map fun i : Nat => ((lo + i : Nat) : Int)).map V.int))) hi sm (fun c H' s' => ⟨_, s' _ _ eD, hl, hi, same_upd (sm.trans s') hD _, ?_⟩) (fun c H' s' => ⟨hi, sm.trans s', ?_⟩)
    · rw [upd_same, st, if_pos c, List.map_append, List.map_append]; rfl
    · rw [st, c, if_neg Bool.false_ne_true, List.append_nil]; exact s' _ _ eD
  · rintro H ⟨_, sm, eD⟩
    exact hd H sm eD
end
theorem last_of {α : Type} {l : List α} (h : l ≠ []) : ∃ i x, l = i ++ [x] := ⟨l.dropLast, l.getLast h, (List.dropLast_concat_getLast h).symm⟩
def spLong : Sp := fun vs H Q _ => ∃ (g : Addr) (z : Int) (m : Nat) (kd : Int) (os ps : List Int) (rows : List (List Int)) (o p sx : Addr) (rs : List Addr), vs = [.ref g, .int z, .int (m : Int), .int kd] ∧ GraphAt H g os ps rows o p sx rs ∧ Valid os ps rows ∧ 1 ≤ os.length ∧ os.length ≤ 40 ∧ 100 ≤ m ∧ m ≤ 400 ∧ 0 ≤ kd ∧ kd < 3 ∧
  ∀ H' r la ra lead ring, Same H H' → H' r = some (.lst [.ref la, .ref ra]) → H' la = some (.lst (lead.map V.int)) → H' ra = some (.lst (ring.map V.int)) → faultO os.length rows lead ring = none → lead.length + ring.length ≤ 400 → (∀ x ∈ lead ++ ring, 0 ≤ x ∧ x < (os.length : Int)) → Q (.ref r) H'
section
variable {P : Program} {w : World} {K : PySem.W.Frag} {mg : Str → Option Value} {base : Heap} (M : Blt mg)
include M
theorem ok_long {f : Addr} {fd : FuncData} (F : Fun K "_law_long_play" "_law_long_play" s__law_long_play f fd) (G_law_digits : Kn P w K mg base 1 "_law_digits" ["cell", "sizes"] (spDigits K)) : FnOk P w K mg base CX0 2 f fd ["game", "cell", "many", "kind"] spLong := by
  refine F.ok sc__law_long_play (fun vs H Q E h => ?_) (fun cdv A outer s H vs Q E hr h => ?_)
  · obtain ⟨g, z, m, kd, os, ps, rows, o, p, sx, rs, rfl, _⟩ := h
    rfl
  obtain ⟨g, z, m, kd, os, ps, rows, o, p, sx, rs, rfl, G, V0, hn1, h40, hm1, hm2, hk1, hk2, q⟩ := h
  have nd := sc__law_long_play.nd
  refine ⟨_, pss_cons (ps_set (i := 4) nd rfl (.inl rfl) (pe_call G_law_digits.ok (hr.mono (by decide)) (by rfl) G_law_digits.m G_law_digits.kp G_law_digits.b .nil pass0 (pa_cons (pv 1) (pa_cons (pe_op op_cat (pe_lst (pa_cons (pe_callB call_len_seq (by rfl) M.len PySem.boot_len (pa_cons (pe_ix ix_list (pv 0) pe_int (fun _ _ => rfl)) pa_nil)) (pa_cons pe_int pa_nil))) (pe_lc (own := [("k", 6)]) (g := gName 6) (tt := tYes) rfl nd (pi_range1 rfl M.range (pa_cons (pv 2) pa_nil)) (blkOk_by (N := n__law_long_play) (sc := defScope s__law_long_play) (by decide +kernel)) (fun _ _ _ _ _ => pg_name (i := 6) nd rfl (Or.inl rfl)) (fun _ _ _ _ _ => pts_nil) (fun _ _ _ _ _ => pe_int))) pa_nil))))
    (pss_cons (ps_set (i := 5) nd rfl (.inr rfl) (pe_lst (pa_cons (pe_ix ix_list (pv 4) pe_int (fun _ _ => rfl)) pa_nil)))
    (pss_cons (ps_for PassesOwn.never rfl (pi_range1 rfl M.range (pa_cons (pv 2) pa_nil)) (pg_name (i := 6) nd rfl (.inl rfl)) (pss_cons (ps_set (i := 7) nd rfl (.inl rfl) (pe_ix ix_list (pe_ix ix_list (pv 0) pe_int (fun _ _ => rfl)) (pe_ix ix_list (pv 5) (pe_un un_neg pe_int) (fun _ _ => rfl)) (fun _ _ => rfl)))
      (pss_one (ps_expr (pe_bm PySem.F.plainAttrs_list PySem.F.slot_list_append PySem.F.type_list_append mt_append (pv 5) (pa_cons (pe_ix ix_list (pv 7) (pe_op op_mod (pe_callTy call_int1 (by rfl) M.int PyProof.Rows.boot_int (pa_cons (pe_ix ix_list (pv 4) (pe_op op_add pe_int (pv 6)) (fun _ _ => rfl)) pa_nil)) (pe_callB call_len_seq (by rfl) M.len PySem.boot_len (pa_cons (pv 7) pa_nil))) (fun _ _ => rfl)) pa_nil))))))
    (pss_cons (ps_setLc (i := 8) (own := [("j", 12)]) (g := gName 12) (tt := _) rfl nd rfl rfl (sw_true rfl rfl rfl (by decide +kernel)) (pi_range2 rfl M.range (pa_cons pe_int (pa_cons (pe_op op_add (pv 2) pe_int) pa_nil))) (blkOk_by (N := n__law_long_play) (sc := defScope s__law_long_play) (by decide +kernel)) (fun _ _ _ _ _ => pg_name (i := 12) nd rfl (Or.inl rfl)) (fun _ _ _ _ _ => pts_one (pt_cmpR (show OpR _ _ (rIn K false) from op_in_seq) (pe_ix (show IxR _ (rIxL K) from ix_list) (pv 5) (pv 12) (fun _ _ => rfl)) (pe_slice (show SlR _ (rSlL K) from sl_list) (pv 5) po_none (po_some (pv 12))) rfl)) (fun _ _ _ _ _ => (pv 12)))
    (pss_cons (ps_set (i := 9) nd rfl (.inr rfl) (pe_ix ix_list (pv 8) (pe_un un_neg pe_int) (fun _ _ => rfl)))
    (pss_cons (ps_setLc (i := 10) (own := [("i", 13)]) (g := gName 13) (tt := _) rfl nd rfl rfl (sw_true rfl rfl rfl (by decide +kernel)) (pi_range1 rfl M.range (pa_cons (pv 9) pa_nil)) (blkOk_by (N := n__law_long_play) (sc := defScope s__law_long_play) (by decide +kernel)) (fun _ _ _ _ _ => pg_name (i := 13) nd rfl (Or.inl rfl)) (fun _ _ _ _ _ => pts_one (pt_cmpR op_eq (pe_ix (show IxR _ (rIxL K) from ix_list) (pv 5) (pv 13) (fun _ _ => rfl)) (pe_ix (show IxR _ (rIxL K) from ix_list) (pv 5) (pv 9) (fun _ _ => rfl)) (nomark _))) (fun _ _ _ _ _ => (pv 13)))
    (pss_cons (ps_set (i := 11) nd rfl (.inl rfl) (pe_ix ix_list (pe_lst (pa_cons (pe_ix ix_list (pv 10) pe_int (fun _ _ => rfl)) (pa_cons (pe_ix ix_list (pv 10) (pe_un un_neg pe_int) (fun _ _ => rfl)) (pa_cons (pe_ix ix_list (pv 10) (pe_op op_mod (pe_callTy call_int1 (by rfl) M.int PyProof.Rows.boot_int (pa_cons (pe_ix ix_list (pv 4) pe_int (fun _ _ => rfl)) pa_nil)) (pe_callB call_len_seq (by rfl) M.len PySem.boot_len (pa_cons (pv 10) pa_nil))) (fun _ _ => rfl)) pa_nil)))) (pv 3) (fun _ _ => rfl)))
    (pss_one (ps_ret (pe_lst (pa_cons (pe_slice sl_list (pv 5) po_none (po_some (pv 11))) (pa_cons (pe_slice sl_list (pv 5) (po_some (pv 11)) (po_some (pv 9))) pa_nil))))))))))), ?_⟩
  have hrl : rows.length = os.length := V0.l2
  refine ⟨_, rfl, _, rfl, g, _, 0, .ref o, rfl, rfl, SqL.of G.g0, rfl, o, _, rfl, .inl (SqL.of G.o0), le_line (n := 2) (by decide), fun l4 hl4 => ?_⟩
  rw [List.length_map]
  generalize hn : os.length = n at *
  refine ⟨_, rfl, _, rfl, by omega, by omega, fun D1 hD1 => ?_⟩
  rw [show ((m : Int)).toNat = m by omega]
  refine lc_mapR (n := m) (fun _ => .int 60) (by omega) hD1 (fun j H' k' nn hj sm h => ⟨rfl, tYI h⟩) (fun H4 s4 eD1 => ?_)
  rw [const_range] at eD1
  refine ⟨l4, D1, _, _, rfl, rfl, s4 _ _ upd_same, eD1, le_line (by show 2 + (List.replicate m (V.int 60)).length ≤ 1000; rw [List.length_replicate]; omega), fun q4 hq4 => ?_⟩
  have eq4 : upd H4 q4 (.lst ([V.int (n : Int), V.int 400] ++ List.replicate m (V.int 60))) q4 = some (.lst (([(n : Int), 400] ++ List.replicate m 60).map V.int)) := by
    rw [upd_same, List.map_append, rep_map]; rfl
  have s34 := ((same_new hl4 (.lst [V.int (n : Int), V.int 400])).trans s4).trans (same_new hq4 (.lst ([V.int (n : Int), V.int 400] ++ List.replicate m (V.int 60))))
  refine ⟨z, q4, [(n : Int), 400] ++ List.replicate m 60, rfl, SqL.of eq4, by rw [List.length_append, List.length_replicate]; show 2 + m ≤ 1000; omega, fun s hs => ?_, fun p5 ds5 H5 s5 hp5 ep5 hd5 => ?_⟩
  · rcases List.mem_append.mp hs with hs | hs
    · simp only [List.mem_cons, List.not_mem_nil, or_false] at hs
      rcases hs with rfl | rfl <;> omega
    · rw [List.eq_of_mem_replicate hs]; omega
  obtain ⟨e0, r0, rfl, g0, hd5⟩ := hd5.cons
  obtain ⟨e1, rest, rfl, g1, hd5⟩ := hd5.cons
  have lr : rest.length = m := (Dg.len hd5).trans List.length_replicate
  have s35 := s34.trans s5
  have at5 : ∀ {j : Nat} {z : Int}, (e0 :: e1 :: rest)[j]? = some z → atI ((e0 :: e1 :: rest).map V.int) (j : Int) = some (.int z) := fun e => atI_nat (at_map e)
  have rnn : ∀ x ∈ rest, 0 ≤ x := fun x hx => (Dg.all hd5 (m := 60) (fun s hs => by rw [List.eq_of_mem_replicate hs]; exact Int.le_refl _) x hx).1
  generalize hrow : (e0 :: e1 :: rest) = row at ep5 at5 ⊢
  clear eq4 s4 s34 hd5 eD1
  refine ⟨_, rfl, p5, _, 0, .int e0, rfl, rfl, SqL.of ep5, at5 (j := 0) (by rw [← hrow]; rfl), le_line (n := 1) (by decide), fun so hso => ?_⟩
  have s6 := same_new hso (.lst [V.int e0])
  have s36 := s35.trans s6
  refine ⟨_, rfl, _, rfl, by omega, by omega, ?_⟩
  rw [show ((m : Int)).toNat = m by omega]
  refine for_range (n := m) (fun i σ H' => Same H5 H' ∧ ∃ (pre : List Int) (z' : Int) (y5 y6 : Option V), H' so = some (.lst ((pre ++ [z']).map V.int)) ∧ Wk n rows (pre ++ [z']) ∧ pre.length = i ∧ σ = [some (.ref g), some (.int z), some (.int (m : Int)), some (.int kd), some (.ref p5), some (.ref so), y5, y6, Option.none, Option.none, Option.none, Option.none, Option.none, Option.none])
    ⟨s6, [], e0, Option.none, Option.none, upd_same, wk_one g0, rfl, rfl⟩ ?_ ?_
  · rintro i σ H6 hi ⟨sm, pre, z', y5, y6, eo, wk, hp, rfl⟩
    have G6 := (G.same s35).same sm
    have bz := wk.1 z' (List.mem_append_right _ List.mem_cons_self)
    have erw : rows[z'.toNat]? = some (rows.getD z'.toNat []) := gd_at (by omega)
    have hasc := V0.r _ (List.mem_of_getElem? erw)
    rw [hn] at hasc
    obtain ⟨r, hr', er⟩ := pr_getR G6.r0 erw
    generalize htg : rows.getD z'.toNat [] = tg at *
    have hz2 : ((z'.toNat : Nat) : Int) = z' := by omega
    refine ⟨_, rfl, g, _, 2, .ref sx, rfl, rfl, SqL.of G6.g0, rfl, _, rfl, 1, rfl, so, _, _, _, rfl, rfl, SqL.of eo, (by rw [List.map_append]; exact atI_last), sx, _, _, .ref r, rfl, rfl, SqL.of G6.s0, (by rw [← hz2]; exact atI_nat (at_map hr')), ?_⟩
    obtain ⟨x0, hx0⟩ : ∃ x, (e0 :: e1 :: rest)[2 + i]? = some x ∧ 0 ≤ x := by
      have hir : i < rest.length := by omega
      refine ⟨rest.getD i 0, ?_, rnn _ (List.mem_of_getElem? (gd_at hir))⟩
      rw [show 2 + i = i + 2 by omega]
      exact gd_at (l := rest) hir
    rw [hrow] at hx0
    have tl : 0 < tg.length := List.length_pos_iff.mpr hasc.2.2.1
    have m0 := Int.emod_nonneg x0 (show ((tg.length : Nat) : Int) ≠ 0 by omega)
    have m1 := Int.emod_lt_of_pos x0 (show (0 : Int) < ((tg.length : Nat) : Int) by omega)
    obtain ⟨t, et, tm⟩ := at_int (xs := tg) m0 m1
    refine ⟨_, rfl, .inl ⟨rfl, _, SqL.of eo⟩, _, rfl, _, rfl, _, rfl, _, _, rfl, rfl, p5, _, _, .int x0, rfl, rfl, SqL.of (sm _ _ ep5), (by rw [show (2 : Int) + (0 + (i : Int)) = ((2 + i : Nat) : Int) by omega]; exact at5 hx0.1), .inl ⟨_, rfl, _, rfl, r, _, rfl, .inl (SqL.of er), _, _, rfl, rfl, ?_, r, _, _, _, rfl, rfl, SqL.of er, (by rw [List.length_map]; exact et), so, _, _, rfl, rfl, eo, ?_, ?_⟩⟩
    · rw [List.length_map]; show (0 : Int) < _; omega
    · rw [List.length_map, List.length_append, List.length_singleton]; exact lt_line (by omega)
    · refine ⟨same_upd sm hso _, pre ++ [z'], t, _, _, ?_, wk_snoc wk (hasc.2.1 t tm) (by rw [htg]; exact tm), by rw [List.length_append, hp]; rfl, rfl⟩
      rw [upd_same, List.map_append (l₁ := pre ++ [z'])]; rfl
  · rintro σ H6 ⟨sm, pre, z', y5, y6, eo, wk, hp, rfl⟩
    have lst : (pre ++ [z']).length = m + 1 := by rw [List.length_append, hp]; rfl
    have hnl : n < (pre ++ [z']).length := by omega
    have s06 := s35.trans sm
    have ep6 := sm _ _ ep5
    generalize pre ++ [z'] = st at eo wk lst hnl
    clear hp
    -- cuts
    refine ⟨_, rfl, _, _, rfl, rfl, 1, _, rfl, ⟨by decide, by decide, by omega, by omega⟩, fun D2 hD2 => ?_⟩
    rw [show ((m : Int) + 1 - 1).toNat = m by omega]
    refine lc_filterF (lo := 1) (n := m) (fun u => decide (st.getD (1 + u) 0 ∈ st.take (1 + u))) (by omega) hD2 (fun u H' k' nn hu sm' hk hno => ⟨rfl, ?_⟩) (fun H7 s7 eD2 => ?_)
    · have eo' := sm' _ _ eo
      refine ⟨_, rfl, _, rfl, so, _, _, _, rfl, rfl, SqL.of eo', (by rw [show (((1 : Nat) : Int) + (u : Int)) = ((1 + u : Nat) : Int) by omega]; exact atI_nat (at_map (gd_at (d := 0) (show 1 + u < st.length by omega)))), _, rfl, ?_⟩
      unfold tNoPart
      refine ⟨_, rfl, _, rfl, so, _, rfl, SqL.of eo', fun k1 hk1 => ?_⟩
      rw [show (((1 : Nat) : Int) + (u : Int)) = ((1 + u : Nat) : Int) by omega, cut_hi, ← List.map_take]
      refine ⟨k1, _, rfl, .inl (SqL.of upd_same), rfl, flat_int _, _, rfl, ?_⟩
      rw [inV_int]
      by_cases c : st.getD (1 + u) 0 ∈ st.take (1 + u)
      · rw [decide_eq_true c]
        exact iteT ⟨_, rfl, hk (decide_eq_true c) _ (same_new hk1 _)⟩
      · rw [decide_eq_false c]
        exact iteF (hno (decide_eq_false c) _ (same_new hk1 _))
    obtain ⟨ma, mb, m1, m2, m3⟩ := wk_meet wk.1 hnl
    have hin : ∀ {a b : Nat}, a < b → a < st.length → st.getD a 0 = st.getD b 0 → st.getD b 0 ∈ st.take b := fun {a b} h1 h2 h3 => by
      rw [← h3]
      refine List.mem_of_getElem? (i := a) ?_
      rw [List.getElem?_take_of_lt h1]; exact gd_at h2
    have hcne : (((List.range m).filter fun u => decide (st.getD (1 + u) 0 ∈ st.take (1 + u))).map fun i : Nat => ((1 + i : Nat) : Int)) ≠ [] := fun z => by
      have : mb - 1 ∈ (List.range m).filter fun u => decide (st.getD (1 + u) 0 ∈ st.take (1 + u)) := by
        refine List.mem_filter.mpr ⟨List.mem_range.mpr (by omega), ?_⟩
        rw [show 1 + (mb - 1) = mb by omega]
        exact decide_eq_true (hin m1 (by omega) m3)
      rw [List.map_eq_nil_iff.mp z] at this
      exact nomatch this
    obtain ⟨ci, cx, hcl⟩ := last_of hcne
    have hcm : cx ∈ (((List.range m).filter fun u => decide (st.getD (1 + u) 0 ∈ st.take (1 + u))).map fun i : Nat => ((1 + i : Nat) : Int)) := by rw [hcl]; exact List.mem_append_right _ List.mem_cons_self
    obtain ⟨u, hu, ecx⟩ := List.mem_map.mp hcm
    obtain ⟨hu1, hu2⟩ := List.mem_filter.mp hu
    have hu1 := List.mem_range.mp hu1
    have hu2 := of_decide_eq_true hu2
    obtain ⟨c, hc⟩ : ∃ c, c = 1 + u := ⟨_, rfl⟩
    rw [← hc] at ecx hu2
    have hcb : c < st.length := by omega
    rw [hcl] at eD2
    subst ecx
    refine ⟨_, rfl, 1, rfl, D2, _, _, _, rfl, rfl, SqL.of eD2, (by rw [List.map_append]; exact atI_last), ?_⟩
    have eo7 := s7 _ _ eo
    have s67 := s7
    refine ⟨_, rfl, _, rfl, by omega, by omega, fun D3 hD3 => ?_⟩
    rw [Int.toNat_natCast]
    refine lc_filterR (n := c) (fun u => decide (st.getD u 0 = st.getD c 0)) (by omega) hD3 (fun u H' k' nn hu sm' hk hno => ⟨rfl, ?_⟩) (fun H8 s8 eD3 => ?_)
    · have eo' := sm' _ _ eo7
      refine ⟨_, rfl, _, rfl, so, _, _, _, rfl, rfl, SqL.of eo', (by rw [show ((0 : Int) + (u : Int)) = ((u : Nat) : Int) by omega]; exact atI_nat (at_map (gd_at (d := 0) (show u < st.length by omega)))), _, rfl, _, rfl, so, _, _, _, rfl, rfl, SqL.of eo', atI_nat (at_map (gd_at (d := 0) hcb)), rfl, _, rfl, ite2 (fun c1 => ?_) (fun c1 => ?_)⟩
      · rw [dInt] at c1
        exact ⟨_, rfl, hk c1 _ (.refl _)⟩
      · rw [dInt] at c1
        exact hno (Bool.eq_false_iff.mpr c1) _ (.refl _)
    have eu8 : ∀ {b o}, H6 b = some o → H8 b = some o := fun e => s8 _ _ (s7 _ _ e)
    obtain ⟨ma2, hma2, ema2⟩ : ∃ a, a < c ∧ st.getD a 0 = st.getD c 0 := by
      obtain ⟨a, ha⟩ := List.getElem?_of_mem hu2
      have hac : a < c := by
        have := lt_of_at ha
        rw [List.length_take] at this
        omega
      rw [List.getElem?_take_of_lt hac] at ha
      exact ⟨a, hac, by rw [List.getD_eq_getElem?_getD, ha]; rfl⟩
    obtain ⟨pl, hpl⟩ : ∃ pl, pl = (((List.range c).filter fun u => decide (st.getD u 0 = st.getD c 0)).map fun i : Nat => (i : Int)) := ⟨_, rfl⟩
    have plm : ∀ x ∈ pl, ∃ a : Nat, x = (a : Int) ∧ a < c ∧ st.getD a 0 = st.getD c 0 := fun x hx => by
      rw [hpl] at hx
      obtain ⟨a, ha, rfl⟩ := List.mem_map.mp hx
      obtain ⟨h1, h2⟩ := List.mem_filter.mp ha
      exact ⟨a, rfl, List.mem_range.mp h1, of_decide_eq_true h2⟩
    have plne : pl ≠ [] := fun z => by
      rw [hpl] at z
      have : ma2 ∈ (List.range c).filter fun u => decide (st.getD u 0 = st.getD c 0) := List.mem_filter.mpr ⟨List.mem_range.mpr hma2, decide_eq_true ema2⟩
      rw [List.map_eq_nil_iff.mp z] at this
      exact nomatch this
    rw [← hpl] at eD3
    have pll : 0 < pl.length := List.length_pos_iff.mpr plne
    obtain ⟨pi, px, epl⟩ := last_of plne
    obtain ⟨p0, ep0, mp0⟩ := at_int (xs := pl) (j := 0) (by decide) (by omega)
    have n0 := Int.emod_nonneg e1 (show ((pl.length : Nat) : Int) ≠ 0 by omega)
    have n1 := Int.emod_lt_of_pos e1 (show (0 : Int) < ((pl.length : Nat) : Int) by omega)
    obtain ⟨p2, ep2, mp2⟩ := at_int (xs := pl) n0 n1
    have mpx : px ∈ pl := by rw [epl]; exact List.mem_append_right _ List.mem_cons_self
    refine ⟨_, rfl, D3, _, 0, .int p0, rfl, rfl, SqL.of eD3, ep0, _, rfl, 1, rfl, D3, _, _, .int px, rfl, rfl, SqL.of eD3, (by rw [epl, List.map_append]; exact atI_last), _, rfl, _, rfl, p5, _, 1, .int e1, rfl, rfl, SqL.of (eu8 ep6), at5 (j := 1) (by rw [← hrow]; rfl), .inl ⟨_, rfl, _, rfl, D3, _, rfl, .inl (SqL.of eD3), _, _, rfl, rfl, ?_, D3, _, _, _, rfl, rfl, SqL.of eD3, (by rw [List.length_map]; exact ep2), le_line (n := 3) (by decide), fun k5 hk5 => ?_⟩⟩
    · rw [List.length_map]; show (0 : Int) < _; omega
    have s9 := same_new hk5 (.lst [V.int p0, V.int px, V.int p2])
    obtain ⟨pc, epc, mpc⟩ : ∃ pc, atI [V.int p0, V.int px, V.int p2] kd = some (.int pc) ∧ pc ∈ pl := by
      rcases (show kd = 0 ∨ kd = 1 ∨ kd = 2 by omega) with rfl | rfl | rfl
      · exact ⟨p0, rfl, mp0⟩
      · exact ⟨px, rfl, mpx⟩
      · exact ⟨p2, rfl, mp2⟩
    obtain ⟨ca, rfl, hab, eab⟩ := plm pc mpc
    refine ⟨_, rfl, k5, _, kd, _, rfl, rfl, SqL.of upd_same, epc, ?_⟩
    have eo9 := s9 _ _ (s8 _ _ eo7)
    refine ⟨_, rfl, ?_⟩
    unfold tNoPart
    refine ⟨_, rfl, _, rfl, so, _, rfl, SqL.of eo9, fun k1 hk1 => ?_⟩
    rw [cut_hi]
    have t1 := same_new hk1 (.lst ((st.map V.int).take ca))
    have eo10 := t1 _ _ eo9
    refine ⟨_, rfl, _, rfl, _, rfl, _, rfl, _, rfl, so, _, rfl, SqL.of eo10, fun k2 hk2 => ?_⟩
    rw [show ((c : Nat) : Int) = ((ca + (c - ca) : Nat) : Int) by omega, cut_mid _ _ _ (by rw [List.length_map]; omega)]
    have t2 := same_new hk2 (.lst (((st.map V.int).drop ca).take (c - ca)))
    refine ⟨le_line (n := 2) (by decide), fun k3 hk3 => ?_⟩
    have t3 := same_new hk3 (.lst [V.ref k1, V.ref k2])
    refine q _ k3 k1 k2 (st.take ca) ((st.drop ca).take (c - ca)) ((((((s06.trans s7).trans s8).trans s9).trans t1).trans t2).trans t3) upd_same ?_ ?_ (wk_cut wk hab hcb eab) ?_ ?_
    · rw [List.map_take]; exact t3 _ _ (t2 _ _ upd_same)
    · rw [List.map_take, List.map_drop]; exact t3 _ _ upd_same
    · rw [List.length_take, List.length_take, List.length_drop]; omega
    · intro x hx
      rcases List.mem_append.mp hx with hx | hx
      · exact wk.1 x (List.mem_of_mem_take hx)
      · exact wk.1 x (List.mem_of_mem_drop (List.mem_of_mem_take hx))
end
end GM
set_option Elab.async false
set_option linter.all false
set_option maxRecDepth 100000
set_option maxHeartbeats 4000000
set_option pp.maxSteps 150
set_option pp.deepTerms false
namespace GM
open PySem PySem.Spec PyProof.Rows L2
/-! ### _law_fault -/
def oVf : Option Nat → V
  | some k => .int (k : Int)
  | none => .non
def spFault : Sp := fun vs H Q _ => ∃ (g la ra : Addr) (lead ring : List Int) (os ps : List Int) (rows : List (List Int)) (o p sx : Addr) (rs : List Addr), vs = [.ref g, .ref la, .ref ra] ∧ GraphAt H g os ps rows o p sx rs ∧ Valid os ps rows ∧ os.length ≤ 60 ∧
  H la = some (.lst (lead.map V.int)) ∧ H ra = some (.lst (ring.map V.int)) ∧ lead.length + ring.length ≤ 900 ∧ ∀ H', Same H H' → Q (oVf (faultO os.length rows lead ring)) H'
section
variable {P : Program} {w : World} {K : PySem.W.Frag} {mg : Str → Option Value} {base : Heap} (M : Blt mg)
include M
theorem ok_fault {f : Addr} {fd : FuncData} (F : Fun K "_law_fault" "_law_fault" s__law_fault f fd) : FnOk P w K mg base CX0 1 f fd ["game", "lead", "ring"] spFault := by
  refine F.ok sc__law_fault (fun vs H Q E h => ?_) (fun cdv A outer s H vs Q E hr h => ?_)
  · obtain ⟨g, la, ra, lead, ring, os, ps, rows, o, p, sx, rs, rfl, _⟩ := h
    rfl
  obtain ⟨g, la, ra, lead, ring, os, ps, rows, o, p, sx, rs, rfl, G, V0, h60, el, er, hl, q⟩ := h
  have nd := sc__law_fault.nd
  refine ⟨_, pss_cons (ps_set (i := 3) nd rfl (.inl rfl) (pe_op op_cat (pv 1) (pv 2)))
    (pss_cons (ps_set (i := 4) nd rfl (.inl rfl) (pe_op op_cat (pv 3) (pe_slice sl_list (pv 2) po_none (po_some pe_int))))
    (pss_cons (ps_for PassesOwn.never rfl (pi_range1 rfl M.range (pa_cons (pe_callB call_len_seq (by rfl) M.len PySem.boot_len (pa_cons (pv 3) pa_nil)) pa_nil)) (pg_name (i := 5) nd rfl (.inl rfl)) (pss_cons (ps_if (PW.pt (pw_or (pt_cmpR op_lt (pe_ix ix_list (pv 3) (pv 5) (fun _ _ => rfl)) pe_int (nomark _)) (pw_or1 (pt_cmpR op_ge (pe_ix ix_list (pv 3) (pv 5) (fun _ _ => rfl)) (pe_callB call_len_seq (by rfl) M.len PySem.boot_len (pa_cons (pe_ix ix_list (pv 0) pe_int (fun _ _ => rfl)) pa_nil)) (nomark _))))) (pss_one (ps_ret (pv 5))) pss_nil)
      (pss_one (ps_if (PW.pt (pw_and (pt_cmpR op_lt (pe_op op_add (pv 5) pe_int) (pe_callB call_len_seq (by rfl) M.len PySem.boot_len (pa_cons (pv 4) pa_nil)) (nomark _)) (pw_and1 (pt_cmpR op_notIn_seq (pe_ix ix_list (pv 4) (pe_op op_add (pv 5) pe_int) (fun _ _ => rfl)) (pe_ix ix_list (pe_ix ix_list (pv 0) pe_int (fun _ _ => rfl)) (pe_ix ix_list (pv 3) (pv 5) (fun _ _ => rfl)) (fun _ _ => rfl)) rfl)))) (pss_one (ps_ret (pv 5))) pss_nil))))
    (pss_cons (ps_if (pt_cmpR op_eq (pe_callB call_len_seq (by rfl) M.len PySem.boot_len (pa_cons (pv 2) pa_nil)) pe_int (nomark _)) (pss_one (ps_ret (pe_callB call_len_seq (by rfl) M.len PySem.boot_len (pa_cons (pv 1) pa_nil)))) pss_nil)
    (pss_one (ps_ret pe_non))))), ?_⟩
  refine ⟨_, rfl, _, rfl, la, ra, _, _, rfl, rfl, el, er, le_line (by rw [List.length_map, List.length_map]; omega), fun st hst => ?_⟩
  rw [← List.map_append]
  have s1 := same_new hst (.lst ((lead ++ ring).map V.int))
  have es : upd H st (.lst ((lead ++ ring).map V.int)) st = some (.lst ((lead ++ ring).map V.int)) := upd_same
  generalize upd H st (.lst ((lead ++ ring).map V.int)) = H1 at s1 es ⊢
  refine ⟨_, rfl, _, rfl, ?_⟩
  unfold tNoPart
  refine ⟨_, rfl, ra, _, rfl, SqL.of (s1 _ _ er), fun c1 hc1 => ?_⟩
  rw [cut2, ← List.map_take]
  have s2 := same_new hc1 (.lst ((ring.take 1).map V.int))
  refine ⟨st, c1, _, _, rfl, rfl, s2 _ _ es, upd_same, le_line (by rw [List.length_map, List.length_map, List.length_append, List.length_take]; omega), fun ah hah => ?_⟩
  rw [← List.map_append]
  have s3 := same_new hah (.lst (((lead ++ ring) ++ ring.take 1).map V.int))
  have ea : upd (upd H1 c1 (.lst ((ring.take 1).map V.int))) ah (.lst (((lead ++ ring) ++ ring.take 1).map V.int)) ah = some (.lst (((lead ++ ring) ++ ring.take 1).map V.int)) := upd_same
  have es3 := s3 _ _ (s2 _ _ es)
  have m3 := (s1.trans s2).trans s3
  generalize upd (upd H1 c1 (.lst ((ring.take 1).map V.int))) ah (.lst (((lead ++ ring) ++ ring.take 1).map V.int)) = H3 at ea es3 m3 ⊢
  clear s1 s2 s3 es
  have hS : stepsOf lead ring = lead ++ ring := rfl
  have hA : aheadOf lead ring = lead ++ ring ++ ring.take 1 := rfl
  have lst : (lead ++ ring).length = lead.length + ring.length := List.length_append
  have lah : (lead ++ ring ++ ring.take 1).length ≤ 901 := by rw [List.length_append, lst, List.length_take]; omega
  rw [← hS] at es3 lst
  rw [← hA] at ea lah
  generalize hS2 : stepsOf lead ring = steps at *
  generalize hA2 : aheadOf lead ring = ahead at *
  refine ⟨_, rfl, st, _, rfl, .inl (SqL.of es3), _, rfl, by rw [List.length_map]; omega, by rw [List.length_map]; omega, ?_⟩
  rw [List.length_map, Int.toNat_natCast]
  refine for_range (n := steps.length) (fun i σ H' => Same H3 H' ∧ (∀ j, j < i → badAt os.length rows steps ahead j = false) ∧ ∃ y5 : Option V, σ = [some (.ref g), some (.ref la), some (.ref ra), some (.ref st), some (.ref ah), y5]) ⟨.refl _, fun _ h => absurd h (Nat.not_lt_zero _), Option.none, rfl⟩ ?_ ?_
  · rintro i σ H4 hi ⟨sm, hbad, y5, rfl⟩
    have m4 := m3.trans sm
    have G4 := G.same m4
    have es4 := sm _ _ es3
    have ea4 := sm _ _ ea
    obtain ⟨z, ez⟩ : ∃ z, steps.getD i 0 = z := ⟨_, rfl⟩
    have ei : ((0 : Int) + (i : Int)) = ((i : Nat) : Int) := by omega
    rw [ei]
    have hz : steps[i]? = some z := by rw [← ez]; exact gd_at hi
    have bdef : badAt os.length rows steps ahead i = (!(decide (0 ≤ z) && decide (z < (os.length : Int))) || (decide (i + 1 < ahead.length) && !decide (ahead.getD (i + 1) 0 ∈ rows.getD z.toNat []))) := by unfold badAt; rw [ez]
    have raised : badAt os.length rows steps ahead i = true → Q (.int ((i : Nat) : Int)) H4 := fun hb => by
      have e := fault_at (n := os.length) (rows := rows) (lead := lead) (ring := ring) (k := i) (by rw [hS2]; exact hi) (by rw [hS2, hA2]; exact hb) (by rw [hS2, hA2]; exact hbad)
      have := q H4 m4
      rw [e] at this
      exact this
    have nxt : badAt os.length rows steps ahead i = false → ∀ j, j < i + 1 → badAt os.length rows steps ahead j = false := fun hb j hj => by
      by_cases h : j < i
      · exact hbad j h
      · have : j = i := by omega
        rw [this]; exact hb
    refine ⟨_, rfl, _, rfl, st, _, _, _, rfl, rfl, SqL.of es4, atI_nat (at_map hz), _, _, rfl, rfl, _, rfl, ?_⟩
    by_cases c1 : z < 0
    · rw [decide_eq_true c1]
      have : ¬ (0 : Int) ≤ z := by omega
      rw [decide_eq_false this] at bdef
      exact iteT (iteT ⟨_, rfl, raised bdef⟩)
    · rw [decide_eq_false c1]
      have c1' : (0 : Int) ≤ z := by omega
      rw [decide_eq_true c1'] at bdef
      refine iteF ⟨_, rfl, _, rfl, st, _, _, _, rfl, rfl, SqL.of es4, atI_nat (at_map hz), _, rfl, g, _, 0, .ref o, rfl, rfl, SqL.of G4.g0, rfl, o, _, rfl, .inl (SqL.of G4.o0), _, _, rfl, rfl, _, rfl, ?_⟩
      rw [List.length_map]
      by_cases c2 : z < (os.length : Int)
      · rw [decide_eq_true c2] at bdef
        rw [decide_eq_false (show ¬ ((os.length : Nat) : Int) ≤ z by omega)]
        have hzn : z.toNat < os.length := by omega
        have hz2 : ((z.toNat : Nat) : Int) = z := by omega
        have hrow : rows[z.toNat]? = some (rows.getD z.toNat []) := gd_at (by rw [V0.l2]; exact hzn)
        obtain ⟨tr, htr, etr⟩ := pr_getR G4.r0 hrow
        refine iteF ⟨_, rfl, _, _, rfl, rfl, _, rfl, ah, _, rfl, .inl (SqL.of ea4), _, _, rfl, rfl, _, rfl, ?_⟩
        rw [List.length_map]
        by_cases c3 : i + 1 < ahead.length
        · rw [decide_eq_true (show ((i : Nat) : Int) + 1 < ((ahead.length : Nat) : Int) by omega)]
          rw [decide_eq_true c3] at bdef
          refine iteT ⟨_, rfl, _, rfl, _, _, rfl, rfl, ah, _, _, _, rfl, rfl, SqL.of ea4, (by rw [show ((i : Nat) : Int) + 1 = ((i + 1 : Nat) : Int) by omega]; exact atI_nat (at_map (gd_at (d := 0) c3))), _, rfl, g, _, 2, .ref sx, rfl, rfl, SqL.of G4.g0, rfl, _, rfl, _, rfl, st, _, _, _, rfl, rfl, SqL.of es4, atI_nat (at_map hz), sx, _, _, .ref tr, rfl, rfl, SqL.of G4.s0, (by rw [← hz2]; exact atI_nat (at_map htr)), tr, _, rfl, .inl (SqL.of etr), rfl, flat_int _, _, rfl, ?_⟩
          rw [inV_int]
          by_cases c4 : ahead.getD (i + 1) 0 ∈ rows.getD z.toNat []
          · rw [decide_eq_true c4] at bdef ⊢
            exact iteF ⟨sm, nxt bdef, _, rfl⟩
          · rw [decide_eq_false c4] at bdef ⊢
            exact iteT ⟨_, rfl, raised bdef⟩
        · rw [decide_eq_false (show ¬ ((i : Nat) : Int) + 1 < ((ahead.length : Nat) : Int) by omega)]
          rw [decide_eq_false c3] at bdef
          exact iteF ⟨sm, nxt bdef, _, rfl⟩
      · rw [decide_eq_false c2] at bdef
        rw [decide_eq_true (show ((os.length : Nat) : Int) ≤ z by omega)]
        exact iteT ⟨_, rfl, raised bdef⟩
  · rintro σ H4 ⟨sm, hbad, y5, rfl⟩
    have hend := fault_end (n := os.length) (rows := rows) (lead := lead) (ring := ring) (by rw [hS2, hA2]; exact hbad)
    have m4 := m3.trans sm
    have := q H4 m4
    rw [hend] at this
    refine ⟨_, rfl, ra, _, rfl, .inl (SqL.of (m4 _ _ er)), rfl, _, rfl, ite2 (fun c => ?_) (fun c => ?_)⟩
    · rw [dInt, List.length_map] at c
      have c := of_decide_eq_true c
      have c2 : ring = [] := List.eq_nil_of_length_eq_zero (by omega)
      rw [if_pos c2] at this
      refine ⟨_, rfl, la, _, rfl, .inl (SqL.of (m4 _ _ el)), ?_⟩
      rw [List.length_map]; exact this
    · rw [dInt, List.length_map] at c
      have c2 : ¬ ring = [] := fun z => c (by rw [z]; exact decide_eq_true rfl)
      rw [if_neg c2] at this
      exact this
end
end GM
set_option Elab.async false
set_option linter.all false
set_option maxRecDepth 100000
set_option maxHeartbeats 4000000
set_option pp.maxSteps 150
set_option pp.deepTerms false
namespace GM
open PySem PySem.Spec PyProof.Rows L2
/-! ### _law_edited -/
def Sml (x : Int) : Prop := x.natAbs < 10 ^ 13
def spEdited : Sp := fun vs H Q _ => ∃ (g la ra rw' : Addr) (lead ring : List Int) (d0 d1 d2 : Int) (os ps : List Int) (rows : List (List Int)) (o p sx : Addr) (rs : List Addr), vs = [.ref g, .ref la, .ref ra, .ref rw'] ∧ GraphAt H g os ps rows o p sx rs ∧ 1 ≤ os.length ∧ os.length ≤ 40 ∧
  H la = some (.lst (lead.map V.int)) ∧ H ra = some (.lst (ring.map V.int)) ∧ lead.length + ring.length ≤ 400 ∧ (∀ x ∈ lead ++ ring, Sml x) ∧ H rw' = some (.lst ([d0, d1, d2].map V.int)) ∧ 0 ≤ d0 ∧ d0 < 11 ∧ 0 ≤ d1 ∧ 0 ≤ d2 ∧
  ∀ (H' : Hp) (r la' ra' : Addr) (lead' ring' : List Int), Same H H' → H' r = some (.lst [.ref la', .ref ra']) → H' la' = some (.lst (lead'.map V.int)) → H' ra' = some (.lst (ring'.map V.int)) → lead'.length + ring'.length ≤ 400 → (∀ x ∈ lead' ++ ring', Sml x) → Q (.ref r) H'
theorem ite3 {b : Bool} {X A B0 : Prop} (hB : B0) (hX : B0 → b = true → X) : if b = true then X else (if false = true then A else B0) := by
  cases b with
  | true => exact iteT (hX hB rfl)
  | false => exact iteF (iteF hB)
theorem len_of_eq {l : List Int} {c : Nat} : (l.take c).length + (l.drop c).length = l.length := by rw [← List.length_append, List.take_append_drop]
section
variable {P : Program} {w : World} {K : PySem.W.Frag} {mg : Str → Option Value} {base : Heap} (M : Blt mg)
include M
theorem ok_edited {f : Addr} {fd : FuncData} (F : Fun K "_law_edited" "_law_edited" s__law_edited f fd) (zv : mg "reversed" = Option.none) : FnOk P w K mg base CX0 1 f fd ["game", "lead", "ring", "row"] spEdited := by
  refine F.ok sc__law_edited (fun vs H Q E h => ?_) (fun cdv A outer s H vs Q E hr h => ?_)
  · obtain ⟨g, la, ra, rw', lead, ring, d0, d1, d2, os, ps, rows, o, p, sx, rs, rfl, _⟩ := h
    rfl
  obtain ⟨g, la, ra, rw', lead, ring, d0, d1, d2, os, ps, rows, o, p, sx, rs, rfl, G, hn1, h40, el, er, hl, hsm, ew, a0, a1, b1, b2, q⟩ := h
  have nd := sc__law_edited.nd
  refine ⟨_, pss_cons (ps_set (i := 4) nd rfl (.inl rfl) (pe_ix ix_list (pv 3) pe_int (fun _ _ => rfl)))
    (pss_cons (ps_set (i := 5) nd rfl (.inl rfl) (pe_op op_cat (pv 1) (pv 2)))
    (pss_cons (ps_set (i := 6) nd rfl (.inl rfl) (pe_callB call_len_seq (by rfl) M.len PySem.boot_len (pa_cons (pv 1) pa_nil)))
    (pss_cons (ps_if (PW.pt (pw_or (pt_cmpR op_eq (pv 4) pe_int (nomark _)) (pw_or1 (pt_cmpR op_eq (pe_callB call_len_seq (by rfl) M.len PySem.boot_len (pa_cons (pv 5) pa_nil)) pe_int (nomark _))))) (pss_one (ps_ret (pe_lst (pa_cons (pv 1) (pa_cons (pe_lst pa_nil) pa_nil))))) pss_nil)
    (pss_cons (ps_set (i := 7) nd rfl (.inl rfl) (pe_op op_mod (pe_callTy call_int1 (by rfl) M.int PyProof.Rows.boot_int (pa_cons (pe_ix ix_list (pv 3) pe_int (fun _ _ => rfl)) pa_nil)) (pe_callB call_len_seq (by rfl) M.len PySem.boot_len (pa_cons (pv 5) pa_nil))))
    (pss_cons (ps_if (pt_cmpR op_eq (pv 4) pe_int (nomark _)) (pss_one (ps_ret (pe_lst (pa_cons (pe_listRev rfl (by rfl) M.list (by rfl) zv (pv 1)) (pa_cons (pv 2) pa_nil))))) pss_nil)
    (pss_cons (ps_if (pt_cmpR op_eq (pv 4) pe_int (nomark _)) (pss_one (ps_ret (pe_lst (pa_cons (pv 1) (pa_cons (pe_listRev rfl (by rfl) M.list (by rfl) zv (pv 2)) pa_nil))))) pss_nil)
    (pss_cons (ps_if (pt_cmpR op_eq (pv 4) pe_int (nomark _)) (pss_one (ps_ret (pe_lst (pa_cons (pv 2) (pa_cons (pv 1) pa_nil))))) pss_nil)
    (pss_cons (ps_if (pt_cmpR op_eq (pv 4) pe_int (nomark _)) (pss_one (ps_ret (pe_lst (pa_cons (pe_lst pa_nil) (pa_cons (pv 1) pa_nil))))) pss_nil)
    (pss_cons (ps_if (pt_cmpR op_eq (pv 4) pe_int (nomark _)) (pss_cons (ps_set (i := 5) nd rfl (.inl rfl) (pe_op op_cat (pe_slice sl_list (pv 5) po_none (po_some (pv 7))) (pe_slice sl_list (pv 5) (po_some (pe_op op_add (pv 7) pe_int)) po_none)))
      (pss_one (ps_ret (pe_lst (pa_cons (pe_slice sl_list (pv 5) po_none (po_some (pe_op op_sub (pv 6) (pe_callTy call_int1 (by rfl) M.int PyProof.Rows.boot_int (pa_cons (pe_cmpR op_lt (pv 7) (pv 6) (nomark _)) pa_nil))))) (pa_cons (pe_slice sl_list (pv 5) (po_some (pe_op op_sub (pv 6) (pe_callTy call_int1 (by rfl) M.int PyProof.Rows.boot_int (pa_cons (pe_cmpR op_lt (pv 7) (pv 6) (nomark _)) pa_nil)))) po_none) pa_nil)))))) pss_nil)
    (pss_cons (ps_if (PW.pt (pw_and (pt_cmpR op_eq (pv 4) pe_int (nomark _)) (pw_and1 (pt_cmpR op_lt (pe_callB call_len_seq (by rfl) M.len PySem.boot_len (pa_cons (pv 5) pa_nil)) pe_int (nomark _))))) (pss_cons (ps_set (i := 5) nd rfl (.inl rfl) (pe_op op_cat (pe_slice sl_list (pv 5) po_none (po_some (pe_op op_add (pv 7) pe_int))) (pe_slice sl_list (pv 5) (po_some (pv 7)) po_none)))
      (pss_one (ps_ret (pe_lst (pa_cons (pe_slice sl_list (pv 5) po_none (po_some (pe_op op_add (pv 6) (pe_callTy call_int1 (by rfl) M.int PyProof.Rows.boot_int (pa_cons (pe_cmpR op_lt (pv 7) (pv 6) (nomark _)) pa_nil))))) (pa_cons (pe_slice sl_list (pv 5) (po_some (pe_op op_add (pv 6) (pe_callTy call_int1 (by rfl) M.int PyProof.Rows.boot_int (pa_cons (pe_cmpR op_lt (pv 7) (pv 6) (nomark _)) pa_nil)))) po_none) pa_nil)))))) pss_nil)
    (pss_cons (ps_set (i := 8) nd rfl (.inl rfl) (pe_callB call_len_seq (by rfl) M.len PySem.boot_len (pa_cons (pe_ix ix_list (pv 0) pe_int (fun _ _ => rfl)) pa_nil)))
    (pss_cons (ps_set (i := 9) nd rfl (.inl rfl) (pe_ix ix_list (pe_lst (pa_cons (pe_op op_mod (pe_callTy call_int1 (by rfl) M.int PyProof.Rows.boot_int (pa_cons (pe_ix ix_list (pv 3) pe_int (fun _ _ => rfl)) pa_nil)) (pv 8)) (pa_cons (pe_op op_add (pv 8) (pe_ix ix_list (pe_lst (pa_cons pe_int (pa_cons pe_int (pa_cons pe_int (pa_cons (pe_op op_pow pe_int pe_int) pa_nil))))) (pe_op op_mod (pe_callTy call_int1 (by rfl) M.int PyProof.Rows.boot_int (pa_cons (pe_ix ix_list (pv 3) pe_int (fun _ _ => rfl)) pa_nil)) pe_int) (fun _ _ => rfl))) (pa_cons (pe_op op_sub (pe_un un_neg pe_int) (pe_op op_mod (pe_callTy call_int1 (by rfl) M.int PyProof.Rows.boot_int (pa_cons (pe_ix ix_list (pv 3) pe_int (fun _ _ => rfl)) pa_nil)) (pe_op op_add (pv 8) pe_int))) (pa_cons (pe_op op_mod (pe_callTy call_int1 (by rfl) M.int PyProof.Rows.boot_int (pa_cons (pe_ix ix_list (pv 3) pe_int (fun _ _ => rfl)) pa_nil)) (pv 8)) pa_nil))))) (pe_callB (call_max2 rfl) (by rfl) M.max (by decide +kernel) (pa_cons pe_int (pa_cons (pe_op op_sub (pv 4) pe_int) pa_nil))) (fun _ _ => rfl)))
    (pss_cons (ps_set (i := 5) nd rfl (.inl rfl) (pe_op op_cat (pe_op op_cat (pe_slice sl_list (pv 5) po_none (po_some (pv 7))) (pe_lst (pa_cons (pv 9) pa_nil))) (pe_slice sl_list (pv 5) (po_some (pe_op op_add (pv 7) pe_int)) po_none)))
    (pss_one (ps_ret (pe_lst (pa_cons (pe_slice sl_list (pv 5) po_none (po_some (pv 6))) (pa_cons (pe_slice sl_list (pv 5) (po_some (pv 6)) po_none) pa_nil)))))))))))))))))), ?_⟩
  refine ⟨_, rfl, rw', _, 0, .int d0, rfl, rfl, SqL.of ew, rfl, ?_⟩
  refine ⟨_, rfl, _, rfl, la, ra, _, _, rfl, rfl, el, er, le_line (by rw [List.length_map, List.length_map]; omega), fun st hst => ?_⟩
  rw [← List.map_append]
  have s1 := same_new hst (.lst ((lead ++ ring).map V.int))
  have es : upd H st (.lst ((lead ++ ring).map V.int)) st = some (.lst ((lead ++ ring).map V.int)) := upd_same
  generalize upd H st (.lst ((lead ++ ring).map V.int)) = H1 at s1 es ⊢
  have lst : (lead ++ ring).length = lead.length + ring.length := List.length_append
  have el1 := s1 _ _ el
  have er1 := s1 _ _ er
  have ew1 := s1 _ _ ew
  have G1 := G.same s1
  refine ⟨_, rfl, la, _, rfl, .inl (SqL.of el1), ?_⟩
  rw [List.length_map]
  -- what is given back
  have give : ∀ (la' ra' : Addr) (lead' ring' : List Int) (H2 : Hp), Same H1 H2 → H2 la' = some (.lst (lead'.map V.int)) → H2 ra' = some (.lst (ring'.map V.int)) → lead'.length + ring'.length ≤ 400 → (∀ x ∈ lead' ++ ring', Sml x) → [V.ref la', V.ref ra'].length ≤ sizeLine ∧ ∀ r, H2 r = none → Q (.ref r) (upd H2 r (.lst [V.ref la', V.ref ra'])) := fun la' ra' lead' ring' H2 s2 e1 e2 hl' hs' =>
    ⟨le_line (n := 2) (by decide), fun r hr => q _ r la' ra' lead' ring' (s1.trans (s2.trans (same_new hr _))) upd_same (same_new hr _ _ _ e1) (same_new hr _ _ _ e2) hl' hs'⟩
  refine ⟨_, rfl, rfl, _, rfl, ite2 (fun k0 => ?_) (fun k0 => ?_)⟩
  · exact iteT ⟨_, rfl, Nat.zero_le _, fun k hk => give la k lead [] _ (same_new hk _) (same_new hk _ _ _ el1) upd_same (by rw [List.length_nil]; omega) (fun x hx => hsm x (by rw [List.append_nil] at hx; exact List.mem_append_left _ hx))⟩
  refine ⟨_, rfl, st, _, rfl, .inl (SqL.of es), rfl, _, rfl, ite2 (fun k1 => ?_) (fun k1 => ?_)⟩
  · exact ⟨_, rfl, Nat.zero_le _, fun k hk => give la k lead [] _ (same_new hk _) (same_new hk _ _ _ el1) upd_same (by rw [List.length_nil]; omega) (fun x hx => hsm x (by rw [List.append_nil] at hx; exact List.mem_append_left _ hx))⟩
  have hne : 0 < (lead ++ ring).length := by
    rw [dInt, List.length_map] at k1
    have : ¬ (((lead ++ ring).length : Nat) : Int) = 0 := fun z => k1 (decide_eq_true z)
    omega
  obtain ⟨pl, hpl⟩ : ∃ pl : Nat, d1 % (((lead ++ ring).length : Nat) : Int) = (pl : Int) := ⟨(d1 % (((lead ++ ring).length : Nat) : Int)).toNat, by
    have := Int.emod_nonneg d1 (show (((lead ++ ring).length : Nat) : Int) ≠ 0 by omega)
    omega⟩
  have hpl2 : pl < (lead ++ ring).length := by
    have := Int.emod_lt_of_pos d1 (show (0 : Int) < (((lead ++ ring).length : Nat) : Int) by omega)
    omega
  refine ⟨_, rfl, rw', _, 1, .int d1, rfl, rfl, SqL.of ew1, rfl, .inl ⟨_, rfl, _, rfl, st, _, rfl, .inl (SqL.of es), _, _, rfl, rfl, ?_, ?_⟩⟩
  · rw [List.length_map]; show (0 : Int) < _; omega
  have ee : d1 % ((((lead ++ ring).map V.int).length : Nat) : Int) = (pl : Int) := by rw [List.length_map]; exact hpl
  show gName 7 (V.int (d1 % ((((lead ++ ring).map V.int).length : Nat) : Int))) _ _ _
  rw [ee]
  refine ⟨_, rfl, rfl, _, rfl, ite2 (fun k2 => ?_) (fun k2 => ?_)⟩
  · refine ⟨_, rfl, la, _, rfl, SqL.of el1, fun k hk => ⟨_, rfl, ?_⟩⟩
    rw [← List.map_reverse]
    exact give k ra lead.reverse ring _ (same_new hk _) upd_same (same_new hk _ _ _ er1) (by rw [List.length_reverse]; exact hl) (fun x hx => hsm x (by
      rcases List.mem_append.mp hx with hx | hx
      · exact List.mem_append_left _ (List.mem_reverse.mp hx)
      · exact List.mem_append_right _ hx))
  refine ⟨_, rfl, rfl, _, rfl, ite2 (fun k3 => ?_) (fun k3 => ?_)⟩
  · refine ⟨_, rfl, _, rfl, ra, _, rfl, SqL.of er1, fun k hk => ?_⟩
    rw [← List.map_reverse]
    exact give la k lead ring.reverse _ (same_new hk _) (same_new hk _ _ _ el1) upd_same (by rw [List.length_reverse]; exact hl) (fun x hx => hsm x (by
      rcases List.mem_append.mp hx with hx | hx
      · exact List.mem_append_left _ hx
      · exact List.mem_append_right _ (List.mem_reverse.mp hx)))
  refine ⟨_, rfl, rfl, _, rfl, ite2 (fun k4 => ?_) (fun k4 => ?_)⟩
  · exact ⟨_, rfl, _, rfl, give ra la ring lead _ (.refl _) er1 el1 (by omega) (fun x hx => hsm x (by
      rcases List.mem_append.mp hx with hx | hx
      · exact List.mem_append_right _ hx
      · exact List.mem_append_left _ hx))⟩
  refine ⟨_, rfl, rfl, _, rfl, ite2 (fun k5 => ?_) (fun k5 => ?_)⟩
  · exact ⟨Nat.zero_le _, fun k hk => ⟨_, rfl, give k la [] lead _ (same_new hk _) upd_same (same_new hk _ _ _ el1) (by rw [List.length_nil]; omega) (fun x hx => hsm x (List.mem_append_left _ hx))⟩⟩
  have two : ∀ (N : List Int) (c : Nat) (k1 k2 : Addr) (H2 : Hp), Same H1 H2 → H2 k1 = Option.none → (upd H2 k1 (.lst ((N.take c).map V.int))) k2 = Option.none → N.length ≤ 400 → (∀ x ∈ N, Sml x) →
      [V.ref k1, V.ref k2].length ≤ sizeLine ∧ ∀ r, upd (upd H2 k1 (.lst ((N.take c).map V.int))) k2 (.lst ((N.drop c).map V.int)) r = Option.none → Q (.ref r) (upd (upd (upd H2 k1 (.lst ((N.take c).map V.int))) k2 (.lst ((N.drop c).map V.int))) r (.lst [V.ref k1, V.ref k2])) := fun N c k1 k2 H2 s2 n1 n2 hN hs' =>
    give k1 k2 (N.take c) (N.drop c) _ (s2.trans ((same_new n1 _).trans (same_new n2 _))) (same_new n2 _ _ _ upd_same) upd_same (by rw [len_of_eq]; exact hN) (fun x hx => hs' x (by rw [List.take_append_drop] at hx; exact hx))
  have split : ∀ {N : List Int} {c : Nat}, (N.map V.int).take c = (N.take c).map V.int ∧ (N.map V.int).drop c = (N.drop c).map V.int := ⟨List.map_take.symm, List.map_drop.symm⟩
  generalize hA : lead ++ ring = A0 at *
  refine ⟨_, rfl, rfl, _, rfl, ite2 (fun k6 => ?_) (fun k6 => ?_)⟩
  · refine ⟨_, rfl, ?_⟩
    unfold tNoPart
    refine ⟨_, rfl, _, rfl, st, _, rfl, SqL.of es, fun u1 hu1 => ?_⟩
    rw [cut_hi, split.1]
    have t1 := same_new hu1 (.lst ((A0.take pl).map V.int))
    refine ⟨_, rfl, _, rfl, _, _, rfl, rfl, _, rfl, st, _, rfl, SqL.of (t1 _ _ es), fun u2 hu2 => ?_⟩
    rw [show ((pl : Nat) : Int) + 1 = ((pl + 1 : Nat) : Int) by omega, cut_lo, split.2]
    have t2 := same_new hu2 (.lst ((A0.drop (pl + 1)).map V.int))
    refine ⟨u1, u2, _, _, rfl, rfl, t2 _ _ upd_same, upd_same, le_line (by rw [List.length_map, List.length_map, List.length_take, List.length_drop]; omega), fun u3 hu3 => ?_⟩
    rw [← List.map_append]
    have t3 := same_new hu3 (.lst ((A0.take pl ++ A0.drop (pl + 1)).map V.int))
    have hN : (A0.take pl ++ A0.drop (pl + 1)).length ≤ 400 := by rw [List.length_append, List.length_take, List.length_drop]; omega
    have hN2 : ∀ x ∈ A0.take pl ++ A0.drop (pl + 1), Sml x := fun x hx => hsm x (by
      rcases List.mem_append.mp hx with hx | hx
      · exact List.mem_of_mem_take hx
      · exact List.mem_of_mem_drop hx)
    have eN : upd (upd (upd H1 u1 (.lst ((A0.take pl).map V.int))) u2 (.lst ((A0.drop (pl + 1)).map V.int))) u3 (.lst ((A0.take pl ++ A0.drop (pl + 1)).map V.int)) u3 = some (.lst ((A0.take pl ++ A0.drop (pl + 1)).map V.int)) := upd_same
    have m3 := (t1.trans t2).trans t3
    generalize upd (upd (upd H1 u1 (.lst ((A0.take pl).map V.int))) u2 (.lst ((A0.drop (pl + 1)).map V.int))) u3 (.lst ((A0.take pl ++ A0.drop (pl + 1)).map V.int)) = H3 at eN m3 ⊢
    generalize A0.take pl ++ A0.drop (pl + 1) = N at hN hN2 eN
    obtain ⟨c, hc⟩ : ∃ c : Nat, ((lead.length : Nat) : Int) - (if decide (((pl : Nat) : Int) < ((lead.length : Nat) : Int)) = true then 1 else 0) = (c : Int) := by
      by_cases h : ((pl : Nat) : Int) < ((lead.length : Nat) : Int)
      · rw [decide_eq_true h, if_pos rfl]; exact ⟨lead.length - 1, by omega⟩
      · rw [decide_eq_false h, if_neg Bool.false_ne_true]; exact ⟨lead.length, by omega⟩
    refine ⟨_, rfl, _, rfl, _, rfl, _, rfl, _, _, rfl, rfl, .inr ⟨_, rfl, _, _, rfl, rfl, _, rfl, u3, _, rfl, SqL.of eN, fun k1 hk1 => ?_⟩⟩
    rw [hc, cut_hi, split.1]
    refine ⟨_, rfl, _, rfl, _, rfl, _, rfl, _, _, rfl, rfl, .inr ⟨_, rfl, _, _, rfl, rfl, _, rfl, u3, _, rfl, SqL.of (same_new hk1 _ _ _ eN), fun k2 hk2 => ?_⟩⟩
    rw [hc, cut_lo, split.2]
    exact two N c k1 k2 H3 m3 hk1 hk2 hN hN2
  refine ⟨_, rfl, rfl, _, rfl, ite3 ?_ (fun rest k7 => ⟨_, rfl, st, _, rfl, .inl (SqL.of es), _, _, rfl, rfl, _, rfl, ite2 (fun k8 => ?_) (fun _ => rest)⟩)⟩
  · refine ⟨_, rfl, g, _, 0, .ref o, rfl, rfl, SqL.of G1.g0, rfl, o, _, rfl, .inl (SqL.of G1.o0), ?_⟩
    rw [List.length_map]
    have n0 : (0 : Int) < ((os.length : Nat) : Int) := by omega
    generalize os.length = n at *
    have g0 := Int.emod_nonneg d2 (show ((n : Nat) : Int) ≠ 0 by omega)
    have g1 := Int.emod_lt_of_pos d2 n0
    have g2 := Int.emod_nonneg d2 (show ((n : Nat) : Int) + 1 ≠ 0 by omega)
    have g3 := Int.emod_lt_of_pos d2 (show (0 : Int) < ((n : Nat) : Int) + 1 by omega)
    obtain ⟨x4, e4, hx4, hx5⟩ : ∃ x4 : Int, atI [V.int 0, V.int 1, V.int 9, V.int (10 ^ (12 : Int).toNat)] (d2 % 4) = some (.int x4) ∧ 0 ≤ x4 ∧ x4 ≤ 1000000000000 := by
      rcases (show d2 % 4 = 0 ∨ d2 % 4 = 1 ∨ d2 % 4 = 2 ∨ d2 % 4 = 3 by omega) with h | h | h | h
      · rw [h]; exact ⟨_, rfl, by decide, by decide⟩
      · rw [h]; exact ⟨_, rfl, by decide, by decide⟩
      · rw [h]; exact ⟨_, rfl, by decide, by decide⟩
      · rw [h]; exact ⟨_, rfl, by decide, by decide⟩
    obtain ⟨num, e5, hnum⟩ : ∃ num : Int, atI [V.int (d2 % (n : Int)), V.int ((n : Int) + x4), V.int (-1 - d2 % ((n : Int) + 1)), V.int (d2 % (n : Int))] (if d0 - 7 > 0 then d0 - 7 else 0) = some (.int num) ∧ Sml num := by
      have i0 : (if d0 - 7 > 0 then d0 - 7 else 0) = 0 ∨ (if d0 - 7 > 0 then d0 - 7 else 0) = 1 ∨ (if d0 - 7 > 0 then d0 - 7 else 0) = 2 ∨ (if d0 - 7 > 0 then d0 - 7 else 0) = 3 := by split <;> omega
      have p13 : (10 : Nat) ^ 13 = 10000000000000 := by decide
      unfold Sml
      rw [p13]
      rcases i0 with h | h | h | h
      · rw [h]; exact ⟨_, rfl, by omega⟩
      · rw [h]; exact ⟨_, rfl, by omega⟩
      · rw [h]; exact ⟨_, rfl, by omega⟩
      · rw [h]; exact ⟨_, rfl, by omega⟩
    refine ⟨_, rfl, rw', _, 2, .int d2, rfl, rfl, SqL.of ew1, rfl, .inl ⟨_, rfl, _, rfl, _, _, rfl, rfl, n0, _, rfl, _, _, rfl, rfl, ⟨by decide, by decide, by decide⟩, le_line (n := 4) (by decide), fun l1 hl1 => ?_⟩⟩
    have t1 := same_new hl1 (.lst [V.int 0, V.int 1, V.int 9, V.int (10 ^ (12 : Int).toNat)])
    refine ⟨_, rfl, rw', _, 2, .int d2, rfl, rfl, SqL.of (t1 _ _ ew1), rfl, .inl ⟨_, rfl, _, _, rfl, rfl, (by show (0 : Int) < 4; decide), l1, _, _, _, rfl, rfl, SqL.of upd_same, e4, _, _, rfl, rfl, 1, rfl, _, rfl, rw', _, 2, .int d2, rfl, rfl, SqL.of (t1 _ _ ew1), rfl, .inl ⟨_, rfl, _, rfl, _, _, rfl, rfl, _, _, rfl, rfl, (by show (0 : Int) < _; omega), _, _, rfl, rfl, _, rfl, rw', _, 2, .int d2, rfl, rfl, SqL.of (t1 _ _ ew1), rfl, .inl ⟨_, rfl, _, rfl, _, _, rfl, rfl, n0, le_line (n := 4) (by decide), fun l2 hl2 => ?_⟩⟩⟩⟩
    refine ⟨_, rfl, _, _, rfl, rfl, _, _, rfl, l2, _, _, _, rfl, rfl, SqL.of upd_same, e5, ?_⟩
    have t2 := same_new hl2 (.lst [V.int (d2 % (n : Int)), V.int ((n : Int) + x4), V.int (-1 - d2 % ((n : Int) + 1)), V.int (d2 % (n : Int))])
    have m2 := t1.trans t2
    generalize upd (upd H1 l1 (.lst [V.int 0, V.int 1, V.int 9, V.int (10 ^ (12 : Int).toNat)])) l2 (.lst [V.int (d2 % (n : Int)), V.int ((n : Int) + x4), V.int (-1 - d2 % ((n : Int) + 1)), V.int (d2 % (n : Int))]) = H2 at m2 ⊢
    have es2 := m2 _ _ es
    clear t1 t2 e4 e5
    refine ⟨_, rfl, ?_⟩
    unfold tNoPart
    refine ⟨_, rfl, _, rfl, st, _, rfl, SqL.of es2, fun u1 hu1 => ?_⟩
    rw [cut_hi, split.1]
    have t1 := same_new hu1 (.lst ((A0.take pl).map V.int))
    refine ⟨_, rfl, le_line (n := 1) (by decide), fun u2 hu2 => ?_⟩
    have t2 := same_new hu2 (.lst [V.int num])
    refine ⟨u1, u2, _, _, rfl, rfl, t2 _ _ upd_same, upd_same, le_line (by rw [List.length_map, List.length_take]; show _ + 1 ≤ 1000; omega), fun u3 hu3 => ?_⟩
    have t3 := same_new hu3 (.lst ((A0.take pl).map V.int ++ [V.int num]))
    have m5 := (t1.trans t2).trans t3
    refine ⟨_, rfl, _, rfl, _, _, rfl, rfl, _, rfl, st, _, rfl, SqL.of (m5 _ _ es2), fun u4 hu4 => ?_⟩
    rw [show ((pl : Nat) : Int) + 1 = ((pl + 1 : Nat) : Int) by omega, cut_lo, split.2]
    have t4 := same_new hu4 (.lst ((A0.drop (pl + 1)).map V.int))
    refine ⟨u3, u4, _, _, rfl, rfl, t4 _ _ upd_same, upd_same, le_line (by rw [List.length_append, List.length_map, List.length_map, List.length_take, List.length_drop]; show _ + 1 + _ ≤ 1000; omega), fun u5 hu5 => ?_⟩
    have t5 := same_new hu5 (.lst (((A0.take pl).map V.int ++ [V.int num]) ++ (A0.drop (pl + 1)).map V.int))
    have m7 := (m2.trans m5).trans (t4.trans t5)
    have hN : (A0.take pl ++ [num] ++ A0.drop (pl + 1)).length ≤ 400 := by rw [List.length_append, List.length_append, List.length_take, List.length_drop, List.length_singleton]; omega
    have hN2 : ∀ x ∈ A0.take pl ++ [num] ++ A0.drop (pl + 1), Sml x := fun x hx => by
      rcases List.mem_append.mp hx with hx | hx
      · rcases List.mem_append.mp hx with hx | hx
        · exact hsm x (List.mem_of_mem_take hx)
        · rw [List.mem_singleton.mp hx]; exact hnum
      · exact hsm x (List.mem_of_mem_drop hx)
    have eq5 : ((A0.take pl).map V.int ++ [V.int num]) ++ (A0.drop (pl + 1)).map V.int = (A0.take pl ++ [num] ++ A0.drop (pl + 1)).map V.int := by
      rw [List.map_append, List.map_append]; rfl
    rw [eq5] at t5 m7 ⊢
    have eN : upd (upd (upd (upd (upd H2 u1 (.lst ((A0.take pl).map V.int))) u2 (.lst [V.int num])) u3 (.lst ((A0.take pl).map V.int ++ [V.int num]))) u4 (.lst ((A0.drop (pl + 1)).map V.int))) u5 (.lst ((A0.take pl ++ [num] ++ A0.drop (pl + 1)).map V.int)) u5 = some (.lst ((A0.take pl ++ [num] ++ A0.drop (pl + 1)).map V.int)) := upd_same
    generalize upd (upd (upd (upd (upd H2 u1 (.lst ((A0.take pl).map V.int))) u2 (.lst [V.int num])) u3 (.lst ((A0.take pl).map V.int ++ [V.int num]))) u4 (.lst ((A0.drop (pl + 1)).map V.int))) u5 (.lst ((A0.take pl ++ [num] ++ A0.drop (pl + 1)).map V.int)) = H3 at eN m7 ⊢
    generalize A0.take pl ++ [num] ++ A0.drop (pl + 1) = N at hN hN2 eN
    refine ⟨_, rfl, _, rfl, _, rfl, u5, _, rfl, SqL.of eN, fun k1 hk1 => ?_⟩
    rw [cut_hi, split.1]
    refine ⟨_, rfl, _, rfl, _, rfl, u5, _, rfl, SqL.of (same_new hk1 _ _ _ eN), fun k2 hk2 => ?_⟩
    rw [cut_lo, split.2]
    exact two N lead.length k1 k2 H3 m7 hk1 hk2 hN hN2
  · rw [List.length_map] at k8
    have k8 := of_decide_eq_true k8
    refine ⟨_, rfl, ?_⟩
    unfold tNoPart
    refine ⟨_, rfl, _, _, rfl, rfl, _, rfl, st, _, rfl, SqL.of es, fun u1 hu1 => ?_⟩
    rw [show ((pl : Nat) : Int) + 1 = ((pl + 1 : Nat) : Int) by omega, cut_hi, split.1]
    have t1 := same_new hu1 (.lst ((A0.take (pl + 1)).map V.int))
    refine ⟨_, rfl, _, rfl, _, rfl, st, _, rfl, SqL.of (t1 _ _ es), fun u2 hu2 => ?_⟩
    rw [cut_lo, split.2]
    have t2 := same_new hu2 (.lst ((A0.drop pl).map V.int))
    refine ⟨u1, u2, _, _, rfl, rfl, t2 _ _ upd_same, upd_same, le_line (by rw [List.length_map, List.length_map, List.length_take, List.length_drop]; omega), fun u3 hu3 => ?_⟩
    rw [← List.map_append]
    have t3 := same_new hu3 (.lst ((A0.take (pl + 1) ++ A0.drop pl).map V.int))
    have hN : (A0.take (pl + 1) ++ A0.drop pl).length ≤ 400 := by rw [List.length_append, List.length_take, List.length_drop]; omega
    have hN2 : ∀ x ∈ A0.take (pl + 1) ++ A0.drop pl, Sml x := fun x hx => hsm x (by
      rcases List.mem_append.mp hx with hx | hx
      · exact List.mem_of_mem_take hx
      · exact List.mem_of_mem_drop hx)
    have eN : upd (upd (upd H1 u1 (.lst ((A0.take (pl + 1)).map V.int))) u2 (.lst ((A0.drop pl).map V.int))) u3 (.lst ((A0.take (pl + 1) ++ A0.drop pl).map V.int)) u3 = some (.lst ((A0.take (pl + 1) ++ A0.drop pl).map V.int)) := upd_same
    have m3 := (t1.trans t2).trans t3
    generalize upd (upd (upd H1 u1 (.lst ((A0.take (pl + 1)).map V.int))) u2 (.lst ((A0.drop pl).map V.int))) u3 (.lst ((A0.take (pl + 1) ++ A0.drop pl).map V.int)) = H3 at eN m3 ⊢
    generalize A0.take (pl + 1) ++ A0.drop pl = N at hN hN2 eN
    obtain ⟨c, hc⟩ : ∃ c : Nat, ((lead.length : Nat) : Int) + (if decide (((pl : Nat) : Int) < ((lead.length : Nat) : Int)) = true then 1 else 0) = (c : Int) := by
      by_cases h : ((pl : Nat) : Int) < ((lead.length : Nat) : Int)
      · rw [decide_eq_true h, if_pos rfl]; exact ⟨lead.length + 1, by omega⟩
      · rw [decide_eq_false h, if_neg Bool.false_ne_true]; exact ⟨lead.length, by omega⟩
    refine ⟨_, rfl, _, rfl, _, rfl, _, rfl, _, _, rfl, rfl, .inr ⟨_, rfl, _, _, rfl, rfl, _, rfl, u3, _, rfl, SqL.of eN, fun k1 hk1 => ?_⟩⟩
    rw [hc, cut_hi, split.1]
    refine ⟨_, rfl, _, rfl, _, rfl, _, rfl, _, _, rfl, rfl, .inr ⟨_, rfl, _, _, rfl, rfl, _, rfl, u3, _, rfl, SqL.of (same_new hk1 _ _ _ eN), fun k2 hk2 => ?_⟩⟩
    rw [hc, cut_lo, split.2]
    exact two N c k1 k2 H3 m3 hk1 hk2 hN hN2
end
end GM
set_option Elab.async false
set_option linter.all false
set_option maxRecDepth 100000
set_option maxHeartbeats 4000000
set_option pp.maxSteps 150
set_option pp.deepTerms false
namespace GM
open PySem PySem.Spec PyProof.Rows L2
/-! ### _law_right -/
structure Errs (K : PySem.W.Frag) (mg : Str → Option Value) (Cn : Addr) where
  cT : Addr
  cV : Addr
  cD : Addr
  cP : Addr
  cR : Addr
  gT : mg "TreesError" = some (.ref cT)
  gV : mg "BadVertex" = some (.ref cV)
  gD : mg "DeadEnd" = some (.ref cD)
  gP : mg "PlanGap" = some (.ref cP)
  gR : mg "BadRow" = some (.ref cR)
  zV : mg "ValueError" = Option.none
  eT : PySem.W.exmOne K (.ref Cn) (.ref cT) = some true
  eN : PySem.W.exmOne K (.ref Cn) (.ref Cn) = some true
  kN : PySem.W.kitOne K (.ref Cn) (.ref Cn) = some true
  kT : PySem.W.kitOne K (.ref Cn) (.ref cT) = some true
  kE : PySem.W.kitOne K (.ref Cn) (.type "ValueError") = some true
  kV : PySem.W.kitOne K (.ref Cn) (.ref cV) = some false
  kD : PySem.W.kitOne K (.ref Cn) (.ref cD) = some false
  kP : PySem.W.kitOne K (.ref Cn) (.ref cP) = some false
  kR : PySem.W.kitOne K (.ref Cn) (.ref cR) = some false
theorem oVf_non (o : Option Nat) : (!decide (oVf o = V.non)) = o.isSome := by
  cases o with
  | none => rfl
  | some k => rfl
theorem fault_none {n : Nat} {rows : List (List Int)} {lead ring : List Int} (h : faultO n rows lead ring = none) : ring ≠ [] ∧ ∀ z ∈ ring, 0 ≤ z ∧ z < (n : Int) := by
  unfold faultO at h
  cases hf : (List.range (stepsOf lead ring).length).find? (badAt n rows (stepsOf lead ring) (aheadOf lead ring)) with
  | some k => rw [hf] at h; exact nomatch h
  | none =>
    rw [hf] at h
    have hne : ring ≠ [] := fun z => by
      have h2 : (if ring = [] then some lead.length else none) = none := h
      rw [if_pos z] at h2
      exact nomatch h2
    refine ⟨hne, fun z hz => ?_⟩
    obtain ⟨j, hj, ej⟩ := List.getElem_of_mem hz
    have hlt : lead.length + j < (stepsOf lead ring).length := by unfold stepsOf; rw [List.length_append]; omega
    have hb := List.find?_eq_none.mp hf (lead.length + j) (List.mem_range.mpr hlt)
    have e1 : (stepsOf lead ring).getD (lead.length + j) 0 = z := by
      rw [List.getD_eq_getElem?_getD]
      unfold stepsOf
      rw [List.getElem?_append_right (by omega), Nat.add_sub_cancel_left, List.getElem?_eq_getElem hj, ej]; rfl
    have hb2 : badAt n rows (stepsOf lead ring) (aheadOf lead ring) (lead.length + j) = false := Bool.eq_false_iff.mpr hb
    unfold badAt at hb2
    rw [e1] at hb2
    have h2 := (Bool.or_eq_false_iff.mp hb2).1
    have h3 : (decide (0 ≤ z) && decide (z < (n : Int))) = true := by
      cases h4 : (decide (0 ≤ z) && decide (z < (n : Int))) with
      | true => rfl
      | false => rw [h4] at h2; exact nomatch h2
    have h5 := Bool.and_eq_true_iff.mp h3
    exact ⟨of_decide_eq_true h5.1, of_decide_eq_true h5.2⟩
def spRight (C : Addr) : Sp := fun vs H Q _ => ∃ (md g la ra : Addr) (sh : Int) (lead ring : List Int) (os ps : List Int) (rows : List (List Int)) (dx a b c : Addr) (ts : List Addr) (m : Int) (o p sx : Addr) (rs : List Addr), vs = [.ref md, .ref g, .ref la, .ref ra, .int sh] ∧ GameAt C H md os ps rows dx a b c ts m ∧ GraphAt H g os ps rows o p sx rs ∧ Valid os ps rows ∧ os.length ≤ 60 ∧
  H la = some (.lst (lead.map V.int)) ∧ H ra = some (.lst (ring.map V.int)) ∧ lead.length + ring.length ≤ 400 ∧ (∀ x ∈ lead ++ ring, Sml x) ∧ 0 ≤ sh ∧ ∀ H', Same H H' → Q (.bl true) H'
theorem sma_sml {l : List Int} {n : Nat} (h : ∀ x ∈ l, Sml x) (hl : l.length ≤ n) : SmA 0 n (l.map PyData.int) := by
  have e := sma_all (dp := 0) (b := 0) (ds := l.map PyData.int) fun d hd => by
    obtain ⟨x, hx, rfl⟩ := List.mem_map.mp hd
    exact sm_big (Nat.lt_of_lt_of_le (h x hx) (Nat.pow_le_pow_right (by decide) (by decide)))
  refine e.mono (Nat.le_refl _) ?_
  rw [List.length_map]; omega
section
variable {P : Program} {w : World} {K : PySem.W.Frag} {mg : Str → Option Value} {base : Heap} {C Cn fI : Addr} (M : Blt mg) (T : GTxt K mg C) (TN : PySem.NotAPlayX.Txt K mg Cn fI)
include M T TN
theorem ok_right {f : Addr} {fd : FuncData} (F : Fun K "_law_right" "_law_right" s__law_right f fd) (zr : mg "repr" = Option.none) (ER : Errs K mg Cn) (Gwin : KnX P w K mg base 4 "winner_of" ["game", "lead", "ring"] (spWin C Cn)) (G_law_fault : Kn P w K mg base 1 "_law_fault" ["game", "lead", "ring"] spFault)
    (G_law_whole : Kn P w K mg base 1 "_law_whole" ["value"] spWhole) (Gwh : KnH P w K mg base 1 "_law_whole" ["value"] spWholeH) : FnG P w K mg base CX0 5 f fd ["made", "game", "lead", "ring", "shape"] (spRight C) := by
  refine okG F sc__law_right (fun vs H Q E h => ?_) (fun cdv A outer s H vs Q E hgd hr h => ?_)
  · obtain ⟨md, g, la, ra, sh, lead, ring, os, ps, rows, dx, a, b, c, ts, m, o, p, sx, rs, rfl, _⟩ := h
    rfl
  obtain ⟨md, g, la, ra, sh, lead, ring, os, ps, rows, dx, a, b, c, ts, m, o, p, sx, rs, rfl, GM0, G, V0, h60, el, er, hl, hsm, hsh, q⟩ := h
  have hu := hr.units
  have hgd' : (A.deeper (envOfC "_law_right" (defScope s__law_right) s.heap.objs.size f cdv)).guards = some [] := hgd
  have nd := sc__law_right.nd
  refine ⟨_, pss_cons (ps_set (i := 5) nd rfl (.inl rfl) (pe_lst (pa_cons (pe_ix ix_list (pe_lst (pa_cons (pe_callTy call_list_of (by rfl) M.list PyProof.Rows.boot_list (pa_cons (pv 2) pa_nil)) (pa_cons (pe_tupleOf (by rfl) M.tuple (pv 2)) pa_nil))) (pe_op op_mod (pe_callTy call_int1 (by rfl) M.int PyProof.Rows.boot_int (pa_cons (pv 4) pa_nil)) pe_int) (fun _ _ => rfl)) (pa_cons (pe_ix ix_list (pe_lst (pa_cons (pe_callTy call_list_of (by rfl) M.list PyProof.Rows.boot_list (pa_cons (pv 3) pa_nil)) (pa_cons (pe_tupleOf (by rfl) M.tuple (pv 3)) pa_nil))) (pe_op op_mod (pe_op op_fdiv (pe_callTy call_int1 (by rfl) M.int PyProof.Rows.boot_int (pa_cons (pv 4) pa_nil)) pe_int) pe_int) (fun _ _ => rfl)) pa_nil))))
    (pss_cons (ps_set (i := 6) nd rfl (.inl rfl) (pe_callB (cr_repr hgd hu) (by rfl) zr (by decide +kernel) (pa_cons (pv 5) pa_nil)))
    (pss_cons (ps_set (i := 7) nd rfl (.inl rfl) (pe_call G_law_fault.ok (hr.mono (by decide)) (by rfl) G_law_fault.m G_law_fault.kp G_law_fault.b .nil pass0 (pa_cons (pv 1) (pa_cons (pv 2) (pa_cons (pv 3) pa_nil)))))
    (pss_cons (ps_set (i := 8) nd rfl (.inl rfl) pe_bl)
    (C8.pss_cut (L2N.ps_try_as (i := 11) rfl rfl nd rfl rfl ⟨rfl, by decide, .inl ER.gT⟩ takes0N (fun W pn xe tk _ => (pss_one (ps_expr (pe_callS Gwin.ok (hr.mono (by decide)) (by rfl) Gwin.m Gwin.kp Gwin.b (fun σ => L2N.passAt tk σ) (pa_cons (pv 0) (pa_cons (pe_ix (show IxR _ (rIxL K) from ix_list) (pv 5) pe_int (fun _ _ => rfl)) (pa_cons (pe_ix (show IxR _ (rIxL K) from ix_list) (pv 5) pe_int (fun _ _ => rfl)) pa_nil)))))))
    (fun a oe cls d pn hz hf => (pss_one (ps_set (i := 8) nd rfl (.inl rfl) (pe_callB (call_isNotAPlay TN hz.zc hf) (by rfl) M.isinstance boot_isinstance (pa_cons (pv 11) (pa_cons (pe_glob (v := .ref Cn) (by rfl) TN.gC rfl) pa_nil)))))))
    (pss_cons (ps_if (PW.pt (pw_or (pt_cmpR op_ne (pv 8) (pe_cmpR op_notN (pv 7) pe_non (nomark _)) (nomark _)) (pw_or1 (pt_cmpR op_ne (pe_callB (cr_repr hgd hu) (by rfl) zr (by decide +kernel) (pa_cons (pv 5) pa_nil)) (pv 6) (nomark _))))) (pss_one (ps_ret pe_bl)) pss_nil)
    (C8.pss_cut (L2N.ps_try_as (i := 11) rfl rfl nd rfl rfl ⟨rfl, by decide, .inl TN.gC⟩ takes0N (fun W pn xe tk _ => (pss_one (ps_set (i := 9) nd rfl (.inl rfl) (pe_callS Gwin.ok (hr.mono (by decide)) (by rfl) Gwin.m Gwin.kp Gwin.b (fun σ => L2N.passAt tk σ) (pa_cons (pv 0) (pa_cons (pe_ix (show IxR _ (rIxL K) from ix_list) (pv 5) pe_int (fun _ _ => rfl)) (pa_cons (pe_ix (show IxR _ (rIxL K) from ix_list) (pv 5) pe_int (fun _ _ => rfl)) pa_nil)))))))
    (fun a oe cls d pn hz hf => (pss_cons (ps_if (PW.pt (pw_or (pt_val (pe_callB (call_isNotAPlay TN hz.zc hf) (by rfl) M.isinstance boot_isinstance (pa_cons (pv 11) (pa_cons (pe_glob (v := .ref ER.cV) (by rfl) ER.gV rfl) pa_nil)))) (pw_or (pt_val (pe_callB (call_isNotAPlay TN hz.zc hf) (by rfl) M.isinstance boot_isinstance (pa_cons (pv 11) (pa_cons (pe_glob (v := .ref ER.cD) (by rfl) ER.gD rfl) pa_nil)))) (pw_or (pt_val (pe_callB (call_isNotAPlay TN hz.zc hf) (by rfl) M.isinstance boot_isinstance (pa_cons (pv 11) (pa_cons (pe_glob (v := .ref ER.cP) (by rfl) ER.gP rfl) pa_nil)))) (pw_or1 (pt_val (pe_callB (call_isNotAPlay TN hz.zc hf) (by rfl) M.isinstance boot_isinstance (pa_cons (pv 11) (pa_cons (pe_glob (v := .ref ER.cR) (by rfl) ER.gR rfl) pa_nil))))))))) (pss_one (ps_ret pe_bl)) pss_nil)
      (pss_one (ps_ret (pe_and (pe_callB (call_isNotAPlay TN hz.zc hf) (by rfl) M.isinstance boot_isinstance (pa_cons (pv 11) (pa_cons (pe_glob (v := .ref ER.cT) (by rfl) ER.gT rfl) pa_nil))) (pe_and (pe_callB (call_isNotAPlay TN hz.zc hf) (by rfl) M.isinstance boot_isinstance (pa_cons (pv 11) (pa_cons (pe_bltn (v := .ty "ValueError") (by rfl) ER.zV (by decide +kernel) rfl) pa_nil))) (pe_and (pe_cmpR op_notN (pv 7) pe_non (nomark _)) (pe_and (L2H.pe_callH Gwh.ok (L2H.roomH_mark (hr.mono (by decide)) _) (hot_suite hz hf) (by rfl) Gwh.m Gwh.kp Gwh.b (fun _ => passAt0) (pa_cons (pe_byNotAPlay TN hz.zc hf (pv 11)) pa_nil)) (pe_one (pe_cmpR op_eq (pe_byNotAPlay TN hz.zc hf (pv 11)) (pv 7) (nomark _))))))))))))
    (pss_one (ps_ret (pe_and (pe_cmpR op_isN (pv 7) pe_non (nomark _)) (pe_and (pe_call G_law_whole.ok (hr.mono (by decide)) (by rfl) G_law_whole.m G_law_whole.kp G_law_whole.b .nil pass0 (pa_cons (pv 9) pa_nil)) (pe_one (pe_cmpR op_eq (pv 9) (pe_op op_mod (pe_callTy call_int1 (by rfl) M.int PyProof.Rows.boot_int (pa_cons (pe_callB (cr_max rfl) (by rfl) M.max (by decide +kernel) (pa_cons (pe_lc (own := [("v", 10)]) (g := gName 10) (tt := tYes) rfl nd (pi_list (pv 3)) (blkOk_by (N := n__law_right) (sc := defScope s__law_right) (by decide +kernel)) (fun _ _ _ _ _ => pg_name (i := 10) nd rfl (Or.inl rfl)) (fun _ _ _ _ _ => pts_nil) (fun _ _ _ _ _ => (pe_ix (show IxR _ (rIxL K) from ix_list) (pe_ix (show IxR _ (rIxL K) from ix_list) (pv 1) pe_int (fun _ _ => rfl)) (pv 10) (fun _ _ => rfl)))) pa_nil)) pa_nil)) pe_int) (nomark _))))))))))))), ?_⟩
  have l400a : lead.length ≤ 400 := by omega
  have l400b : ring.length ≤ 400 := by omega
  have sma : SmA 0 400 (lead.map PyData.int) := sma_sml (fun x hx => hsm x (List.mem_append_left _ hx)) l400a
  have smb : SmA 0 400 (ring.map PyData.int) := sma_sml (fun x hx => hsm x (List.mem_append_right _ hx)) l400b
  have pick : ∀ {Hx : Hp} {m1 m2 : Addr} {j : Int} {xs : List Int}, Hx m1 = some (.lst (xs.map V.int)) → Hx m2 = some (.tup (xs.map V.int)) → SmA 0 400 (xs.map PyData.int) → 0 ≤ j → j < 2 → ∃ (u : Addr) (D : PyData), atI [V.ref m1, V.ref m2] j = some (.ref u) ∧ SqV Hx u (xs.map V.int) ∧ Dp K Hx (.ref u) D ∧ Sm 1 400 D := by
    intro Hx m1 m2 j xs e1 e2 sm j0 j1
    rcases (show j = 0 ∨ j = 1 by omega) with rfl | rfl
    · exact ⟨m1, _, rfl, .inl e1, .lst (SqL.of e1) (dp_ints _), sm_lst sm⟩
    · exact ⟨m2, _, rfl, .inr e2, .tup (sqT e2) (dp_ints _), sm_tup sm⟩
  refine ⟨_, rfl, la, _, rfl, .inl (SqL.of el), fun m1 hm1 => ?_⟩
  have t1 := same_new hm1 (.lst (lead.map V.int))
  refine ⟨_, rfl, .inl ⟨la, _, rfl, SqL.of (t1 _ _ el), fun m2 hm2 => ⟨le_line (n := 2) (by decide), fun m3 hm3 => ?_⟩⟩⟩
  have t2 := same_new hm2 (.tup (lead.map V.int))
  have t3 := same_new hm3 (.lst [.ref m1, .ref m2])
  have em1 := t3 _ _ (t2 _ _ (upd_same (H := H) (a := m1) (o := .lst (lead.map V.int))))
  have em2 := t3 _ _ (upd_same (H := upd H m1 (.lst (lead.map V.int))) (a := m2) (o := .tup (lead.map V.int)))
  have em3 : upd (upd (upd H m1 (.lst (lead.map V.int))) m2 (.tup (lead.map V.int))) m3 (.lst [.ref m1, .ref m2]) m3 = some (.lst [.ref m1, .ref m2]) := upd_same
  have s3 := (t1.trans t2).trans t3
  generalize upd (upd (upd H m1 (.lst (lead.map V.int))) m2 (.tup (lead.map V.int))) m3 (.lst [.ref m1, .ref m2]) = H3 at em1 em2 em3 s3 ⊢
  clear t1 t2 t3
  obtain ⟨u0, D0, ea0, su0, du0, sm0⟩ := pick (j := sh % 2) em1 em2 sma (Int.emod_nonneg _ (by decide)) (Int.emod_lt_of_pos _ (by decide))
  refine ⟨_, rfl, .inl ⟨_, rfl, _, _, rfl, rfl, (by show (0 : Int) < 2; decide), m3, _, _, _, rfl, rfl, SqL.of em3, ea0, ?_⟩⟩
  refine ⟨_, rfl, ra, _, rfl, .inl (SqL.of (s3 _ _ er)), fun m4 hm4 => ?_⟩
  have t4 := same_new hm4 (.lst (ring.map V.int))
  refine ⟨_, rfl, .inl ⟨ra, _, rfl, SqL.of (t4 _ _ (s3 _ _ er)), fun m5 hm5 => ⟨le_line (n := 2) (by decide), fun m6 hm6 => ?_⟩⟩⟩
  have t5 := same_new hm5 (.tup (ring.map V.int))
  have t6 := same_new hm6 (.lst [.ref m4, .ref m5])
  have em4 := t6 _ _ (t5 _ _ (upd_same (H := H3) (a := m4) (o := .lst (ring.map V.int))))
  have em5 := t6 _ _ (upd_same (H := upd H3 m4 (.lst (ring.map V.int))) (a := m5) (o := .tup (ring.map V.int)))
  have em6 : upd (upd (upd H3 m4 (.lst (ring.map V.int))) m5 (.tup (ring.map V.int))) m6 (.lst [.ref m4, .ref m5]) m6 = some (.lst [.ref m4, .ref m5]) := upd_same
  have s6 := (t4.trans t5).trans t6
  generalize upd (upd (upd H3 m4 (.lst (ring.map V.int))) m5 (.tup (ring.map V.int))) m6 (.lst [.ref m4, .ref m5]) = H6 at em4 em5 em6 s6 ⊢
  clear t4 t5 t6 em1 em2 em3
  obtain ⟨u1, D1, ea1, su1, du1, sm1⟩ := pick (j := sh / 2 % 2) em4 em5 smb (Int.emod_nonneg _ (by decide)) (Int.emod_lt_of_pos _ (by decide))
  refine ⟨_, rfl, .inl ⟨_, rfl, _, _, rfl, rfl, ⟨by decide, by decide⟩, _, _, rfl, rfl, (by show (0 : Int) < 2; decide), m6, _, _, _, rfl, rfl, SqL.of em6, ea1, le_line (n := 2) (by decide), fun PA hPA => ?_⟩⟩
  have t7 := same_new hPA (.lst [.ref u0, .ref u1])
  have ePA : upd H6 PA (.lst [.ref u0, .ref u1]) PA = some (.lst [.ref u0, .ref u1]) := upd_same
  have m7 := (s3.trans s6).trans t7
  have xu0 := su0.same (s6.trans t7)
  have xu1 := su1.same t7
  have dPA : Dp K (upd H6 PA (.lst [.ref u0, .ref u1])) (.ref PA) (.list [D0, D1]) := .lst (SqL.of ePA) (.cons (dp_same (s6.trans t7) du0) (.cons (dp_same t7 du1) .nil))
  have smP : Sm 2 2000 (.list [D0, D1]) := (sm_lst (sma_cons sm0 (sma_cons sm1 (sma_nil.mono (Nat.zero_le _) (Nat.le_refl _))))).mono (Nat.le_refl _) (by decide)
  generalize upd H6 PA (.lst [.ref u0, .ref u1]) = H7 at t7 ePA m7 xu0 xu1 dPA ⊢
  clear t7 em4 em5 em6 s3 s6 ea0 ea1 su0 su1 du0 du1
  refine ⟨_, rfl, PA, _, rfl, dPA, smP.sh, smP.nd, Nat.le_trans smP.dep (by decide), smP.len (by decide), ?_⟩
  refine ⟨_, rfl, _, rfl, _, rfl, g, la, ra, lead, ring, os, ps, rows, o, p, sx, rs, rfl, G.same m7, V0, h60, m7 _ _ el, m7 _ _ er, by omega, fun H8 s8 => ?_⟩
  have m8 := m7.trans s8
  refine ⟨fun σ H' => Same H8 H' ∧ σ = [some (.ref md), some (.ref g), some (.ref la), some (.ref ra), some (.int sh), some (.ref PA), some (.str (PyData.shown (.list [D0, D1]))), some (oVf (faultO os.length rows lead ring)), some (.bl (faultO os.length rows lead ring).isSome), Option.none, Option.none, Option.none], ?_, ?_⟩
  · refine ⟨_, rfl, _, rfl, PA, _, 0, .ref u0, rfl, rfl, SqL.of (s8 _ _ ePA), rfl, _, rfl, PA, _, 1, .ref u1, rfl, rfl, SqL.of (s8 _ _ ePA), rfl, md, u0, u1, lead, ring, os, ps, rows, dx, a, b, c, ts, m, rfl, GM0.same m8, V0, h60, xu0.same s8, xu1.same s8, by omega, fun k ek d H9 s9 ed => ?_, fun en t H9 s9 _ _ => ?_⟩
    · refine ⟨true, ER.eT, fun _ e0 he0 => ?_, fun z => nomatch z⟩
      refine ⟨_, rfl, _, .ref Cn, true, d, _, rfl, rfl, rfl, ed, fun u hu => hu, ER.kN, ?_⟩
      rw [ek]
      exact ⟨s9, rfl⟩
    · rw [en]
      exact ⟨s9, rfl⟩
  · rintro σ H9 ⟨s9, rfl⟩
    have dPA9 := dp_same (s8.trans s9) dPA
    refine ⟨_, rfl, _, rfl, rfl, rfl, _, rfl, ?_⟩
    rw [oVf_non, decide_eq_true rfl]
    refine iteF ⟨_, rfl, PA, _, rfl, dPA9, smP.sh, smP.nd, Nat.le_trans smP.dep (by decide), smP.len (by decide), _, rfl, rfl, _, rfl, ?_⟩
    rw [decide_eq_true rfl]
    refine iteF ?_
    have m9 := m8.trans s9
    have ePA9 := s9 _ _ (s8 _ _ ePA)
    refine ⟨fun σ H' => Same H9 H' ∧ faultO os.length rows lead ring = Option.none ∧ ∃ t : Int, t ∈ prios ps ring ∧ (∀ y ∈ prios ps ring, y ≤ t) ∧ σ = [some (.ref md), some (.ref g), some (.ref la), some (.ref ra), some (.int sh), some (.ref PA), some (.str (PyData.shown (.list [D0, D1]))), some (oVf (faultO os.length rows lead ring)), some (.bl (faultO os.length rows lead ring).isSome), some (.int (t % 2)), Option.none, Option.none], ?_, ?_⟩
    · refine ⟨_, rfl, _, rfl, PA, _, 0, .ref u0, rfl, rfl, SqL.of ePA9, rfl, _, rfl, PA, _, 1, .ref u1, rfl, rfl, SqL.of ePA9, rfl, md, u0, u1, lead, ring, os, ps, rows, dx, a, b, c, ts, m, rfl, GM0.same m9, V0, h60, (xu0.same s8).same s9, (xu1.same s8).same s9, by omega, fun k ek d H10 s10 ed => ?_, fun en t H10 s10 ht hmax => ⟨s10, en, t, ht, hmax, rfl⟩⟩
      refine ⟨true, ER.eN, fun _ e0 he0 => ?_, fun z => nomatch z⟩
      rw [ek]
      refine ⟨_, rfl, _, .ref ER.cV, false, d, _, rfl, rfl, rfl, ed, fun u hu => hu, ER.kV, _, rfl, iteF ?_⟩
      refine ⟨_, rfl, _, .ref ER.cD, false, d, _, rfl, rfl, rfl, ed, fun u hu => hu, ER.kD, _, rfl, iteF ?_⟩
      refine ⟨_, rfl, _, .ref ER.cP, false, d, _, rfl, rfl, rfl, ed, fun u hu => hu, ER.kP, _, rfl, iteF ?_⟩
      refine ⟨_, rfl, _, .ref ER.cR, false, d, _, rfl, rfl, rfl, ed, fun u hu => hu, ER.kR, _, rfl, iteF ?_⟩
      refine ⟨_, rfl, _, .ref ER.cT, true, d, _, rfl, rfl, rfl, ed, fun u hu => hu, ER.kT, _, rfl, iteT ?_⟩
      refine ⟨_, rfl, _, .type "ValueError", true, d, _, rfl, rfl, rfl, ed, fun u hu => hu, ER.kE, _, rfl, iteT ?_⟩
      refine ⟨_, rfl, rfl, _, rfl, ?_⟩
      rw [oVf_non]
      refine iteT ⟨_, rfl, rfl, rfl, d, _, rfl, ed, (k : Int), rfl, _, rfl, iteT ?_⟩
      refine ⟨_, rfl, rfl, rfl, d, _, rfl, ed, _, rfl, rfl, ?_⟩
      have e1 : decide (V.int ((k : Nat) : Int) = oVf (some k)) = true := decide_eq_true rfl
      rw [e1]
      exact q _ (m9.trans s10)
    · rintro σ H10 ⟨s10, en, t, ht, hmax, rfl⟩
      rw [en]
      have m10 := m9.trans s10
      refine ⟨_, rfl, rfl, _, rfl, ?_⟩
      obtain ⟨rne, inr⟩ := fault_none en
      have e0 : decide (oVf Option.none = V.non) = true := decide_eq_true rfl
      rw [e0]
      have G10 := G.same m10
      have er10 := m10 _ _ er
      refine iteT ⟨_, rfl, t % 2, rfl, _, rfl, iteT ⟨_, rfl, _, rfl, ra, rfl, ⟨_, SqL.of er10⟩, fun D hD => ?_⟩⟩
      refine lc_mapI (fun v => ps.getD v.toNat 0) (by omega) (SqL.of er10) hD (fun i z H11 k nn hz s11 hk => ⟨rfl, tYI ?_⟩) (fun H11 s11 eD => ?_)
      · have h3 := inr z (List.mem_of_getElem? hz)
        have ep : ps[z.toNat]? = some (ps.getD z.toNat 0) := gd_at (by rw [V0.l1]; omega)
        have G11 := G10.same s11
        exact ⟨_, rfl, g, _, 1, .ref p, rfl, rfl, SqL.of G11.g0, rfl, _, rfl, p, _, _, _, rfl, rfl, SqL.of G11.p0, (by rw [show z = ((z.toNat : Nat) : Int) by omega]; exact atI_nat (at_map (by rw [Int.toNat_natCast]; exact ep))), hk⟩
      · refine ⟨D, prios ps ring, rfl, SqL.of eD, ?_, fun mx h1 h2 => .inl ⟨_, rfl, _, _, rfl, rfl, (by show (0 : Int) < 2; decide), rfl, ?_⟩⟩
        · unfold prios
          rw [List.length_map]; exact List.length_pos_iff.mpr rne
        · have e2 : mx = t := Int.le_antisymm (hmax mx h1) (h2 t ht)
          rw [e2, decide_eq_true rfl]
          exact q _ (m10.trans s11)
end
end GM
set_option Elab.async false
set_option linter.all false
set_option maxRecDepth 100000
set_option maxHeartbeats 4000000
set_option pp.maxSteps 150
set_option pp.deepTerms false
namespace GM
open PySem PySem.Spec PyProof.Rows L2
/-! ### law -/
theorem pr_of {α β : Type} {R : α → β → Prop} : ∀ {as : List α} {bs : List β}, as.length = bs.length → (∀ (i : Nat) a b, as[i]? = some a → bs[i]? = some b → R a b) → Paired R as bs
  | [], [], _, _ => .nil
  | [], _ :: _, h, _ => by simp at h
  | _ :: _, [], h, _ => by simp at h
  | a :: as, b :: bs, h, f => .cons (f 0 a b rfl rfl) (pr_of (by simpa using h) fun i x y h1 h2 => f (i + 1) x y (by simpa using h1) (by simpa using h2))
/-- how a game is made -/
structure KG (P : Program) (w : World) (K : PySem.W.Frag) (mg : Str → Option Value) (base : Heap) (C : Addr) where
  f : Addr
  fd : FuncData
  cm : Mk K C f
  ok : FnOk P w K mg base CX0 4 f fd ["self", "owners", "priorities", "successors"] (spInit C)
  b : Binds K fd ["self", "owners", "priorities", "successors"] []
/-- two sequences stand at pl -/
def PlayIn (H : Hp) (pl : Addr) (lead ring : List Int) : Prop := ∃ la ra, H pl = some (.lst [.ref la, .ref ra]) ∧ H la = some (.lst (lead.map V.int)) ∧ H ra = some (.lst (ring.map V.int))
theorem PlayIn.same {H H' : Hp} {pl : Addr} {lead ring : List Int} (h : PlayIn H pl lead ring) (s : Same H H') : PlayIn H' pl lead ring :=
  let ⟨la, ra, e1, e2, e3⟩ := h; ⟨la, ra, s _ _ e1, s _ _ e2, s _ _ e3⟩
theorem sml_of {l : List Int} {n : Nat} (h : ∀ x ∈ l, 0 ≤ x ∧ x < (n : Int)) (hn : n ≤ 60) : ∀ x ∈ l, Sml x := fun x hx => by
  have := h x hx
  unfold Sml
  have p13 : (10 : Nat) ^ 13 = 10000000000000 := by decide
  omega
def spLaw (K : PySem.W.Frag) : Sp := fun vs H Q _ => ∃ (a : Addr) (ns : List Int), vs = [.ref a] ∧ SqL K H a (ns.map V.int) ∧ ns.length ≤ 63 ∧ ∀ H', Q (.bl true) H'
theorem fault_prios {n : Nat} {rows : List (List Int)} {lead ring : List Int} : faultO n rows lead ring = faultO n rows lead ring := rfl
section
variable {P : Program} {w : World} {K : PySem.W.Frag} {mg : Str → Option Value} {base : Heap} {C Cn fI : Addr} (M : Blt mg) (T : GTxt K mg C) (TN : PySem.NotAPlayX.Txt K mg Cn fI)
include M T TN
theorem ok_law {f : Addr} {fd : FuncData} (F : Fun K "law" "law" s_law f fd) (GG : KG P w K mg base C) (G_law_cell : Kn P w K mg base 1 "_law_cell" ["script", "k"] (spCell K)) (G_law_digits : Kn P w K mg base 1 "_law_digits" ["cell", "sizes"] (spDigits K))
    (G_law_graph : Kn P w K mg base 2 "_law_graph" ["script", "at", "count", "top"] (spGraph K)) (G_law_play : Kn P w K mg base 2 "_law_play" ["game", "cell"] spPlay) (G_law_long_play : Kn P w K mg base 2 "_law_long_play" ["game", "cell", "many", "kind"] spLong)
    (G_law_fault : Kn P w K mg base 1 "_law_fault" ["game", "lead", "ring"] spFault) (G_law_edited : Kn P w K mg base 1 "_law_edited" ["game", "lead", "ring", "row"] spEdited) (G_law_whole : Kn P w K mg base 1 "_law_whole" ["value"] spWhole)
    (G_law_right : KnG P w K mg base 5 "_law_right" ["made", "game", "lead", "ring", "shape"] (spRight C)) : FnG P w K mg base CX0 6 f fd ["script"] (spLaw K) := by
  refine okG F sc_law (fun vs H Q E h => ?_) (fun cdv A outer s H vs Q E hgd hr h => ?_)
  · obtain ⟨a, ns, rfl, _⟩ := h
    rfl
  obtain ⟨a, ns, rfl, hS, hl, q⟩ := h
  have hu := hr.units
  have nd := sc_law.nd
  refine ⟨_, pss_cons (ps_set (i := 1) nd rfl (.inl rfl) (pe_call G_law_digits.ok (hr.mono (by decide)) (by rfl) G_law_digits.m G_law_digits.kp G_law_digits.b .nil pass0 (pa_cons (pe_call G_law_cell.ok (hr.mono (by decide)) (by rfl) G_law_cell.m G_law_cell.kp G_law_cell.b .nil pass0 (pa_cons (pv 0) (pa_cons pe_int pa_nil))) (pa_cons (pe_lst (pa_cons pe_int (pa_cons pe_int (pa_cons pe_int (pa_cons pe_int (pa_cons pe_int (pa_cons pe_int (pa_cons pe_int (pa_cons pe_int pa_nil))))))))) pa_nil))))
    (pss_cons (ps_set (i := 2) nd rfl (.inl rfl) (pe_op op_add pe_int (pe_ix ix_list (pe_lst (pa_cons (pe_ix ix_list (pv 1) pe_int (fun _ _ => rfl)) (pa_cons (pe_op op_add pe_int (pe_ix ix_list (pv 1) pe_int (fun _ _ => rfl))) pa_nil))) (pe_ix ix_list (pv 1) pe_int (fun _ _ => rfl)) (fun _ _ => rfl))))
    (C8.pss_cut (ps_if (pt_cmpR op_eq (pe_ix ix_list (pv 1) pe_int (fun _ _ => rfl)) pe_int (nomark _)) (pss_one (ps_set (i := 2) nd rfl (.inl rfl) (pe_op op_add pe_int (pe_ix ix_list (pv 1) pe_int (fun _ _ => rfl))))) pss_nil)
    (pss_cons (ps_set (i := 3) nd rfl (.inl rfl) (pe_call G_law_graph.ok (hr.mono (by decide)) (by rfl) G_law_graph.m G_law_graph.kp G_law_graph.b .nil pass0 (pa_cons (pv 0) (pa_cons pe_int (pa_cons (pv 2) (pa_cons pe_int pa_nil))))))
    (pss_cons (ps_set (i := 4) nd rfl (.inl rfl) (pe_make GG.cm GG.ok (hr.mono (by decide)) (by rfl) T.mgC GG.b .nil pass0 (pa_cons (pe_callTy call_list_of (by rfl) M.list PyProof.Rows.boot_list (pa_cons (pe_ix ix_list (pv 3) pe_int (fun _ _ => rfl)) pa_nil)) (pa_cons (pe_callTy call_list_of (by rfl) M.list PyProof.Rows.boot_list (pa_cons (pe_ix ix_list (pv 3) pe_int (fun _ _ => rfl)) pa_nil)) (pa_cons (pe_lc (own := [("row", 15)]) (g := gName 15) (tt := tYes) rfl nd (pi_list (pe_ix ix_list (pv 3) pe_int (fun _ _ => rfl))) (blkOk_by (N := n_law) (sc := defScope s_law) (by decide +kernel)) (fun _ _ _ _ _ => pg_name (i := 15) nd rfl (Or.inl rfl)) (fun _ _ _ _ _ => pts_nil) (fun _ _ _ _ _ => (pe_callTy (show CallR _ (.type "list") (rLst K) from call_list_of) (by rfl) M.list PyProof.Rows.boot_list (pa_cons (pv 15) pa_nil)))) pa_nil)))))
    (pss_cons (ps_set (i := 5) nd rfl (.inl rfl) (pe_lst (pa_cons (pe_ix ix_list (pv 3) pe_int (fun _ _ => rfl)) (pa_cons (pe_lc (own := [("level", 16)]) (g := gName 16) (tt := tYes) rfl nd (pi_list (pe_ix ix_list (pv 3) pe_int (fun _ _ => rfl))) (blkOk_by (N := n_law) (sc := defScope s_law) (by decide +kernel)) (fun _ _ _ _ _ => pg_name (i := 16) nd rfl (Or.inl rfl)) (fun _ _ _ _ _ => pts_nil) (fun _ _ _ _ _ => (pe_op op_add (pv 16) pe_int))) (pa_cons (pe_ix ix_list (pv 3) pe_int (fun _ _ => rfl)) pa_nil)))))
    (pss_cons (ps_set (i := 6) nd rfl (.inl rfl) (pe_make GG.cm GG.ok (hr.mono (by decide)) (by rfl) T.mgC GG.b .nil pass0 (pa_cons (pe_callTy call_list_of (by rfl) M.list PyProof.Rows.boot_list (pa_cons (pe_ix ix_list (pv 5) pe_int (fun _ _ => rfl)) pa_nil)) (pa_cons (pe_callTy call_list_of (by rfl) M.list PyProof.Rows.boot_list (pa_cons (pe_ix ix_list (pv 5) pe_int (fun _ _ => rfl)) pa_nil)) (pa_cons (pe_lc (own := [("row", 15)]) (g := gName 15) (tt := tYes) rfl nd (pi_list (pe_ix ix_list (pv 3) pe_int (fun _ _ => rfl))) (blkOk_by (N := n_law) (sc := defScope s_law) (by decide +kernel)) (fun _ _ _ _ _ => pg_name (i := 15) nd rfl (Or.inl rfl)) (fun _ _ _ _ _ => pts_nil) (fun _ _ _ _ _ => (pe_callTy (show CallR _ (.type "list") (rLst K) from call_list_of) (by rfl) M.list PyProof.Rows.boot_list (pa_cons (pv 15) pa_nil)))) pa_nil)))))
    (pss_cons (ps_set (i := 7) nd rfl (.inl rfl) (pe_call G_law_play.ok (hr.mono (by decide)) (by rfl) G_law_play.m G_law_play.kp G_law_play.b .nil pass0 (pa_cons (pv 3) (pa_cons (pe_call G_law_cell.ok (hr.mono (by decide)) (by rfl) G_law_cell.m G_law_cell.kp G_law_cell.b .nil pass0 (pa_cons (pv 0) (pa_cons pe_int pa_nil))) pa_nil))))
    (pss_cons (ps_set (i := 8) nd rfl (.inl rfl) (pe_call G_law_digits.ok (hr.mono (by decide)) (by rfl) G_law_digits.m G_law_digits.kp G_law_digits.b .nil pass0 (pa_cons (pe_call G_law_cell.ok (hr.mono (by decide)) (by rfl) G_law_cell.m G_law_cell.kp G_law_cell.b .nil pass0 (pa_cons (pv 0) (pa_cons pe_int pa_nil))) (pa_cons (pe_lst (pa_cons pe_int (pa_cons pe_int (pa_cons pe_int (pa_cons pe_int pa_nil))))) pa_nil))))
    (C8.pss_cut (ps_if (pt_cmpR op_eq (pe_ix ix_list (pv 8) pe_int (fun _ _ => rfl)) pe_int (nomark _)) (pss_one (ps_set (i := 7) nd rfl (.inl rfl) (pe_call G_law_long_play.ok (hr.mono (by decide)) (by rfl) G_law_long_play.m G_law_long_play.kp G_law_long_play.b .nil pass0 (pa_cons (pv 3) (pa_cons (pe_call G_law_cell.ok (hr.mono (by decide)) (by rfl) G_law_cell.m G_law_cell.kp G_law_cell.b .nil pass0 (pa_cons (pv 0) (pa_cons pe_int pa_nil))) (pa_cons (pe_ix ix_list (pe_lst (pa_cons pe_int (pa_cons pe_int (pa_cons pe_int (pa_cons (pe_op op_add pe_int (pe_ix ix_list (pv 8) pe_int (fun _ _ => rfl))) pa_nil))))) (pe_ix ix_list (pv 8) pe_int (fun _ _ => rfl)) (fun _ _ => rfl)) (pa_cons (pe_ix ix_list (pv 8) pe_int (fun _ _ => rfl)) pa_nil))))))) pss_nil)
    (pss_cons (ps_if (PW.pt (pw_or (pt_cmpR op_notN (pe_call G_law_fault.ok (hr.mono (by decide)) (by rfl) G_law_fault.m G_law_fault.kp G_law_fault.b .nil pass0 (pa_cons (pv 3) (pa_cons (pe_ix ix_list (pv 7) pe_int (fun _ _ => rfl)) (pa_cons (pe_ix ix_list (pv 7) pe_int (fun _ _ => rfl)) pa_nil)))) pe_non (nomark _)) (pw_or1 (pt_not (pt_val (pe_callG G_law_right.ok hgd (hr.mono (by decide)) (by rfl) G_law_right.m G_law_right.kp G_law_right.b pass0 (pa_cons (pv 4) (pa_cons (pv 3) (pa_cons (pe_ix ix_list (pv 7) pe_int (fun _ _ => rfl)) (pa_cons (pe_ix ix_list (pv 7) pe_int (fun _ _ => rfl)) (pa_cons (pe_ix ix_list (pv 1) pe_int (fun _ _ => rfl)) pa_nil))))))))))) (pss_one (ps_ret pe_bl)) pss_nil)
    (pss_cons (ps_set (i := 9) nd rfl (.inl rfl) (pe_call G_law_play.ok (hr.mono (by decide)) (by rfl) G_law_play.m G_law_play.kp G_law_play.b .nil pass0 (pa_cons (pv 3) (pa_cons (pe_call G_law_cell.ok (hr.mono (by decide)) (by rfl) G_law_cell.m G_law_cell.kp G_law_cell.b .nil pass0 (pa_cons (pv 0) (pa_cons pe_int pa_nil))) pa_nil))))
    (pss_cons (ps_if (PW.pt (pw_or (pt_not (pt_val (pe_callG G_law_right.ok hgd (hr.mono (by decide)) (by rfl) G_law_right.m G_law_right.kp G_law_right.b pass0 (pa_cons (pv 6) (pa_cons (pv 5) (pa_cons (pe_ix ix_list (pv 7) pe_int (fun _ _ => rfl)) (pa_cons (pe_ix ix_list (pv 7) pe_int (fun _ _ => rfl)) (pa_cons (pe_ix ix_list (pv 1) pe_int (fun _ _ => rfl)) pa_nil)))))))) (pw_or1 (pt_not (pt_val (pe_callG G_law_right.ok hgd (hr.mono (by decide)) (by rfl) G_law_right.m G_law_right.kp G_law_right.b pass0 (pa_cons (pv 4) (pa_cons (pv 3) (pa_cons (pe_ix ix_list (pv 9) pe_int (fun _ _ => rfl)) (pa_cons (pe_ix ix_list (pv 9) pe_int (fun _ _ => rfl)) (pa_cons (pe_ix ix_list (pv 1) pe_int (fun _ _ => rfl)) pa_nil))))))))))) (pss_one (ps_ret pe_bl)) pss_nil)
    (pss_cons (ps_set (i := 10) nd rfl (.inl rfl) (pv 7))
    (pss_cons (ps_for PassesOwn.never rfl (pi_range1 rfl M.range (pa_cons (pe_op op_add pe_int (pe_ix ix_list (pv 1) pe_int (fun _ _ => rfl))) pa_nil)) (pg_name (i := 11) nd rfl (.inl rfl)) (pss_cons (ps_set (i := 10) nd rfl (.inl rfl) (pe_call G_law_edited.ok (hr.mono (by decide)) (by rfl) G_law_edited.m G_law_edited.kp G_law_edited.b .nil pass0 (pa_cons (pv 3) (pa_cons (pe_ix ix_list (pv 10) pe_int (fun _ _ => rfl)) (pa_cons (pe_ix ix_list (pv 10) pe_int (fun _ _ => rfl)) (pa_cons (pe_call G_law_digits.ok (hr.mono (by decide)) (by rfl) G_law_digits.m G_law_digits.kp G_law_digits.b .nil pass0 (pa_cons (pe_call G_law_cell.ok (hr.mono (by decide)) (by rfl) G_law_cell.m G_law_cell.kp G_law_cell.b .nil pass0 (pa_cons (pv 0) (pa_cons (pe_op op_add pe_int (pv 11)) pa_nil))) (pa_cons (pe_lst (pa_cons pe_int (pa_cons (pe_ix ix_list (pe_lst (pa_cons pe_int (pa_cons pe_int pa_nil))) (pe_callTy call_int1 (by rfl) M.int PyProof.Rows.boot_int (pa_cons (pe_cmpR op_gt (pe_ix ix_list (pv 8) pe_int (fun _ _ => rfl)) pe_int (nomark _)) pa_nil)) (fun _ _ => rfl)) (pa_cons pe_int pa_nil)))) pa_nil))) pa_nil))))))
      (pss_one (ps_if (pt_not (pt_val (pe_callG G_law_right.ok hgd (hr.mono (by decide)) (by rfl) G_law_right.m G_law_right.kp G_law_right.b pass0 (pa_cons (pv 4) (pa_cons (pv 3) (pa_cons (pe_ix ix_list (pv 10) pe_int (fun _ _ => rfl)) (pa_cons (pe_ix ix_list (pv 10) pe_int (fun _ _ => rfl)) (pa_cons (pe_op op_add (pe_ix ix_list (pv 1) pe_int (fun _ _ => rfl)) (pv 11)) pa_nil)))))))) (pss_one (ps_ret pe_bl)) pss_nil))))
    (pss_cons (ps_set (i := 12) nd rfl (.inl rfl) (pe_make GG.cm GG.ok (hr.mono (by decide)) (by rfl) T.mgC GG.b .nil pass0 (pa_cons (pe_lst pa_nil) (pa_cons (pe_lst pa_nil) (pa_cons (pe_lst pa_nil) pa_nil)))))
    (pss_cons (ps_if (PW.pt (pw_or (pt_not (pt_val (pe_callG G_law_right.ok hgd (hr.mono (by decide)) (by rfl) G_law_right.m G_law_right.kp G_law_right.b pass0 (pa_cons (pv 12) (pa_cons (pe_lst (pa_cons (pe_lst pa_nil) (pa_cons (pe_lst pa_nil) (pa_cons (pe_lst pa_nil) pa_nil)))) (pa_cons (pe_ix ix_list (pv 7) pe_int (fun _ _ => rfl)) (pa_cons (pe_ix ix_list (pv 7) pe_int (fun _ _ => rfl)) (pa_cons (pe_ix ix_list (pv 1) pe_int (fun _ _ => rfl)) pa_nil)))))))) (pw_or1 (pt_not (pt_val (pe_callG G_law_right.ok hgd (hr.mono (by decide)) (by rfl) G_law_right.m G_law_right.kp G_law_right.b pass0 (pa_cons (pv 12) (pa_cons (pe_lst (pa_cons (pe_lst pa_nil) (pa_cons (pe_lst pa_nil) (pa_cons (pe_lst pa_nil) pa_nil)))) (pa_cons (pe_lst pa_nil) (pa_cons (pe_lst pa_nil) (pa_cons (pe_ix ix_list (pv 1) pe_int (fun _ _ => rfl)) pa_nil))))))))))) (pss_one (ps_ret pe_bl)) pss_nil)
    (pss_cons (ps_set (i := 13) nd rfl (.inl rfl) (pe_tupleOf (by rfl) M.tuple (pe_lc (own := [("row", 15)]) (g := gName 15) (tt := tYes) rfl nd (pi_list (pe_ix ix_list (pv 3) pe_int (fun _ _ => rfl))) (blkOk_by (N := n_law) (sc := defScope s_law) (by decide +kernel)) (fun _ _ _ _ _ => pg_name (i := 15) nd rfl (Or.inl rfl)) (fun _ _ _ _ _ => pts_nil) (fun _ _ _ _ _ => (show PE _ _ (tThen _ (kTup K)) from pe_tupleOf (by rfl) M.tuple (pv 15))))))
    (pss_cons (ps_if (pt_cmpR (op_neD hu) (pe_tup (pa_cons (pe_fld (pv 4) rfl) (pa_cons (pe_fld (pv 4) rfl) (pa_cons (pe_fld (pv 4) rfl) pa_nil)))) (pe_tup (pa_cons (pe_tupleOf (by rfl) M.tuple (pe_ix ix_list (pv 3) pe_int (fun _ _ => rfl))) (pa_cons (pe_tupleOf (by rfl) M.tuple (pe_ix ix_list (pv 3) pe_int (fun _ _ => rfl))) (pa_cons (pv 13) pa_nil)))) (nomark _)) (pss_one (ps_ret pe_bl)) pss_nil)
    (pss_cons (ps_set (i := 14) nd rfl (.inl rfl) (pe_newNotAPlay TN hr (pa_cons (pe_ix ix_list (pv 1) pe_int (fun _ _ => rfl)) pa_nil)))
    (pss_cons (ps_if (PW.pt (pw_or (pt_not (pt_val (pe_call G_law_whole.ok (hr.mono (by decide)) (by rfl) G_law_whole.m G_law_whole.kp G_law_whole.b .nil pass0 (pa_cons (pe_xfNotAPlay TN (pv 14)) pa_nil)))) (pw_or1 (pt_cmpR op_ne (pe_xfNotAPlay TN (pv 14)) (pe_ix ix_list (pv 1) pe_int (fun _ _ => rfl)) (nomark _))))) (pss_one (ps_ret pe_bl)) pss_nil)
    (pss_one (ps_ret (pe_callG G_law_right.ok hgd (hr.mono (by decide)) (by rfl) G_law_right.m G_law_right.kp G_law_right.b pass0 (pa_cons (pv 4) (pa_cons (pv 3) (pa_cons (pe_ix ix_list (pv 7) pe_int (fun _ _ => rfl)) (pa_cons (pe_ix ix_list (pv 7) pe_int (fun _ _ => rfl)) (pa_cons (pe_ix ix_list (pv 1) pe_int (fun _ _ => rfl)) pa_nil)))))))))))))))))))))))))))), ?_⟩
  refine ⟨_, rfl, a, ns, 0, rfl, hS, hl, by decide, fun z0 => ⟨le_line (n := 8) (by decide), fun l0 hl0 => ⟨z0, l0, [2, 8, 4, 4, 3, 4, 9, 40], rfl, SqL.of upd_same, by decide, by decide, fun p0 ds0 H1 s1 hp0 ep0 hd0 => ?_⟩⟩⟩
  have sm1 : Same H H1 := (same_new hl0 _).trans s1
  obtain ⟨d0, r0, rfl, b0, hd0⟩ := hd0.cons
  obtain ⟨d1, r1, rfl, b1, hd0⟩ := hd0.cons
  obtain ⟨d2, r2, rfl, b2, hd0⟩ := hd0.cons
  obtain ⟨d3, r3, rfl, b3, hd0⟩ := hd0.cons
  obtain ⟨d4, r4, rfl, b4, hd0⟩ := hd0.cons
  obtain ⟨d5, r5, rfl, b5, hd0⟩ := hd0.cons
  obtain ⟨d6, r6, rfl, b6, hd0⟩ := hd0.cons
  obtain ⟨d7, r7, rfl, b7, hd0⟩ := hd0.cons
  cases hd0.nil
  obtain ⟨c0, ec0, c1, c2⟩ : ∃ c : Int, atI [V.int d1, V.int (4 + d2)] d0 = some (.int c) ∧ 0 ≤ c ∧ c ≤ 8 := by
    rcases (show d0 = 0 ∨ d0 = 1 by omega) with rfl | rfl
    · exact ⟨_, rfl, by omega, by omega⟩
    · exact ⟨_, rfl, by omega, by omega⟩
  refine ⟨_, rfl, p0, _, 1, .int d1, rfl, rfl, SqL.of ep0, rfl, _, rfl, p0, _, 2, .int d2, rfl, rfl, SqL.of ep0, rfl, _, _, rfl, rfl, le_line (n := 2) (by decide), fun l1 hl1 => ⟨_, rfl, p0, _, 0, .int d0, rfl, rfl, SqL.of (same_new hl1 _ _ _ ep0), rfl, l1, _, d0, _, rfl, rfl, SqL.of upd_same, ec0, _, _, rfl, rfl, ?_⟩⟩
  have s2 := same_new hl1 (.lst [V.int d1, V.int (4 + d2)])
  have sm2 := sm1.trans s2
  have ep02 := s2 _ _ ep0
  refine ⟨fun σ H' => Same H H' ∧ H' p0 = some (.lst ([d0, d1, d2, d3, d4, d5, d6, d7].map V.int)) ∧ ∃ n : Nat, 1 ≤ n ∧ n ≤ 40 ∧ σ = [some (.ref a), some (.ref p0), some (.int (n : Int)), Option.none, Option.none, Option.none, Option.none, Option.none, Option.none, Option.none, Option.none, Option.none, Option.none, Option.none, Option.none, Option.none, Option.none], ?_, ?_⟩
  · refine ⟨_, rfl, p0, _, 6, .int d6, rfl, rfl, SqL.of ep02, rfl, rfl, _, rfl, ite2 (fun _ => ?_) (fun _ => ?_)⟩
    · refine ⟨_, rfl, p0, _, 7, .int d7, rfl, rfl, SqL.of ep02, rfl, _, _, rfl, rfl, sm2, ep02, (1 + d7).toNat, by omega, by omega, ?_⟩
      rw [show (((1 + d7).toNat : Nat) : Int) = 1 + d7 by omega]; rfl
    · refine ⟨sm2, ep02, (1 + c0).toNat, by omega, by omega, ?_⟩
      rw [show (((1 + c0).toNat : Nat) : Int) = 1 + c0 by omega]; rfl
  clear ec0 c1 c2 sm2 ep02 s2 sm1 ep0 s1
  rintro σ H1 ⟨sm1, ep0, n, hn1, hn, rfl⟩
  refine ⟨_, rfl, _, rfl, a, ns, 6, n, 29, rfl, sm1.seq hS, hl, by decide, by omega, by decide, by decide, fun H2 g os ps rows o p sx rs s2 hg G V0 lo hp29 => ?_⟩
  have sm2 := sm1.trans s2
  have ep02 := s2 _ _ ep0
  have n60 : os.length ≤ 60 := by omega
  have n40 : os.length ≤ 40 := by omega
  have n1 : 1 ≤ os.length := by omega
  have lrs : rs.length = os.length := by rw [G.r0.length, V0.l2]
  -- made
  refine ⟨_, rfl, g, _, 0, .ref o, rfl, rfl, SqL.of G.g0, rfl, o, _, rfl, .inl (SqL.of G.o0), fun a1 ha1 => ?_⟩
  have t1 := same_new ha1 (.lst (os.map V.int))
  have e1 : upd H2 a1 (.lst (os.map V.int)) a1 = some (.lst (os.map V.int)) := upd_same
  generalize upd H2 a1 (.lst (os.map V.int)) = H4 at t1 e1 ⊢
  have G4 := G.same t1
  refine ⟨_, rfl, g, _, 1, .ref p, rfl, rfl, SqL.of G4.g0, rfl, p, _, rfl, .inl (SqL.of G4.p0), fun a2 ha2 => ?_⟩
  have t2 := same_new ha2 (.lst (ps.map V.int))
  have e2 : upd H4 a2 (.lst (ps.map V.int)) a2 = some (.lst (ps.map V.int)) := upd_same
  have e12 := t2 _ _ e1
  generalize upd H4 a2 (.lst (ps.map V.int)) = H5 at t2 e2 e12 ⊢
  have G5 := G4.same t2
  refine ⟨_, rfl, g, _, 2, .ref sx, rfl, rfl, SqL.of G5.g0, rfl, sx, rfl, ⟨_, SqL.of G5.s0⟩, fun D1 hD1 => ?_⟩
  refine lc_newL (xs := rs.map V.ref) (fun i _ ob => ∃ xs, rows[i]? = some xs ∧ ob = .lst (xs.map V.int)) (by rw [List.length_map]; omega) (SqL.of G5.s0) hD1 (fun i x H' k nn hx sm hk => ⟨rfl, tYI ?_⟩) (fun H6 rs1 s6 eD1 lrs1 pw1 => ?_)
  · obtain ⟨r, hr1, rfl⟩ := map_atV hx
    obtain ⟨xs, hxs, er⟩ := pr_get G5.r0 hr1
    exact ⟨_, rfl, r, _, rfl, .inl (SqL.of (sm _ _ er)), fun l hl' => hk l _ _ (same_new hl' _) hl' upd_same ⟨xs, hxs, rfl⟩⟩
  have pr1 : Paired (fun r xs => H6 r = some (.lst (xs.map V.int))) rs1 rows := pr_of (by rw [lrs1, List.length_map, lrs, V0.l2]) fun i r xs h1 h2 => by
    obtain ⟨ob, _, _, eo, ys, hy, rfl⟩ := pw1 i r (.ref (rs.getD i 0)) h1 (at_map (gd_at (by have := lt_of_at h2; rw [lrs]; rw [V0.l2] at this; exact this)))
    rw [h2] at hy
    cases hy
    exact eo
  have e26 := s6 _ _ e2
  have e16 := s6 _ _ e12
  have G6 := G5.same s6
  intro x dx nx ndx nex
  have mx : Same H6 (upd (upd H6 dx (.own x)) x (.ins C dx [])) := fun b o e => by
    rw [upd_ne (ne_of_none e nx), upd_ne (ne_of_none e ndx)]
    exact e
  refine ⟨x, dx, a1, a2, D1, os, ps, rs1, rows, rfl, upd_same, mx _ _ e16, mx _ _ e26, mx _ _ eD1, L2.Paired.mapP pr1 fun _ _ e => mx _ _ e, V0, fun H7 xa xb xc xts xm gm kp => ⟨rfl, ?_⟩⟩
  have s67 : Same H6 H7 := fun b o e => kp b o (mx _ _ e) (ne_of_none e nx)
  have G7 := G6.same s67
  have s37 : Same H2 H7 := ((t1.trans t2).trans s6).trans s67
  clear pw1 pr1 kp mx
  -- higher
  refine ⟨_, rfl, g, _, 0, .ref o, rfl, rfl, SqL.of G7.g0, rfl, _, rfl, g, _, 1, .ref p, rfl, rfl, SqL.of G7.g0, rfl, p, rfl, ⟨_, SqL.of G7.p0⟩, fun D2 hD2 => ?_⟩
  refine lc_mapI (fun z => z + 1) (by rw [V0.l1]; omega) (SqL.of G7.p0) hD2 (fun i z H' k nn hz sm h => ⟨rfl, tYI ⟨_, rfl, _, _, rfl, rfl, h⟩⟩) (fun H8 s8 eD2 => ?_)
  have G8 := G7.same s8
  refine ⟨_, rfl, g, _, 2, .ref sx, rfl, rfl, SqL.of G8.g0, rfl, le_line (n := 3) (by decide), fun hg2 hhg => ?_⟩
  have t3 := same_new hhg (.lst [.ref o, .ref D2, .ref sx])
  have GH : GraphAt (upd H8 hg2 (.lst [.ref o, .ref D2, .ref sx])) hg2 os (ps.map fun z => z + 1) rows o D2 sx rs := ⟨upd_same, t3 _ _ G8.o0, t3 _ _ eD2, t3 _ _ G8.s0, L2.Paired.mapP G8.r0 fun _ _ e => t3 _ _ e⟩
  have G9 := G8.same t3
  generalize upd H8 hg2 (.lst [.ref o, .ref D2, .ref sx]) = H9 at t3 GH G9 ⊢
  have V1 : Valid os (ps.map fun z => z + 1) rows := ⟨by rw [List.length_map]; exact V0.l1, V0.l2, V0.n, V0.o, fun x hx => by
    obtain ⟨z, hz, rfl⟩ := List.mem_map.mp hx
    have := V0.p z hz
    have := hp29 z hz
    show 0 ≤ z + 1 ∧ z + 1 ≤ 30
    omega, V0.r⟩
  -- second
  refine ⟨_, rfl, hg2, _, 0, .ref o, rfl, rfl, SqL.of GH.g0, rfl, o, _, rfl, .inl (SqL.of GH.o0), fun a3 ha3 => ?_⟩
  have t4 := same_new ha3 (.lst (os.map V.int))
  have e3 : upd H9 a3 (.lst (os.map V.int)) a3 = some (.lst (os.map V.int)) := upd_same
  generalize upd H9 a3 (.lst (os.map V.int)) = H10 at t4 e3 ⊢
  have GH10 := GH.same t4
  refine ⟨_, rfl, hg2, _, 1, .ref D2, rfl, rfl, SqL.of GH10.g0, rfl, D2, _, rfl, .inl (SqL.of GH10.p0), fun a4 ha4 => ?_⟩
  have t5 := same_new ha4 (.lst ((ps.map fun z => z + 1).map V.int))
  have e4 : upd H10 a4 (.lst ((ps.map fun z => z + 1).map V.int)) a4 = some (.lst ((ps.map fun z => z + 1).map V.int)) := upd_same
  have e34 := t5 _ _ e3
  generalize upd H10 a4 (.lst ((ps.map fun z => z + 1).map V.int)) = H11 at t5 e4 e34 ⊢
  have G11 := (G9.same t4).same t5
  refine ⟨_, rfl, g, _, 2, .ref sx, rfl, rfl, SqL.of G11.g0, rfl, sx, rfl, ⟨_, SqL.of G11.s0⟩, fun D3 hD3 => ?_⟩
  refine lc_newL (xs := rs.map V.ref) (fun i _ ob => ∃ xs, rows[i]? = some xs ∧ ob = .lst (xs.map V.int)) (by rw [List.length_map]; omega) (SqL.of G11.s0) hD3 (fun i x H' k nn hx sm hk => ⟨rfl, tYI ?_⟩) (fun H12 rs2 s12 eD3 lrs2 pw2 => ?_)
  · obtain ⟨r, hr1, rfl⟩ := map_atV hx
    obtain ⟨xs, hxs, er⟩ := pr_get G11.r0 hr1
    exact ⟨_, rfl, r, _, rfl, .inl (SqL.of (sm _ _ er)), fun l hl' => hk l _ _ (same_new hl' _) hl' upd_same ⟨xs, hxs, rfl⟩⟩
  have pr2 : Paired (fun r xs => H12 r = some (.lst (xs.map V.int))) rs2 rows := pr_of (by rw [lrs2, List.length_map, lrs, V0.l2]) fun i r xs h1 h2 => by
    obtain ⟨ob, _, _, eo, ys, hy, rfl⟩ := pw2 i r (.ref (rs.getD i 0)) h1 (at_map (gd_at (by have := lt_of_at h2; rw [lrs]; rw [V0.l2] at this; exact this)))
    rw [h2] at hy
    cases hy
    exact eo
  intro y dy ny ndy ney
  have my : Same H12 (upd (upd H12 dy (.own y)) y (.ins C dy [])) := fun b o e => by
    rw [upd_ne (ne_of_none e ny), upd_ne (ne_of_none e ndy)]
    exact e
  refine ⟨y, dy, a3, a4, D3, os, ps.map fun z => z + 1, rs2, rows, rfl, upd_same, my _ _ (s12 _ _ e34), my _ _ (s12 _ _ e4), my _ _ eD3, L2.Paired.mapP pr2 fun _ _ e => my _ _ e, V1, fun H13 ya yb yc yts ym gy kp => ⟨rfl, ?_⟩⟩
  have s1213 : Same H12 H13 := fun b o e => kp b o (my _ _ e) (ne_of_none e ny)
  have s913 : Same H9 H13 := ((t4.trans t5).trans s12).trans s1213
  have s713 : Same H7 H13 := (s8.trans t3).trans s913
  have Gf := G7.same s713
  have GHf := GH.same s913
  have gm13 := gm.same s713
  have ep13 := (s37.trans s713) _ _ ep02
  have sH := sm2.trans (s37.trans s713)
  clear pw2 pr2 kp my s8 t3 t4 t5 s12 s1213 s37 t1 t2 s6 s67 e1 e2 e12 e26 e16 e3 e4 e34 eD2 eD3 eD1 G4 G5 G6 G7 G8 G9 G11 GH GH10 gm s713 s913 ep02 sm2 G s2
  -- play
  refine ⟨_, rfl, _, rfl, a, ns, 1, rfl, sH.seq hS, hl, by decide, fun z1 => ⟨g, z1, os, ps, rows, o, p, sx, rs, rfl, Gf, V0, n1, n40, fun H14 pl la ra lead ring s14 epl ela era hfa hle hin => ?_⟩⟩
  have pin0 : PlayIn H14 pl lead ring := ⟨la, ra, epl, ela, era⟩
  have sH14 := sH.trans s14
  -- far
  refine ⟨_, rfl, a, ns, 47, rfl, sH14.seq hS, hl, by decide, fun z2 => ⟨le_line (n := 4) (by decide), fun l2 hl2 => ⟨z2, l2, [12, 4, 301, 3], rfl, SqL.of upd_same, by decide, by decide, fun pf dsf H15 s15' hpf epf hdf => ?_⟩⟩⟩
  obtain ⟨f0, q0, rfl, fb0, hdf⟩ := hdf.cons
  obtain ⟨f1, q1, rfl, fb1, hdf⟩ := hdf.cons
  obtain ⟨f2, q2, rfl, fb2, hdf⟩ := hdf.cons
  obtain ⟨f3, q3, rfl, fb3, hdf⟩ := hdf.cons
  cases hdf.nil
  have s15 := (same_new hl2 (.lst [V.int 12, V.int 4, V.int 301, V.int 3])).trans s15'
  have s13_15 := s14.trans s15
  refine ⟨fun σ H' => Same H13 H' ∧ H' pf = some (.lst ([f0, f1, f2, f3].map V.int)) ∧ ∃ (pl : Addr) (lead ring : List Int), PlayIn H' pl lead ring ∧ faultO os.length rows lead ring = Option.none ∧ lead.length + ring.length ≤ 400 ∧ (∀ x ∈ lead ++ ring, 0 ≤ x ∧ x < (os.length : Int)) ∧
    σ = [some (.ref a), some (.ref p0), some (.int (n : Int)), some (.ref g), some (.ref x), some (.ref hg2), some (.ref y), some (.ref pl), some (.ref pf), Option.none, Option.none, Option.none, Option.none, Option.none, Option.none, Option.none, Option.none], ?_, ?_⟩
  · refine ⟨_, rfl, pf, _, 0, .int f0, rfl, rfl, SqL.of epf, rfl, rfl, _, rfl, ite2 (fun _ => ?_) (fun _ => ?_)⟩
    · have G15 := Gf.same s13_15
      obtain ⟨mm, emm, mm1, mm2⟩ : ∃ mm : Nat, atI [V.int 400, V.int 400, V.int 399, V.int (100 + f2)] f1 = some (.int (mm : Int)) ∧ 100 ≤ mm ∧ mm ≤ 400 := by
        rcases (show f1 = 0 ∨ f1 = 1 ∨ f1 = 2 ∨ f1 = 3 by omega) with rfl | rfl | rfl | rfl
        · exact ⟨400, rfl, by decide, by decide⟩
        · exact ⟨400, rfl, by decide, by decide⟩
        · exact ⟨399, rfl, by decide, by decide⟩
        · exact ⟨(100 + f2).toNat, by rw [show (((100 + f2).toNat : Nat) : Int) = 100 + f2 by omega]; rfl, by omega, by omega⟩
      refine ⟨_, rfl, _, rfl, a, ns, 48, rfl, (sH.trans s13_15).seq hS, hl, by decide, fun z3 => ⟨_, rfl, pf, _, 2, .int f2, rfl, rfl, SqL.of epf, rfl, _, _, rfl, rfl, le_line (n := 4) (by decide), fun l3 hl3 => ?_⟩⟩
      have u1 := same_new hl3 (.lst [V.int 400, V.int 400, V.int 399, V.int (100 + f2)])
      refine ⟨_, rfl, pf, _, 1, .int f1, rfl, rfl, SqL.of (u1 _ _ epf), rfl, l3, _, _, _, rfl, rfl, SqL.of upd_same, emm, _, rfl, pf, _, 3, .int f3, rfl, rfl, SqL.of (u1 _ _ epf), rfl, g, z3, mm, f3, os, ps, rows, o, p, sx, rs, rfl, G15.same u1, V0, n1, n40, mm1, mm2, by omega, by omega, fun H16 pl2 la2 ra2 lead2 ring2 s16 epl2 ela2 era2 hfa2 hle2 hin2 => ?_⟩
      exact ⟨(s13_15.trans u1).trans s16, s16 _ _ (u1 _ _ epf), pl2, lead2, ring2, ⟨la2, ra2, epl2, ela2, era2⟩, hfa2, hle2, hin2, rfl⟩
    · exact ⟨s13_15, epf, pl, lead, ring, pin0.same s15, hfa, hle, hin, rfl⟩
  clear epl ela era hfa hle hin pin0 sH14 s14 s15 s15' s13_15 hpf epf hl2
  rintro σ H20 ⟨s20, epf, pl, lead, ring, pin, hfa, hle, hin, rfl⟩
  have sml0 := sml_of hin n60
  have hx := sH.trans s20
  have G20 := Gf.same s20
  have GH20 := GHf.same s20
  have gm20 := gm13.same s20
  have gy20 := gy.same s20
  have ep20 := s20 _ _ ep13
  clear Gf GHf gm13 gy ep13 sH s20
  obtain ⟨la, ra, epl, ela, era⟩ := pin
  refine ⟨_, rfl, _, rfl, pl, _, 0, .ref la, rfl, rfl, SqL.of epl, rfl, _, rfl, pl, _, 1, .ref ra, rfl, rfl, SqL.of epl, rfl, g, la, ra, lead, ring, os, ps, rows, o, p, sx, rs, rfl, G20, V0, n60, ela, era, by omega, fun H21 s21 => ?_⟩
  rw [hfa]
  refine ⟨rfl, _, rfl, ?_⟩
  rw [oVf_non]
  refine iteF ⟨_, rfl, _, rfl, _, rfl, pl, _, 0, .ref la, rfl, rfl, SqL.of (s21 _ _ epl), rfl, _, rfl, pl, _, 1, .ref ra, rfl, rfl, SqL.of (s21 _ _ epl), rfl, _, rfl, p0, _, 3, .int d3, rfl, rfl, SqL.of (s21 _ _ ep20), rfl,
    x, g, la, ra, d3, lead, ring, os, ps, rows, dx, xa, xb, xc, xts, xm, o, p, sx, rs, rfl, gm20.same s21, G20.same s21, V0, n60, s21 _ _ ela, s21 _ _ era, hle, sml0, b3.1, fun H22 s22 => ⟨_, rfl, iteF ?_⟩⟩
  have v22 := s21.trans s22
  -- other
  refine ⟨_, rfl, _, rfl, a, ns, 2, rfl, (hx.trans v22).seq hS, hl, by decide, fun z4 => ⟨g, z4, os, ps, rows, o, p, sx, rs, rfl, G20.same v22, V0, n1, n40, fun H23 plo lao rao leado ringo s23 eplo elao erao hfao hleo hino => ?_⟩⟩
  have v23 := v22.trans s23
  refine ⟨_, rfl, _, rfl, _, rfl, pl, _, 0, .ref la, rfl, rfl, SqL.of (v23 _ _ epl), rfl, _, rfl, pl, _, 1, .ref ra, rfl, rfl, SqL.of (v23 _ _ epl), rfl, _, rfl, p0, _, 5, .int d5, rfl, rfl, SqL.of (v23 _ _ ep20), rfl,
    y, hg2, la, ra, d5, lead, ring, os, ps.map fun z => z + 1, rows, dy, ya, yb, yc, yts, ym, o, D2, sx, rs, rfl, gy20.same v23, GH20.same v23, V1, n60, v23 _ _ ela, v23 _ _ era, hle, sml0, b5.1, fun H24 s24 => ⟨_, rfl, iteF ?_⟩⟩
  have v24 := v23.trans s24
  refine ⟨_, rfl, _, rfl, _, rfl, plo, _, 0, .ref lao, rfl, rfl, SqL.of (s24 _ _ eplo), rfl, _, rfl, plo, _, 1, .ref rao, rfl, rfl, SqL.of (s24 _ _ eplo), rfl, _, rfl, p0, _, 5, .int d5, rfl, rfl, SqL.of (v24 _ _ ep20), rfl,
    x, g, lao, rao, d5, leado, ringo, os, ps, rows, dx, xa, xb, xc, xts, xm, o, p, sx, rs, rfl, gm20.same v24, G20.same v24, V0, n60, s24 _ _ elao, s24 _ _ erao, hleo, sml_of hino n60, b5.1, fun H25 s25 => ⟨_, rfl, iteF ?_⟩⟩
  have v25 := v24.trans s25
  clear eplo elao erao hfao hleo hino s24 s23 v24 v23 v22 s21 s22 s25
  -- edits
  refine ⟨_, rfl, _, rfl, p0, _, 4, .int d4, rfl, rfl, SqL.of (v25 _ _ ep20), rfl, _, _, rfl, rfl, _, rfl, by omega, by omega, ?_⟩
  refine for_range (n := (1 + d4).toNat) (fun i σ H' => Same H25 H' ∧ ∃ (pe : Addr) (leadE ringE : List Int) (y11 : Option V), PlayIn H' pe leadE ringE ∧ leadE.length + ringE.length ≤ 400 ∧ (∀ x ∈ leadE ++ ringE, Sml x) ∧
    σ = [some (.ref a), some (.ref p0), some (.int (n : Int)), some (.ref g), some (.ref x), some (.ref hg2), some (.ref y), some (.ref pl), some (.ref pf), some (.ref plo), some (.ref pe), y11, Option.none, Option.none, Option.none, Option.none, Option.none]) ⟨.refl _, pl, lead, ring, Option.none, ⟨la, ra, v25 _ _ epl, v25 _ _ ela, v25 _ _ era⟩, hle, sml0, rfl⟩ ?_ ?_
  · rintro i σ H26 hi ⟨s26, pe, leadE, ringE, y11, ⟨lE, rE, eE, eEl, eEr⟩, hlE, hsE, rfl⟩
    have v26 := v25.trans s26
    have epf26 := v26 _ _ epf
    refine ⟨_, rfl, _, rfl, pe, _, 0, .ref lE, rfl, rfl, SqL.of eE, rfl, _, rfl, pe, _, 1, .ref rE, rfl, rfl, SqL.of eE, rfl, _, rfl, _, rfl, _, _, rfl, rfl, a, ns, 3 + i, (show [V.ref a, V.int ((3 : Int) + (0 + (i : Int)))] = [V.ref a, V.int ((3 + i : Nat) : Int)] by rw [show (3 : Int) + (0 + (i : Int)) = ((3 + i : Nat) : Int) by omega]), (hx.trans v26).seq hS, hl, by omega, fun z5 => ⟨le_line (n := 2) (by decide), fun l5 hl5 => ?_⟩⟩
    have u1 := same_new hl5 (.lst [V.int 420, V.int 60])
    obtain ⟨w5, ew5, w51, w52⟩ : ∃ w5 : Int, atI [V.int 420, V.int 60] (if decide (0 < f0) = true then 1 else 0) = some (.int w5) ∧ 0 < w5 ∧ w5 < 1073741824 := by
      cases decide (0 < f0) with
      | true => exact ⟨60, rfl, by decide, by decide⟩
      | false => exact ⟨420, rfl, by decide, by decide⟩
    refine ⟨_, rfl, pf, _, 0, .int f0, rfl, rfl, SqL.of (u1 _ _ epf26), rfl, _, _, rfl, rfl, .inr ⟨_, rfl, l5, _, _, _, rfl, rfl, SqL.of upd_same, ew5, le_line (n := 3) (by decide), fun l6 hl6 => ?_⟩⟩
    have u2 := u1.trans (same_new hl6 (.lst [V.int 11, V.int w5, V.int 360]))
    refine ⟨z5, l6, [11, w5, 360], rfl, SqL.of upd_same, (by show 3 ≤ 1000; decide), fun s hs => ?_, fun pd ds H27 s27 hpd epd hdd => ?_⟩
    · simp only [List.mem_cons, List.not_mem_nil, or_false] at hs
      rcases hs with rfl | rfl | rfl <;> omega
    obtain ⟨g0, q0', rfl, gb0, hdd⟩ := hdd.cons
    obtain ⟨g1, q1', rfl, gb1, hdd⟩ := hdd.cons
    obtain ⟨g2, q2', rfl, gb2, hdd⟩ := hdd.cons
    cases hdd.nil
    have u3 := u2.trans s27
    have v27 := v26.trans u3
    refine ⟨g, lE, rE, pd, leadE, ringE, g0, g1, g2, os, ps, rows, o, p, sx, rs, rfl, G20.same v27, n1, n40, u3 _ _ eEl, u3 _ _ eEr, hlE, hsE, epd, gb0.1, gb0.2, gb1.1, gb2.1, fun H28 pe2 lE2 rE2 leadE2 ringE2 s28 eE2 eEl2 eEr2 hlE2 hsE2 => ?_⟩
    have v28 := v27.trans s28
    refine ⟨_, rfl, _, rfl, _, rfl, pe2, _, 0, .ref lE2, rfl, rfl, SqL.of eE2, rfl, _, rfl, pe2, _, 1, .ref rE2, rfl, rfl, SqL.of eE2, rfl, _, rfl, p0, _, 3, .int d3, rfl, rfl, SqL.of (v28 _ _ ep20), rfl, _, rfl, _, _, rfl, rfl,
      x, g, lE2, rE2, _, leadE2, ringE2, os, ps, rows, dx, xa, xb, xc, xts, xm, o, p, sx, rs, rfl, gm20.same v28, G20.same v28, V0, n60, eEl2, eEr2, hlE2, hsE2, ?_, fun H29 s29 => ⟨_, rfl, iteF ?_⟩⟩
    · have := b3.1
      omega
    · exact ⟨s26.trans (u3.trans (s28.trans s29)), pe2, leadE2, ringE2, _, ⟨lE2, rE2, s29 _ _ eE2, s29 _ _ eEl2, s29 _ _ eEr2⟩, hlE2, hsE2, rfl⟩
  · rintro σ H26 ⟨s26, pe, leadE, ringE, y11, _, _, _, rfl⟩
    have v26 := v25.trans s26
    clear v25 s26
    -- nothing
    have noV : Valid [] [] [] := ⟨rfl, rfl, Nat.zero_le _, fun x h => (nomatch h), fun x h => (nomatch h), fun x h => (nomatch h)⟩
    refine ⟨Nat.zero_le _, fun c1 hc1 => ⟨Nat.zero_le _, fun c2 hc2 => ⟨Nat.zero_le _, fun c3 hc3 => ?_⟩⟩⟩
    have w1 := same_new hc1 (.lst [])
    have w2 := same_new hc2 (.lst [])
    have w3 := same_new hc3 (.lst [])
    intro e de ne nde nee
    have me : Same (upd (upd (upd H26 c1 (.lst [])) c2 (.lst [])) c3 (.lst [])) (upd (upd (upd (upd (upd H26 c1 (.lst [])) c2 (.lst [])) c3 (.lst [])) de (.own e)) e (.ins C de [])) := fun b o q => by
      rw [upd_ne (ne_of_none q ne), upd_ne (ne_of_none q nde)]
      exact q
    refine ⟨e, de, c1, c2, c3, [], [], [], [], rfl, upd_same, me _ _ (w3 _ _ (w2 _ _ upd_same)), me _ _ (w3 _ _ upd_same), me _ _ upd_same, .nil, noV, fun H30 ea eb ec ets em ge kp => ⟨rfl, ?_⟩⟩
    have w4 : Same (upd (upd (upd H26 c1 (.lst [])) c2 (.lst [])) c3 (.lst [])) H30 := fun b o q => kp b o (me _ _ q) (ne_of_none q ne)
    have v30 := v26.trans (((w1.trans w2).trans w3).trans w4)
    clear me kp w1 w2 w3 w4
    refine ⟨_, rfl, Nat.zero_le _, fun k1 hk1 => ⟨Nat.zero_le _, fun k2 hk2 => ⟨Nat.zero_le _, fun k3 hk3 => ⟨le_line (n := 3) (by decide), fun kg hkg => ?_⟩⟩⟩⟩
    have w1 := same_new hk1 (.lst [])
    have w2 := same_new hk2 (.lst [])
    have w3 := same_new hk3 (.lst [])
    have w4 := same_new hkg (.lst [.ref k1, .ref k2, .ref k3])
    have GN : GraphAt (upd (upd (upd (upd H30 k1 (.lst [])) k2 (.lst [])) k3 (.lst [])) kg (.lst [.ref k1, .ref k2, .ref k3])) kg [] [] [] k1 k2 k3 [] := ⟨upd_same, w4 _ _ (w3 _ _ (w2 _ _ upd_same)), w4 _ _ (w3 _ _ upd_same), w4 _ _ upd_same, .nil⟩
    have w5 := ((w1.trans w2).trans w3).trans w4
    have v31 := v30.trans w5
    have ge31 := ge.same w5
    generalize upd (upd (upd (upd H30 k1 (.lst [])) k2 (.lst [])) k3 (.lst [])) kg (.lst [.ref k1, .ref k2, .ref k3]) = H31 at GN v31 ge31 ⊢
    clear w1 w2 w3 w4 w5
    refine ⟨_, rfl, pl, _, 0, .ref la, rfl, rfl, SqL.of (v31 _ _ epl), rfl, _, rfl, pl, _, 1, .ref ra, rfl, rfl, SqL.of (v31 _ _ epl), rfl, _, rfl, p0, _, 3, .int d3, rfl, rfl, SqL.of (v31 _ _ ep20), rfl,
      e, kg, la, ra, d3, lead, ring, [], [], [], de, ea, eb, ec, ets, em, k1, k2, k3, [], rfl, ge31, GN, noV, Nat.zero_le _, v31 _ _ ela, v31 _ _ era, hle, sml0, b3.1, fun H32 s32 => ⟨_, rfl, iteF ?_⟩⟩
    have v32 := v31.trans s32
    refine ⟨_, rfl, Nat.zero_le _, fun k1 hk1 => ⟨Nat.zero_le _, fun k2 hk2 => ⟨Nat.zero_le _, fun k3 hk3 => ⟨le_line (n := 3) (by decide), fun kg hkg => ?_⟩⟩⟩⟩
    have w1 := same_new hk1 (.lst [])
    have w2 := same_new hk2 (.lst [])
    have w3 := same_new hk3 (.lst [])
    have w4 := same_new hkg (.lst [.ref k1, .ref k2, .ref k3])
    have GN2 : GraphAt (upd (upd (upd (upd H32 k1 (.lst [])) k2 (.lst [])) k3 (.lst [])) kg (.lst [.ref k1, .ref k2, .ref k3])) kg [] [] [] k1 k2 k3 [] := ⟨upd_same, w4 _ _ (w3 _ _ (w2 _ _ upd_same)), w4 _ _ (w3 _ _ upd_same), w4 _ _ upd_same, .nil⟩
    have w5 := ((w1.trans w2).trans w3).trans w4
    have v33 := v32.trans w5
    have ge33 := (ge31.same s32).same w5
    generalize upd (upd (upd (upd H32 k1 (.lst [])) k2 (.lst [])) k3 (.lst [])) kg (.lst [.ref k1, .ref k2, .ref k3]) = H33 at GN2 v33 ge33 ⊢
    clear w1 w2 w3 w4 w5
    refine ⟨Nat.zero_le _, fun j1 hj1 => ⟨Nat.zero_le _, fun j2 hj2 => ?_⟩⟩
    have w1 := same_new hj1 (.lst [])
    have w2 := same_new hj2 (.lst [])
    have w5 := w1.trans w2
    have v34 := v33.trans w5
    refine ⟨_, rfl, p0, _, 5, .int d5, rfl, rfl, SqL.of (v34 _ _ ep20), rfl,
      e, kg, j1, j2, d5, [], [], [], [], [], de, ea, eb, ec, ets, em, k1, k2, k3, [], rfl, ge33.same w5, GN2.same w5, noV, Nat.zero_le _, w2 _ _ upd_same, upd_same, Nat.zero_le _, (fun x h => nomatch h), b5.1, fun H35 s35 => ⟨_, rfl, iteF ?_⟩⟩
    have v35 := v34.trans s35
    clear v34 v33 v32 v31 v30 w1 w2 w5 s35 s32 GN GN2 ge ge31 ge33
    have G35 := G20.same v35
    refine ⟨_, rfl, g, _, 2, .ref sx, rfl, rfl, SqL.of G35.g0, rfl, sx, rfl, ⟨_, SqL.of G35.s0⟩, fun D4 hD4 => ?_⟩
    refine lc_newL (xs := rs.map V.ref) (fun i _ ob => ∃ xs, rows[i]? = some xs ∧ ob = .tup (xs.map V.int)) (by rw [List.length_map]; omega) (SqL.of G35.s0) hD4 (fun i x H' k nn hx sm hk => ⟨rfl, tYI ?_⟩) (fun H36 rs3 t5 eD4 lrs3 pw3 => ?_)
    · obtain ⟨r, hr1, rfl⟩ := map_atV hx
      obtain ⟨xs, hxs, er⟩ := pr_get G35.r0 hr1
      exact ⟨_, rfl, .inl ⟨r, _, rfl, SqL.of (sm _ _ er), fun l hl' => hk l _ _ (same_new hl' _) hl' upd_same ⟨xs, hxs, rfl⟩⟩⟩
    have pr3 : Paired (fun r xs => H36 r = some (.tup (xs.map V.int))) rs3 rows := pr_of (by rw [lrs3, List.length_map, lrs, V0.l2]) fun i r xs h1 h2 => by
      obtain ⟨ob, _, _, eo, ys, hy, rfl⟩ := pw3 i r (.ref (rs.getD i 0)) h1 (at_map (gd_at (by have := lt_of_at h2; rw [lrs]; rw [V0.l2] at this; exact this)))
      rw [h2] at hy
      cases hy
      exact eo
    clear pw3
    have k5 := v35.trans t5
    refine .inl ⟨D4, _, rfl, SqL.of eD4, fun tr htr => ?_⟩
    have t6 := same_new htr (.tup (rs3.map V.ref))
    have etr : upd H36 tr (.tup (rs3.map V.ref)) tr = some (.tup (rs3.map V.ref)) := upd_same
    have k6 := k5.trans t6
    have pr4 := L2.Paired.mapP pr3 fun _ _ e => t6 _ _ e
    generalize upd H36 tr (.tup (rs3.map V.ref)) = H37 at t6 etr k6 pr4 ⊢
    have gm37 := gm20.same k6
    refine ⟨_, rfl, x, C, dx, _, _, rfl, gm37.ob, T.cl, T.nO, fld_own xa xb xc xm, _, rfl, x, C, dx, _, _, rfl, gm37.ob, T.cl, T.nP, fld_pri xa xb xc xm, _, rfl, x, C, dx, _, _, rfl, gm37.ob, T.cl, T.nS, fld_suc xa xb xc xm, le_line (n := 3) (by decide), fun u1 hu1 => ?_⟩
    have t7 := same_new hu1 (.tup [.ref xa, .ref xb, .ref xc])
    have eu1 : upd H37 u1 (.tup [.ref xa, .ref xb, .ref xc]) u1 = some (.tup [.ref xa, .ref xb, .ref xc]) := upd_same
    have k7 := k6.trans t7
    generalize upd H37 u1 (.tup [.ref xa, .ref xb, .ref xc]) = H38 at t7 eu1 k7 ⊢
    have G38 := G20.same k7
    refine ⟨_, rfl, g, _, 0, .ref o, rfl, rfl, SqL.of G38.g0, rfl, .inl ⟨o, _, rfl, SqL.of G38.o0, fun v1 hv1 => ?_⟩⟩
    have t8 := same_new hv1 (.tup (os.map V.int))
    have ev1 : upd H38 v1 (.tup (os.map V.int)) v1 = some (.tup (os.map V.int)) := upd_same
    generalize upd H38 v1 (.tup (os.map V.int)) = H39 at t8 ev1 ⊢
    have G39 := G38.same t8
    refine ⟨_, rfl, g, _, 1, .ref p, rfl, rfl, SqL.of G39.g0, rfl, .inl ⟨p, _, rfl, SqL.of G39.p0, fun v2 hv2 => ?_⟩⟩
    have t9 := same_new hv2 (.tup (ps.map V.int))
    have ev2 : upd H39 v2 (.tup (ps.map V.int)) v2 = some (.tup (ps.map V.int)) := upd_same
    generalize upd H39 v2 (.tup (ps.map V.int)) = H40 at t9 ev2 ⊢
    refine ⟨_, rfl, le_line (n := 3) (by decide), fun v3 hv3 => ?_⟩
    have t10 := same_new hv3 (.tup [.ref v1, .ref v2, .ref tr])
    have ev3 : upd H40 v3 (.tup [.ref v1, .ref v2, .ref tr]) v3 = some (.tup [.ref v1, .ref v2, .ref tr]) := upd_same
    generalize upd H40 v3 (.tup [.ref v1, .ref v2, .ref tr]) = H41 at t10 ev3 ⊢
    have k10 := ((t7.trans t8).trans t9).trans t10
    have v41 := k6.trans k10
    have gm41 := gm37.same k10
    have shp : Ly 3 (.tuple [.tuple (os.map PyData.int), .tuple (ps.map PyData.int), .tuple (rowsD rows)]) := ly_tup fun d hd => by
      simp only [List.mem_cons, List.not_mem_nil, or_false] at hd
      rcases hd with rfl | rfl | rfl
      · exact (ly_tup (ly_ints _)).up (by decide)
      · exact (ly_tup (ly_ints _)).up (by decide)
      · exact ly_tup (ly_rows _)
    refine ⟨.tuple [.tuple (os.map PyData.int), .tuple (ps.map PyData.int), .tuple (rowsD rows)], .tuple [.tuple (os.map PyData.int), .tuple (ps.map PyData.int), .tuple (rowsD rows)], .tup (sqT (((t8.trans t9).trans t10) _ _ eu1)) (.cons (dp_tupI gm41.oa) (.cons (dp_tupI gm41.ob2) (.cons (.tup (sqT gm41.oc) (dp_rows gm41.or)) .nil))), .tup (sqT ev3) (.cons (dp_tupI ((t9.trans t10) _ _ ev1)) (.cons (dp_tupI (t10 _ _ ev2)) (.cons (.tup (sqT (k10 _ _ etr)) (dp_rows (L2.Paired.mapP pr4 fun _ _ e => k10 _ _ e))) .nil))), ly_shaped shp (by decide), ly_shaped shp (by decide), _, rfl, ?_⟩
    rw [ly_refl shp]
    refine iteF ?_
    -- an error that is made here
    refine ⟨_, rfl, p0, _, 7, .int d7, rfl, rfl, SqL.of (v41 _ _ ep20), rfl, _, rfl, fun dd ee hdd hee => ?_⟩
    have z1 := same_new hdd (.xd [(("index" : Str), .int d7)])
    have z2 := same_new hee (errO Cn ee dd)
    have edd := z2 _ _ (upd_same (H := H41) (a := dd) (o := .xd [(("index" : Str), .int d7)]))
    have eee : upd (upd H41 dd (.xd [(("index" : Str), .int d7)])) ee (errO Cn ee dd) ee = some (errO Cn ee dd) := upd_same
    have v42 := v41.trans (z1.trans z2)
    generalize upd (upd H41 dd (.xd [(("index" : Str), .int d7)])) ee (errO Cn ee dd) = H42 at edd eee v42 ⊢
    refine ⟨_, rfl, ee, dd, _, rfl, eee, edd, d7, rfl, _, rfl, iteF ⟨_, rfl, ee, dd, _, rfl, eee, edd, _, rfl, p0, _, 7, .int d7, rfl, rfl, SqL.of (v42 _ _ ep20), rfl, rfl, _, rfl, ?_⟩⟩
    rw [decide_eq_true rfl]
    refine iteF ?_
    exact ⟨_, rfl, _, rfl, _, rfl, pl, _, 0, .ref la, rfl, rfl, SqL.of (v42 _ _ epl), rfl, _, rfl, pl, _, 1, .ref ra, rfl, rfl, SqL.of (v42 _ _ epl), rfl, _, rfl, p0, _, 5, .int d5, rfl, rfl, SqL.of (v42 _ _ ep20), rfl,
      x, g, la, ra, d5, lead, ring, os, ps, rows, dx, xa, xb, xc, xts, xm, o, p, sx, rs, rfl, gm20.same v42, G20.same v42, V0, n60, v42 _ _ ela, v42 _ _ era, hle, sml0, b5.1, fun H43 s43 => q _⟩
end
end GM
set_option Elab.async false
set_option linter.all false
set_option maxRecDepth 100000
set_option maxHeartbeats 4000000
set_option pp.maxSteps 150
set_option pp.deepTerms false
namespace GM
open PySem PySem.Spec PyProof.Rows L2
/-! ### len of a game -/
theorem exm_up {K : PySem.W.Frag} {S c : Addr} (h1 : PySem.W.subIn K (.ref c) (.type "BaseException") = some true) (h2 : PySem.W.isClsIn K c = true) (h3 : PySem.W.typeIn K (.ref c) = some (.type "type")) (h4 : PySem.W.subIn K (.ref S) (.ref c) = some true) :
    PySem.W.exmOne K (.ref S) (.ref c) = some true := by
  have e1 : (PySem.W.subIn K (.ref c) (.type "BaseException") == some true) = true := by rw [h1] <;> rfl
  have e2 : ((PySem.W.clsIn K c).isSome && PySem.W.typeIn K (.ref c) == some (.type "type")) = true := by
    have h2' : (PySem.W.clsIn K c).isSome = true := h2
    rw [h2', h3] <;> rfl
  show (if (PySem.W.subIn K (.ref c) (.type "BaseException") == some true) = true then (if ((PySem.W.clsIn K c).isSome && PySem.W.typeIn K (.ref c) == some (.type "type")) = true then PySem.W.subIn K (.ref S) (.ref c) else none) else none) = some true
  rw [if_pos e1, if_pos e2]
  exact h4
section
variable {P : Program} {w : World} {K : PySem.W.Frag} {mg : Str → Option Value} {base : Heap} {C : Addr} (M : Blt mg) (T : GTxt K mg C)
include M T
theorem ok_len {f : Addr} {fd : FuncData} (F : Fun K "__len__" "Game.__len__" s_Game___len__ f fd) : FnOk P w K mg base CX0 1 f fd ["self"] (spLen C) := by
  refine F.ok sc_Game___len__ (fun vs H Q E h => ?_) (fun cdv A outer s H vs Q E hr h => ?_)
  · obtain ⟨p, os, ps, rows, dx, a, b, c, ts, m, rfl, _⟩ := h
    rfl
  obtain ⟨p, os, ps, rows, dx, a, b, c, ts, m, rfl, g, q⟩ := h
  have nd := sc_Game___len__.nd
  refine ⟨_, pss_one (ps_ret (pe_callB call_len_seq (by rfl) M.len PySem.boot_len (pa_cons (pe_fld (pv 0) rfl) pa_nil))), ?_⟩
  refine ⟨_, rfl, p, C, dx, _, _, rfl, g.ob, T.cl, T.nO, fld_own a b c m, a, _, rfl, .inr (sqT g.oa), ?_⟩
  rw [List.length_map]
  exact q
end
end GM
set_option Elab.async false
set_option linter.all false
set_option maxRecDepth 100000
set_option maxHeartbeats 4000000
namespace GM
open PySem PySem.Spec PyProof.Rows L2
/-! ### what the top has left -/
theorem all_mk {l : PySem.W.OpenLaw} {w : World} {K : PySem.W.Frag} {h : Heap} {mg : Str → Option Value} {fa : Addr} (X : K.In h) (G : h.Ns mainGlobals mg) (hfa : mg "law" = some (.ref fa))
    {C_Game : Addr}
    {tk_GREATEST_PRIORITY : Tok}
    {C_NotAPlay C_TreesError C_BadVertex C_DeadEnd C_PlanGap C_BadRow fI : Addr} {nmN qN : Str} {NN : Addr} {bsN : List Value} {snN : List Str} {subN : List Value} {abN : Bool} {colN : Option Bool} {ddN : Option Addr} {w0 w1 w2 w3 w5 : Option Value}
    {odI anI : Option Addr} {slI : Array (Option Value)} {ocI dcI pmI cdI ctI : Value} {pp1 pp2 qq1 qq2 qq3 qq4 : Pos}
    {f1 f2 f3 f4 f5 f6 f7 f8 f9 f10 f11 f12 f13 f14 f15 f16 f17 f18 : Addr}
    {od1 an1 od2 an2 od3 an3 od4 an4 od5 an5 od6 an6 od7 an7 od8 an8 od9 an9 od10 an10 od11 an11 od12 an12 od13 an13 od14 an14 od15 an15 od16 an16 od17 an17 od18 an18 : Option Addr} {sl1 sl2 sl3 sl4 sl5 sl6 sl7 sl8 sl9 sl10 sl11 sl12 sl13 sl14 sl15 sl16 sl17 sl18 : Array (Option Value)}
    {oc1 dc1 pm1 cd1 ct1 kV1 oc2 dc2 pm2 cd2 ct2 kV2 oc3 dc3 pm3 cd3 ct3 kV3 oc4 dc4 pm4 cd4 ct4 kV4 oc5 dc5 pm5 cd5 ct5 kV5 oc6 dc6 pm6 cd6 ct6 kV6 oc7 dc7 pm7 cd7 ct7 kV7 oc8 dc8 pm8 cd8 ct8 kV8 oc9 dc9 pm9 cd9 ct9 kV9 oc10 dc10 pm10 cd10 ct10 kV10 oc11 dc11 pm11 cd11 ct11 kV11 oc12 dc12 pm12 cd12 ct12 kV12 oc13 dc13 pm13 cd13 ct13 kV13 oc14 dc14 pm14 cd14 ct14 kV14 oc15 dc15 pm15 cd15 ct15 kV15 oc16 dc16 pm16 cd16 ct16 kV16 oc17 dc17 pm17 cd17 ct17 kV17 oc18 dc18 pm18 cd18 ct18 kV18 : Value}
    (a1 : PySem.W.nsIn K mainGlobals "as_tuples" = some (some (.ref f1)))
    (l1 : K.lookup f1 = some ⟨oc1, od1, .func (PySem.W.fnOf "as_tuples" "as_tuples" (defArgs s_as_tuples) (defBody s_as_tuples) (defScope s_as_tuples) .none kV1 dc1 pm1 an1 cd1 ct1), sl1⟩)
    (c1 : PySem.W.codeIn K cd1 "as_tuples" = true) (k1 : PySem.W.keepIn K (.ref f1) = true)
    (a2 : PySem.W.nsIn K mainGlobals "is_whole" = some (some (.ref f2)))
    (l2 : K.lookup f2 = some ⟨oc2, od2, .func (PySem.W.fnOf "is_whole" "is_whole" (defArgs s_is_whole) (defBody s_is_whole) (defScope s_is_whole) .none kV2 dc2 pm2 an2 cd2 ct2), sl2⟩)
    (c2 : PySem.W.codeIn K cd2 "is_whole" = true) (k2 : PySem.W.keepIn K (.ref f2) = true)
    (a3 : PySem.W.findIn K (.ref C_Game) "__init__" = some (some (.ref f3))) (i3 : PySem.W.isFn K (.ref f3) = true)
    (l3 : K.lookup f3 = some ⟨oc3, od3, .func (PySem.W.fnOf "__init__" "Game.__init__" (defArgs s_Game___init__) (defBody s_Game___init__) (defScope s_Game___init__) .none kV3 dc3 pm3 an3 cd3 ct3), sl3⟩)
    (c3 : PySem.W.codeIn K cd3 "Game.__init__" = true) (k3 : PySem.W.keepIn K (.ref f3) = true)
    (a4 : PySem.W.findIn K (.ref C_Game) "__len__" = some (some (.ref f4))) (i4 : PySem.W.isFn K (.ref f4) = true)
    (l4 : K.lookup f4 = some ⟨oc4, od4, .func (PySem.W.fnOf "__len__" "Game.__len__" (defArgs s_Game___len__) (defBody s_Game___len__) (defScope s_Game___len__) .none kV4 dc4 pm4 an4 cd4 ct4), sl4⟩)
    (c4 : PySem.W.codeIn K cd4 "Game.__len__" = true) (k4 : PySem.W.keepIn K (.ref f4) = true)
    (a5 : PySem.W.nsIn K mainGlobals "is_number_to" = some (some (.ref f5)))
    (l5 : K.lookup f5 = some ⟨oc5, od5, .func (PySem.W.fnOf "is_number_to" "is_number_to" (defArgs s_is_number_to) (defBody s_is_number_to) (defScope s_is_number_to) .none kV5 dc5 pm5 an5 cd5 ct5), sl5⟩)
    (c5 : PySem.W.codeIn K cd5 "is_number_to" = true) (k5 : PySem.W.keepIn K (.ref f5) = true)
    (a6 : PySem.W.nsIn K mainGlobals "are_successors" = some (some (.ref f6)))
    (l6 : K.lookup f6 = some ⟨oc6, od6, .func (PySem.W.fnOf "are_successors" "are_successors" (defArgs s_are_successors) (defBody s_are_successors) (defScope s_are_successors) .none kV6 dc6 pm6 an6 cd6 ct6), sl6⟩)
    (c6 : PySem.W.codeIn K cd6 "are_successors" = true) (k6 : PySem.W.keepIn K (.ref f6) = true)
    (a7 : PySem.W.nsIn K mainGlobals "winner_of" = some (some (.ref f7)))
    (l7 : K.lookup f7 = some ⟨oc7, od7, .func (PySem.W.fnOf "winner_of" "winner_of" (defArgs s_winner_of) (defBody s_winner_of) (defScope s_winner_of) .none kV7 dc7 pm7 an7 cd7 ct7), sl7⟩)
    (c7 : PySem.W.codeIn K cd7 "winner_of" = true) (k7 : PySem.W.keepIn K (.ref f7) = true)
    (a8 : PySem.W.nsIn K mainGlobals "check_walk" = some (some (.ref f8)))
    (l8 : K.lookup f8 = some ⟨oc8, od8, .func (PySem.W.fnOf "check_walk" "check_walk" (defArgs s_check_walk) (defBody s_check_walk) (defScope s_check_walk) .none kV8 dc8 pm8 an8 cd8 ct8), sl8⟩)
    (c8 : PySem.W.codeIn K cd8 "check_walk" = true) (k8 : PySem.W.keepIn K (.ref f8) = true)
    (a9 : PySem.W.nsIn K mainGlobals "_law_whole" = some (some (.ref f9)))
    (l9 : K.lookup f9 = some ⟨oc9, od9, .func (PySem.W.fnOf "_law_whole" "_law_whole" (defArgs s__law_whole) (defBody s__law_whole) (defScope s__law_whole) .none kV9 dc9 pm9 an9 cd9 ct9), sl9⟩)
    (c9 : PySem.W.codeIn K cd9 "_law_whole" = true) (k9 : PySem.W.keepIn K (.ref f9) = true)
    (a10 : PySem.W.nsIn K mainGlobals "_law_cell" = some (some (.ref f10)))
    (l10 : K.lookup f10 = some ⟨oc10, od10, .func (PySem.W.fnOf "_law_cell" "_law_cell" (defArgs s__law_cell) (defBody s__law_cell) (defScope s__law_cell) .none kV10 dc10 pm10 an10 cd10 ct10), sl10⟩)
    (c10 : PySem.W.codeIn K cd10 "_law_cell" = true) (k10 : PySem.W.keepIn K (.ref f10) = true)
    (a11 : PySem.W.nsIn K mainGlobals "_law_digits" = some (some (.ref f11)))
    (l11 : K.lookup f11 = some ⟨oc11, od11, .func (PySem.W.fnOf "_law_digits" "_law_digits" (defArgs s__law_digits) (defBody s__law_digits) (defScope s__law_digits) .none kV11 dc11 pm11 an11 cd11 ct11), sl11⟩)
    (c11 : PySem.W.codeIn K cd11 "_law_digits" = true) (k11 : PySem.W.keepIn K (.ref f11) = true)
    (a12 : PySem.W.nsIn K mainGlobals "_law_graph" = some (some (.ref f12)))
    (l12 : K.lookup f12 = some ⟨oc12, od12, .func (PySem.W.fnOf "_law_graph" "_law_graph" (defArgs s__law_graph) (defBody s__law_graph) (defScope s__law_graph) .none kV12 dc12 pm12 an12 cd12 ct12), sl12⟩)
    (c12 : PySem.W.codeIn K cd12 "_law_graph" = true) (k12 : PySem.W.keepIn K (.ref f12) = true)
    (a13 : PySem.W.nsIn K mainGlobals "_law_play" = some (some (.ref f13)))
    (l13 : K.lookup f13 = some ⟨oc13, od13, .func (PySem.W.fnOf "_law_play" "_law_play" (defArgs s__law_play) (defBody s__law_play) (defScope s__law_play) .none kV13 dc13 pm13 an13 cd13 ct13), sl13⟩)
    (c13 : PySem.W.codeIn K cd13 "_law_play" = true) (k13 : PySem.W.keepIn K (.ref f13) = true)
    (a14 : PySem.W.nsIn K mainGlobals "_law_long_play" = some (some (.ref f14)))
    (l14 : K.lookup f14 = some ⟨oc14, od14, .func (PySem.W.fnOf "_law_long_play" "_law_long_play" (defArgs s__law_long_play) (defBody s__law_long_play) (defScope s__law_long_play) .none kV14 dc14 pm14 an14 cd14 ct14), sl14⟩)
    (c14 : PySem.W.codeIn K cd14 "_law_long_play" = true) (k14 : PySem.W.keepIn K (.ref f14) = true)
    (a15 : PySem.W.nsIn K mainGlobals "_law_fault" = some (some (.ref f15)))
    (l15 : K.lookup f15 = some ⟨oc15, od15, .func (PySem.W.fnOf "_law_fault" "_law_fault" (defArgs s__law_fault) (defBody s__law_fault) (defScope s__law_fault) .none kV15 dc15 pm15 an15 cd15 ct15), sl15⟩)
    (c15 : PySem.W.codeIn K cd15 "_law_fault" = true) (k15 : PySem.W.keepIn K (.ref f15) = true)
    (a16 : PySem.W.nsIn K mainGlobals "_law_edited" = some (some (.ref f16)))
    (l16 : K.lookup f16 = some ⟨oc16, od16, .func (PySem.W.fnOf "_law_edited" "_law_edited" (defArgs s__law_edited) (defBody s__law_edited) (defScope s__law_edited) .none kV16 dc16 pm16 an16 cd16 ct16), sl16⟩)
    (c16 : PySem.W.codeIn K cd16 "_law_edited" = true) (k16 : PySem.W.keepIn K (.ref f16) = true)
    (a17 : PySem.W.nsIn K mainGlobals "_law_right" = some (some (.ref f17)))
    (l17 : K.lookup f17 = some ⟨oc17, od17, .func (PySem.W.fnOf "_law_right" "_law_right" (defArgs s__law_right) (defBody s__law_right) (defScope s__law_right) .none kV17 dc17 pm17 an17 cd17 ct17), sl17⟩)
    (c17 : PySem.W.codeIn K cd17 "_law_right" = true) (k17 : PySem.W.keepIn K (.ref f17) = true)
    (a18 : PySem.W.nsIn K mainGlobals "law" = some (some (.ref f18)))
    (l18 : K.lookup f18 = some ⟨oc18, od18, .func (PySem.W.fnOf "law" "law" (defArgs s_law) (defBody s_law) (defScope s_law) .none kV18 dc18 pm18 an18 cd18 ct18), sl18⟩)
    (c18 : PySem.W.codeIn K cd18 "law" = true) (k18 : PySem.W.keepIn K (.ref f18) = true)
    (aC_Game : PySem.W.nsIn K mainGlobals "Game" = some (some (.ref C_Game)))
    (pg_Game : PySem.W.plainGet K C_Game Str.empty = true) (hd_Game : PySem.W.hasDictIn K C_Game = true) (po_Game : PySem.W.plainOver K C_Game = true) (sa_Game : PySem.W.findIn K (.ref C_Game) "__setattr__" = some (some (.builtin "object.__setattr__"))) (mk_Game : PySem.W.makesIn K C_Game = true) (kc_Game : PySem.W.keepIn K (.ref C_Game) = true)
    (n_Game_owners : PySem.W.findIn K (.ref C_Game) "owners" = some none)
    (n_Game_priorities : PySem.W.findIn K (.ref C_Game) "priorities" = some none)
    (n_Game_successors : PySem.W.findIn K (.ref C_Game) "successors" = some none)
    (n_Game_top : PySem.W.findIn K (.ref C_Game) "top" = some none)
    (n_Game_height : PySem.W.findIn K (.ref C_Game) "height" = some none)
    (n_Game_ceiling : PySem.W.findIn K (.ref C_Game) "ceiling" = some none)
    (g_GREATEST_PRIORITY : PySem.W.nsIn K mainGlobals "GREATEST_PRIORITY" = some (some (.int 30 tk_GREATEST_PRIORITY)))
    (aC_NotAPlay : PySem.W.nsIn K mainGlobals "NotAPlay" = some (some (.ref C_NotAPlay)))
    (aC_TreesError : PySem.W.nsIn K mainGlobals "TreesError" = some (some (.ref C_TreesError)))
    (aC_BadVertex : PySem.W.nsIn K mainGlobals "BadVertex" = some (some (.ref C_BadVertex)))
    (aC_DeadEnd : PySem.W.nsIn K mainGlobals "DeadEnd" = some (some (.ref C_DeadEnd)))
    (aC_PlanGap : PySem.W.nsIn K mainGlobals "PlanGap" = some (some (.ref C_PlanGap)))
    (aC_BadRow : PySem.W.nsIn K mainGlobals "BadRow" = some (some (.ref C_BadRow)))
    (xN : K.lookup C_NotAPlay = some (excClassObj nmN qN C_NotAPlay NN bsN [.ref C_TreesError, .type "ValueError", .type "Exception", .type "BaseException", .type "object"] true snN subN abN colN ddN w0 w1 w2 w3 w5 "ValueError.__new__"))
    (saN : PySem.W.findIn K (.ref C_NotAPlay) "__setattr__" = some (some (.builtin "object.__setattr__")))
    (gaN : PySem.W.findIn K (.ref C_NotAPlay) "__getattribute__" = some (some (.builtin "BaseException.__getattribute__")))
    (ggN : PySem.W.findIn K (.ref C_NotAPlay) "__getattr__" = some none)
    (nbN : PySem.W.findIn K (.ref C_NotAPlay) "index" = some none)
    (iCN : PySem.W.findIn K (.ref C_NotAPlay) "__init__" = some (some (.ref fI)))
    (tCN : PySem.W.typeIn K (.ref fI) = some (.type "function"))
    (lI : K.lookup fI = some ⟨ocI, odI, .func (PySem.W.fnOf "__init__" "NotAPlay.__init__" (PySem.NotAPlayX.iA pp1 pp2) (PySem.NotAPlayX.iB qq1 qq2 qq3 qq4) PySem.NotAPlayX.iS .none .none dcI pmI anI cdI ctI), slI⟩)
    (cI : PySem.W.codeIn K cdI "NotAPlay.__init__" = true)
    (kCN : PySem.W.keepIn K (.ref C_NotAPlay) = true)
    (eCN : PySem.W.subIn K (.ref C_NotAPlay) (.type "BaseException") = some true)
    (tyN : PySem.W.typeIn K (.ref C_NotAPlay) = some (.type "type"))
    (hdN : PySem.W.hasDictIn K C_NotAPlay = true)
    (caN : PySem.W.findIn K (.ref C_NotAPlay) "__class__" = some (some (.builtin "object.__class__")))
    (spN : PySem.W.specialIn K (.builtin "object.__class__") "__get__" = some (some (.builtin "getset_descriptor.__get__")))
    (tkN : PySem.W.takesIn K (.builtin "object.__class__") = some true)
    (moN : PySem.W.mroIn K C_NotAPlay (.type "object") = some true)
    (icN : PySem.W.isClsIn K C_NotAPlay = true)
    (ssN : PySem.W.subIn K (.ref C_NotAPlay) (.ref C_NotAPlay) = some true)
    (bT : PySem.W.subIn K (.ref C_TreesError) (.type "BaseException") = some true)
    (icT : PySem.W.isClsIn K C_TreesError = true)
    (tyT : PySem.W.typeIn K (.ref C_TreesError) = some (.type "type"))
    (ssT : PySem.W.subIn K (.ref C_NotAPlay) (.ref C_TreesError) = some true)
    (kiN : PySem.W.kitOne K (.ref C_NotAPlay) (.ref C_NotAPlay) = some true)
    (kiT : PySem.W.kitOne K (.ref C_NotAPlay) (.ref C_TreesError) = some true)
    (kiE : PySem.W.kitOne K (.ref C_NotAPlay) (.type "ValueError") = some true)
    (kiV : PySem.W.kitOne K (.ref C_NotAPlay) (.ref C_BadVertex) = some false)
    (kiD : PySem.W.kitOne K (.ref C_NotAPlay) (.ref C_DeadEnd) = some false)
    (kiP : PySem.W.kitOne K (.ref C_NotAPlay) (.ref C_PlanGap) = some false)
    (kiR : PySem.W.kitOne K (.ref C_NotAPlay) (.ref C_BadRow) = some false)
    (z1 : PySem.W.nsIn K mainGlobals "len" = some none)
    (z2 : PySem.W.nsIn K mainGlobals "isinstance" = some none)
    (z3 : PySem.W.nsIn K mainGlobals "int" = some none)
    (z4 : PySem.W.nsIn K mainGlobals "bool" = some none)
    (z5 : PySem.W.nsIn K mainGlobals "range" = some none)
    (z6 : PySem.W.nsIn K mainGlobals "tuple" = some none)
    (z7 : PySem.W.nsIn K mainGlobals "list" = some none)
    (z8 : PySem.W.nsIn K mainGlobals "max" = some none)
    (z9 : PySem.W.nsIn K mainGlobals "min" = some none)
    (z10 : PySem.W.nsIn K mainGlobals "sorted" = some none)
    (z11 : PySem.W.nsIn K mainGlobals "enumerate" = some none)
    (z12 : PySem.W.nsIn K mainGlobals "set" = some none)
    (z13 : PySem.W.nsIn K mainGlobals "repr" = some none)
    (z14 : PySem.W.nsIn K mainGlobals "reversed" = some none)
    (z15 : PySem.W.nsIn K mainGlobals "ValueError" = some none) :
    ∃ fd : FuncData, (∀ (s : Shared) (v : Value), BindsTo s fd ⟨[v], []⟩ [("script", v)]) ∧ ∀ base : Heap, K.In base → base.Ns mainGlobals mg → FnG l.prog w K mg base CX0 6 fa fd ["script"] (spLaw K) := by
  have e := hfa.symm.trans (PySem.W.mg_of X G a18)
  cases e
  have F1 := fun_mk (st := s_as_tuples) l1 c1 k1
  have b1 : Binds K _ ["value"] [] := F1.binds (ps := ["value"]) fun _ _ _ _ _ _ us hl => match us, hl with | [_], _ => rfl
  have m1 := PySem.W.mg_of X G a1
  have F2 := fun_mk (st := s_is_whole) l2 c2 k2
  have b2 : Binds K _ ["value"] [] := F2.binds (ps := ["value"]) fun _ _ _ _ _ _ us hl => match us, hl with | [_], _ => rfl
  have m2 := PySem.W.mg_of X G a2
  have F3 := fun_mk (st := s_Game___init__) l3 c3 k3
  have b3 : Binds K _ ["self", "owners", "priorities", "successors"] [] := F3.binds (ps := ["self", "owners", "priorities", "successors"]) fun _ _ _ _ _ _ us hl => match us, hl with | [_, _, _, _], _ => rfl
  have F4 := fun_mk (st := s_Game___len__) l4 c4 k4
  have b4 : Binds K _ ["self"] [] := F4.binds (ps := ["self"]) fun _ _ _ _ _ _ us hl => match us, hl with | [_], _ => rfl
  have F5 := fun_mk (st := s_is_number_to) l5 c5 k5
  have b5 : Binds K _ ["value", "most"] [] := F5.binds (ps := ["value", "most"]) fun _ _ _ _ _ _ us hl => match us, hl with | [_, _], _ => rfl
  have m5 := PySem.W.mg_of X G a5
  have F6 := fun_mk (st := s_are_successors) l6 c6 k6
  have b6 : Binds K _ ["value", "count"] [] := F6.binds (ps := ["value", "count"]) fun _ _ _ _ _ _ us hl => match us, hl with | [_, _], _ => rfl
  have m6 := PySem.W.mg_of X G a6
  have F7 := fun_mk (st := s_winner_of) l7 c7 k7
  have b7 : Binds K _ ["game", "lead", "ring"] [] := F7.binds (ps := ["game", "lead", "ring"]) fun _ _ _ _ _ _ us hl => match us, hl with | [_, _, _], _ => rfl
  have m7 := PySem.W.mg_of X G a7
  have F8 := fun_mk (st := s_check_walk) l8 c8 k8
  have b8 : Binds K _ ["game", "walk", "steps"] [] := F8.binds (ps := ["game", "walk", "steps"]) fun _ _ _ _ _ _ us hl => match us, hl with | [_, _, _], _ => rfl
  have m8 := PySem.W.mg_of X G a8
  have F9 := fun_mk (st := s__law_whole) l9 c9 k9
  have b9 : Binds K _ ["value"] [] := F9.binds (ps := ["value"]) fun _ _ _ _ _ _ us hl => match us, hl with | [_], _ => rfl
  have m9 := PySem.W.mg_of X G a9
  have F10 := fun_mk (st := s__law_cell) l10 c10 k10
  have b10 : Binds K _ ["script", "k"] [] := F10.binds (ps := ["script", "k"]) fun _ _ _ _ _ _ us hl => match us, hl with | [_, _], _ => rfl
  have m10 := PySem.W.mg_of X G a10
  have F11 := fun_mk (st := s__law_digits) l11 c11 k11
  have b11 : Binds K _ ["cell", "sizes"] [] := F11.binds (ps := ["cell", "sizes"]) fun _ _ _ _ _ _ us hl => match us, hl with | [_, _], _ => rfl
  have m11 := PySem.W.mg_of X G a11
  have F12 := fun_mk (st := s__law_graph) l12 c12 k12
  have b12 : Binds K _ ["script", "at", "count", "top"] [] := F12.binds (ps := ["script", "at", "count", "top"]) fun _ _ _ _ _ _ us hl => match us, hl with | [_, _, _, _], _ => rfl
  have m12 := PySem.W.mg_of X G a12
  have F13 := fun_mk (st := s__law_play) l13 c13 k13
  have b13 : Binds K _ ["game", "cell"] [] := F13.binds (ps := ["game", "cell"]) fun _ _ _ _ _ _ us hl => match us, hl with | [_, _], _ => rfl
  have m13 := PySem.W.mg_of X G a13
  have F14 := fun_mk (st := s__law_long_play) l14 c14 k14
  have b14 : Binds K _ ["game", "cell", "many", "kind"] [] := F14.binds (ps := ["game", "cell", "many", "kind"]) fun _ _ _ _ _ _ us hl => match us, hl with | [_, _, _, _], _ => rfl
  have m14 := PySem.W.mg_of X G a14
  have F15 := fun_mk (st := s__law_fault) l15 c15 k15
  have b15 : Binds K _ ["game", "lead", "ring"] [] := F15.binds (ps := ["game", "lead", "ring"]) fun _ _ _ _ _ _ us hl => match us, hl with | [_, _, _], _ => rfl
  have m15 := PySem.W.mg_of X G a15
  have F16 := fun_mk (st := s__law_edited) l16 c16 k16
  have b16 : Binds K _ ["game", "lead", "ring", "row"] [] := F16.binds (ps := ["game", "lead", "ring", "row"]) fun _ _ _ _ _ _ us hl => match us, hl with | [_, _, _, _], _ => rfl
  have m16 := PySem.W.mg_of X G a16
  have F17 := fun_mk (st := s__law_right) l17 c17 k17
  have b17 : Binds K _ ["made", "game", "lead", "ring", "shape"] [] := F17.binds (ps := ["made", "game", "lead", "ring", "shape"]) fun _ _ _ _ _ _ us hl => match us, hl with | [_, _, _, _, _], _ => rfl
  have m17 := PySem.W.mg_of X G a17
  have F18 := fun_mk (st := s_law) l18 c18 k18
  have m18 := PySem.W.mg_of X G a18
  have mC_Game := PySem.W.mg_of X G aC_Game
  have mg_GREATEST_PRIORITY := PySem.W.mg_of X G g_GREATEST_PRIORITY
  have M : Blt mg := ⟨PySem.W.mg_none_of X G z1, PySem.W.mg_none_of X G z2, PySem.W.mg_none_of X G z3, PySem.W.mg_none_of X G z4, PySem.W.mg_none_of X G z5, PySem.W.mg_none_of X G z6, PySem.W.mg_none_of X G z7, PySem.W.mg_none_of X G z8, PySem.W.mg_none_of X G z9, PySem.W.mg_none_of X G z10, PySem.W.mg_none_of X G z11, PySem.W.mg_none_of X G z12⟩
  refine ⟨PySem.W.fnOf "law" "law" (defArgs s_law) (defBody s_law) (defScope s_law) .none kV18 dc18 pm18 an18 cd18 ct18, fun s v => .of_eq rfl, fun base _ _ => ?_⟩
  have T : GTxt K mg C_Game := ⟨⟨pg_Game, hd_Game, po_Game, sa_Game⟩, n_Game_owners, n_Game_priorities, n_Game_successors, n_Game_top, n_Game_height, n_Game_ceiling, mC_Game, ⟨_, mg_GREATEST_PRIORITY⟩⟩
  have TN : PySem.NotAPlayX.Txt K mg C_NotAPlay fI := { gC := PySem.W.mg_of X G aC_NotAPlay, cls := ⟨nmN, qN, NN, bsN, _, snN, subN, abN, colN, ddN, w0, w1, w2, w3, w5, xN, rfl⟩, sa := saN, ga := gaN, gg := ggN, noN := nbN, iC := iCN, tC := tCN, kC := kCN, exC := eCN, tyC := tyN, hdC := hdN, ca := caN, sp := spN, tk := tkN, mo := moN, fn := ⟨_, _, _, _, _, _, _, _, _, _, _, _, _, _, lI, cI⟩ }
  have ER : Errs K mg C_NotAPlay := ⟨C_TreesError, C_BadVertex, C_DeadEnd, C_PlanGap, C_BadRow, PySem.W.mg_of X G aC_TreesError, PySem.W.mg_of X G aC_BadVertex, PySem.W.mg_of X G aC_DeadEnd, PySem.W.mg_of X G aC_PlanGap, PySem.W.mg_of X G aC_BadRow, PySem.W.mg_none_of X G z15, exm_up bT icT tyT ssT, exm_up eCN icN tyN ssN, kiN, kiT, kiE, kiV, kiD, kiP, kiR⟩
  have Kwhole : Kn l.prog w K mg base 1 "is_whole" ["value"] spWhole := ⟨_, _, ok_whole M F2, b2, k2, m2⟩
  have Klwhole : Kn l.prog w K mg base 1 "_law_whole" ["value"] spWhole := ⟨_, _, ok_lwhole M F9, b9, k9, m9⟩
  have KlwholeH : KnH l.prog w K mg base 1 "_law_whole" ["value"] spWholeH := ⟨_, _, ok_lwholeH M F9, b9, k9, m9⟩
  have Kcell : Kn l.prog w K mg base 1 "_law_cell" ["script", "k"] (spCell K) := ⟨_, _, ok_cell M F10, b10, k10, m10⟩
  have Kdig : Kn l.prog w K mg base 1 "_law_digits" ["cell", "sizes"] (spDigits K) := ⟨_, _, ok_digits M F11, b11, k11, m11⟩
  have Knum : Kn l.prog w K mg base 2 "is_number_to" ["value", "most"] spNumTo := ⟨_, _, ok_numto M F5 Kwhole, b5, k5, m5⟩
  have Ksucc : Kn l.prog w K mg base 2 "are_successors" ["value", "count"] spSucc := ⟨_, _, ok_succ M F6 Kwhole, b6, k6, m6⟩
  have Kas0 : Kn l.prog w K mg base 1 "as_tuples" ["value"] spAs0 := ⟨_, _, ok_as0 M F1 b1 m1, b1, k1, m1⟩
  have Kas1 : Kn l.prog w K mg base 2 "as_tuples" ["value"] spAs1 := ⟨_, _, ok_as1 M F1 Kas0, b1, k1, m1⟩
  have Kas2 : Kn l.prog w K mg base 3 "as_tuples" ["value"] spAs2 := ⟨_, _, ok_as2 M F1 Kas1, b1, k1, m1⟩
  have GG : KG l.prog w K mg base C_Game := ⟨_, _, ⟨mk_Game, a3, i3, kc_Game⟩, ok_init M T F3 Knum Ksucc Kas2, b3⟩
  have GL : KL l.prog w K mg base C_Game := ⟨_, _, ok_len M T F4, b4, a4, i4⟩
  have Kgraph : Kn l.prog w K mg base 2 "_law_graph" ["script", "at", "count", "top"] (spGraph K) := ⟨_, _, ok_graph M F12 Kcell Kdig, b12, k12, m12⟩
  have Kplay : Kn l.prog w K mg base 2 "_law_play" ["game", "cell"] spPlay := ⟨_, _, ok_play M F13 Kdig, b13, k13, m13⟩
  have Klong : Kn l.prog w K mg base 2 "_law_long_play" ["game", "cell", "many", "kind"] spLong := ⟨_, _, ok_long M F14 Kdig, b14, k14, m14⟩
  have Kfault : Kn l.prog w K mg base 1 "_law_fault" ["game", "lead", "ring"] spFault := ⟨_, _, ok_fault M F15, b15, k15, m15⟩
  have Kedit : Kn l.prog w K mg base 1 "_law_edited" ["game", "lead", "ring", "row"] spEdited := ⟨_, _, ok_edited M F16 (PySem.W.mg_none_of X G z14), b16, k16, m16⟩
  have Kck : KnE l.prog w K mg base 3 "check_walk" ["game", "walk", "steps"] (spCheck K C_Game C_NotAPlay) := ⟨_, _, ok_check M T TN F8 GL, b8, k8, m8⟩
  have Kwin : KnX l.prog w K mg base 4 "winner_of" ["game", "lead", "ring"] (spWin C_Game C_NotAPlay) := ⟨_, _, ok_win M T TN F7 Kck, b7, k7, m7⟩
  have Kright : KnG l.prog w K mg base 5 "_law_right" ["made", "game", "lead", "ring", "shape"] (spRight C_Game) := ⟨_, _, ok_right M T TN F17 (PySem.W.mg_none_of X G z13) ER Kwin Kfault Klwhole KlwholeH, b17, k17, m17⟩
  exact ok_law M T TN F18 GG Kcell Kdig Kgraph Kplay Klong Kfault Kedit Klwhole Kright
end GM
open PySem PySem.W PyProof.Rows
set_option maxRecDepth 100000 in
set_option pp.maxSteps 100 in
set_option maxHeartbeats 0 in
theorem PySem.Challenge.cw_holdsalltrees_k36_plays_judged_holds : PySem.Challenge.rw_holdsalltrees_k36_plays_judged.Holds := by
  w_on; o_law; k_head; (case hw => w_witness2)
  k_fill
  refine GM.walk_ofG (l := PySem.Challenge.rw_holdsalltrees_k36_plays_judged) (n := 63) (k := 6) (x := "script") (sp := fun w => GM.spLaw _) rfl (by decide) rfl ⟨rfl, by decide, by decide⟩ (fun w h Y => PySem.W.kIn_of Y) ?F (fun _ _ a ns hl _ hS => ⟨a, ns, rfl, hS, hl, fun _ => rfl⟩)
  case F =>
    intro w mg fa h KX G hmg
    refine' GM.all_mk KX G hmg ?a1 ?l1 ?c1 ?k1 ?a2 ?l2 ?c2 ?k2 ?a3 ?i3 ?l3 ?c3 ?k3 ?a4 ?i4 ?l4 ?c4 ?k4 ?a5 ?l5 ?c5 ?k5 ?a6 ?l6 ?c6 ?k6 ?a7 ?l7 ?c7 ?k7 ?a8 ?l8 ?c8 ?k8 ?a9 ?l9 ?c9 ?k9 ?a10 ?l10 ?c10 ?k10 ?a11 ?l11 ?c11 ?k11 ?a12 ?l12 ?c12 ?k12 ?a13 ?l13 ?c13 ?k13 ?a14 ?l14 ?c14 ?k14 ?a15 ?l15 ?c15 ?k15 ?a16 ?l16 ?c16 ?k16 ?a17 ?l17 ?c17 ?k17 ?a18 ?l18 ?c18 ?k18 ?aC_Game ?pg_Game ?hd_Game ?po_Game ?sa_Game ?mk_Game ?kc_Game ?n_Game_owners ?n_Game_priorities ?n_Game_successors ?n_Game_top ?n_Game_height ?n_Game_ceiling ?g_GREATEST_PRIORITY ?aC_NotAPlay ?aC_TreesError ?aC_BadVertex ?aC_DeadEnd ?aC_PlanGap ?aC_BadRow ?xN ?saN ?gaN ?ggN ?nbN ?iCN ?tCN ?lI ?cI ?kCN ?eCN ?tyN ?hdN ?caN ?spN ?tkN ?moN ?icN ?ssN ?bT ?icT ?tyT ?ssT ?kiN ?kiT ?kiE ?kiV ?kiD ?kiP ?kiR ?z1 ?z2 ?z3 ?z4 ?z5 ?z6 ?z7 ?z8 ?z9 ?z10 ?z11 ?z12 ?z13 ?z14 ?z15
    (case aC_Game => k_is)
    (case aC_NotAPlay => k_is)
    (case aC_TreesError => k_is)
    (case aC_BadVertex => k_is)
    (case aC_DeadEnd => k_is)
    (case aC_PlanGap => k_is)
    (case aC_BadRow => k_is)
    (case a1 => k_is)
    (case l1 => k_is)
    (case c1 => k_is)
    (case k1 => k_is)
    (case a2 => k_is)
    (case l2 => k_is)
    (case c2 => k_is)
    (case k2 => k_is)
    (case a3 => k_is)
    (case i3 => k_is)
    (case l3 => k_is)
    (case c3 => k_is)
    (case k3 => k_is)
    (case a4 => k_is)
    (case i4 => k_is)
    (case l4 => k_is)
    (case c4 => k_is)
    (case k4 => k_is)
    (case a5 => k_is)
    (case l5 => k_is)
    (case c5 => k_is)
    (case k5 => k_is)
    (case a6 => k_is)
    (case l6 => k_is)
    (case c6 => k_is)
    (case k6 => k_is)
    (case a7 => k_is)
    (case l7 => k_is)
    (case c7 => k_is)
    (case k7 => k_is)
    (case a8 => k_is)
    (case l8 => k_is)
    (case c8 => k_is)
    (case k8 => k_is)
    (case a9 => k_is)
    (case l9 => k_is)
    (case c9 => k_is)
    (case k9 => k_is)
    (case a10 => k_is)
    (case l10 => k_is)
    (case c10 => k_is)
    (case k10 => k_is)
    (case a11 => k_is)
    (case l11 => k_is)
    (case c11 => k_is)
    (case k11 => k_is)
    (case a12 => k_is)
    (case l12 => k_is)
    (case c12 => k_is)
    (case k12 => k_is)
    (case a13 => k_is)
    (case l13 => k_is)
    (case c13 => k_is)
    (case k13 => k_is)
    (case a14 => k_is)
    (case l14 => k_is)
    (case c14 => k_is)
    (case k14 => k_is)
    (case a15 => k_is)
    (case l15 => k_is)
    (case c15 => k_is)
    (case k15 => k_is)
    (case a16 => k_is)
    (case l16 => k_is)
    (case c16 => k_is)
    (case k16 => k_is)
    (case a17 => k_is)
    (case l17 => k_is)
    (case c17 => k_is)
    (case k17 => k_is)
    (case a18 => k_is)
    (case l18 => k_is)
    (case c18 => k_is)
    (case k18 => k_is)
    (case pg_Game => k_is)
    (case hd_Game => k_is)
    (case po_Game => k_is)
    (case sa_Game => k_is)
    (case mk_Game => k_is)
    (case kc_Game => k_is)
    (case n_Game_owners => k_is)
    (case n_Game_priorities => k_is)
    (case n_Game_successors => k_is)
    (case n_Game_top => k_is)
    (case n_Game_height => k_is)
    (case n_Game_ceiling => k_is)
    (case g_GREATEST_PRIORITY => k_is)
    (case xN => k_is)
    (case saN => k_is)
    (case gaN => k_is)
    (case ggN => k_is)
    (case nbN => k_is)
    (case iCN => k_is)
    (case tCN => k_is)
    (case lI => k_is)
    (case cI => k_is)
    (case kCN => k_is)
    (case eCN => k_is)
    (case tyN => k_is)
    (case hdN => k_is)
    (case caN => k_is)
    (case spN => k_is)
    (case tkN => k_is)
    (case moN => k_is)
    (case icN => k_is)
    (case ssN => first | rfl | k_is)
    (case bT => k_is)
    (case icT => k_is)
    (case tyT => k_is)
    (case ssT => k_is)
    (case kiN => kit_is)
    (case kiT => kit_is)
    (case kiE => kit_is)
    (case kiV => kit_is)
    (case kiD => kit_is)
    (case kiP => kit_is)
    (case kiR => kit_is)
    (case z1 => k_is)
    (case z2 => k_is)
    (case z3 => k_is)
    (case z4 => k_is)
    (case z5 => k_is)
    (case z6 => k_is)
    (case z7 => k_is)
    (case z8 => k_is)
    (case z9 => k_is)
    (case z10 => k_is)
    (case z11 => k_is)
    (case z12 => k_is)
    (case z13 => k_is)
    (case z14 => k_is)
    (case z15 => k_is)
