import PyProof.Rows.All
import Wide.All
import OpenK.AllK
import Wide.FinOn
import HandS.ForMost
import HandS.ForExc
import HandS.Defaults
import HandS.IsInst
import HandS.Flow
import HandS.Conv
import HandS.TupAny
import HandS.TupMul
import HandS.More
import HandS.Strs
import HandS.SortKw
import HandS.MakeKwOnly
import KE.DataMinMax
import KE.GoesEnum
import HandS.Iter
import HandS.SetFor
import HandS.Star
import HandS.Codes
import OpenK.KOps
import PyProof.ReprRoads
import PyProof.ReprBulk
import HandS.Rev
import KE.KDictList
import HandS.ExcCtx
import HandS.HotCalls
import KE.KExcIs
import HandS.OwnEq
import HandS.DictComp
import HandS.Dict
import KE.KEqDeep
import HandS.Style
import HandS.ExcInitHot
import PySem.Challenge.RW_holdsalltrees_k31_turned_and_restricted
set_option Elab.async false
set_option linter.all false
set_option maxRecDepth 100000
set_option maxHeartbeats 4000000
namespace GM
open PySem PySem.Spec PyProof.Rows L2
/-! ### a def that is known by its promise -/
structure Kn (P : Program) (w : World) (K : PySem.W.Frag) (mg : Str → Option Value) (base : Heap) (k : Nat) (x : Str) (ps : List Str) (sp : Sp) where
  f : Addr
  fd : FuncData
  ok : FnOk P w K mg base CX0 k f fd ps sp
  b : Binds K fd ps []
  kp : PySem.W.keepIn K (.ref f) = true
  m : mg x = some (.ref f)
/-! ### heaps -/
theorem same_new {H : Hp} {p : Addr} (h : H p = none) (o : HO) : Same H (upd H p o) := fun b u q => by rw [upd_ne (ne_of_none q h)]; exact q
theorem same_upd {H H' : Hp} {p : Addr} (s : Same H H') (h : H p = none) (o : HO) : Same H (upd H' p o) := fun b u q => by
  rw [upd_ne (ne_of_none q h)]
  exact s b u q
theorem lt_line {n : Nat} (h : n ≤ 1000) : n < sizeLine := small1000 h
theorem le_line {n : Nat} (h : n ≤ 1000) : n ≤ sizeLine := Nat.le_of_lt (small1000 h)
theorem pr_get {α β : Type} {F : α → β → Prop} : ∀ {as : List α} {bs : List β} {i : Nat} {a : α}, Paired F as bs → as[i]? = some a → ∃ b, bs[i]? = some b ∧ F a b
  | _, _, _, _, .nil, e => by simp at e
  | _, _, 0, _, .cons r _, e => by simp at e; subst e; exact ⟨_, rfl, r⟩
  | _, _, i + 1, _, .cons _ t, e => by simpa using pr_get (i := i) t (by simpa using e)
theorem pr_getR {α β : Type} {F : α → β → Prop} : ∀ {as : List α} {bs : List β} {i : Nat} {b : β}, Paired F as bs → bs[i]? = some b → ∃ a, as[i]? = some a ∧ F a b
  | _, _, _, _, .nil, e => by simp at e
  | _, _, 0, _, .cons r _, e => by simp at e; subst e; exact ⟨_, rfl, r⟩
  | _, _, i + 1, _, .cons _ t, e => by simpa using pr_getR (i := i) t (by simpa using e)
theorem map_atV {α : Type} {f : α → V} {l : List α} {i : Nat} {x : V} (h : (l.map f)[i]? = some x) : ∃ s, l[i]? = some s ∧ x = f s := by
  rw [List.getElem?_map] at h
  obtain ⟨s, hs, rfl⟩ := Option.map_eq_some_iff.mp h
  exact ⟨s, hs, rfl⟩
theorem map_at {l : List Int} {i : Nat} {x : V} (h : (l.map V.int)[i]? = some x) : ∃ s, l[i]? = some s ∧ x = .int s := map_atV h
theorem at_map {α : Type} {f : α → V} {l : List α} {i : Nat} {s : α} (h : l[i]? = some s) : (l.map f)[i]? = some (f s) := by
  rw [List.getElem?_map, h]
  rfl
theorem tk1 {α : Type} {l : List α} {i : Nat} {s : α} (h : l[i]? = some s) : l.take (i + 1) = l.take i ++ [s] := by
  rw [List.take_add_one, h]
  rfl
theorem lt_of_at {α : Type} {l : List α} {i : Nat} {s : α} (h : l[i]? = some s) : i < l.length := (List.getElem?_eq_some_iff.mp h).1
theorem seqT_same {K : PySem.W.Frag} {H H' : Hp} {a : Addr} {xs : List V} (e : Same H H') (h : SqT K H a xs) : SqT K H' a xs := by
  rcases h with (h | ⟨o, h⟩) | h
  · exact .inl (.inl (e _ _ h))
  · exact .inl (.inr ⟨o, e _ _ h⟩)
  · exact .inr h
theorem sqT {K : PySem.W.Frag} {H : Hp} {a : Addr} {xs : List V} (h : H a = some (.tup xs)) : SqT K H a xs := .inl (.inl h)
theorem tYI {σ : L2.St} {H : Hp} {A B : Hp → Prop} (h : A H) : tYes σ H (fun b H3 => if b = true then A H3 else B H3) := (show if true = true then A H else B H from iteT h)
/-! ### comprehensions whose items are made without a change of the heap -/
section
variable {K : PySem.W.Frag} {a : Addr} {xs : List V} {g : TG} {tt : TT} {te : TE} {vs : List Nat} {σ : L2.St} {H1 : Hp} {D : Addr} {Qd : Hp → Prop}
theorem lc_mapL (f : Nat → V → V) (hlen : xs.length ≤ 1000) (hS : SqL K H1 a xs) (hD : H1 D = none)
    (hs : ∀ i x H (k : V → Hp → Prop) (n : Hp → Prop), xs[i]? = some x → Same H1 H → k (f i x) H → g x (wipe σ vs) H fun σ2 H2 => wipe σ2 vs = wipe σ vs ∧ tt σ2 H2 fun b H3 => if b = true then te σ2 H3 k else n H3)
    (hd : ∀ H', Same H1 H' → H' D = some (.lst (xs.mapIdx f)) → Qd H') :
    ∃ W : Nat → Nat → Hp → Prop, (∃ m, W 0 m (upd H1 D (.lst []))) ∧ ∀ i m H, W i m H →
      ((Itl K a).stop i H ∧ Qd H) ∨ ((Itl K a).go i H ∧ ∃ Nx : Hp → Prop, (∀ H', Nx H' → ∃ m', m' < m ∧ W (i + 1) m' H') ∧ ∀ x H', (Itl K a).yld i H x H' → g x (wipe σ vs) H' fun σ2 H2 => wipe σ2 vs = wipe σ vs ∧ tt σ2 H2 fun b H3 =>
        if b = true then te σ2 H3 fun y H4 => ∃ acc, H4 D = some (.lst acc) ∧ acc.length < sizeLine ∧ Nx (upd H4 D (.lst (acc ++ [y]))) else Nx H3) := by
  refine lc_list (xs := xs) (fun i H => Same H1 H ∧ H D = some (.lst ((xs.mapIdx f).take i))) ⟨same_new hD _, upd_same⟩ (fun i H _ z => z.1.seq hS) ?_ ?_
  · rintro i x H hx ⟨sm, eD⟩
    have hm : (xs.mapIdx f)[i]? = some (f i x) := by rw [List.getElem?_mapIdx, hx]; rfl
    have hl : ((xs.mapIdx f).take i).length < sizeLine := by
      refine lt_line (Nat.le_trans (List.length_take_le _ _) ?_)
      exact Nat.le_of_lt (Nat.lt_of_lt_of_le (lt_of_at hx) hlen)
    refine hs i x H _ (fun H3 => Same H1 H3 ∧ H3 D = some (.lst ((xs.mapIdx f).take (i + 1)))) hx sm ⟨_, eD, hl, same_upd sm hD _, ?_⟩
    rw [upd_same, tk1 hm]
  · rintro H ⟨sm, eD⟩
    refine hd H sm ?_
    rw [eD, List.take_of_length_le (by rw [List.length_mapIdx]; exact Nat.le_refl _)]
theorem lc_mapT (f : Nat → V → V) (hlen : xs.length ≤ 1000) (hS : SqT K H1 a xs) (hD : H1 D = none)
    (hs : ∀ i x H (k : V → Hp → Prop) (n : Hp → Prop), xs[i]? = some x → Same H1 H → k (f i x) H → g x (wipe σ vs) H fun σ2 H2 => wipe σ2 vs = wipe σ vs ∧ tt σ2 H2 fun b H3 => if b = true then te σ2 H3 k else n H3)
    (hd : ∀ H', Same H1 H' → H' D = some (.lst (xs.mapIdx f)) → Qd H') :
    ∃ W : Nat → Nat → Hp → Prop, (∃ m, W 0 m (upd H1 D (.lst []))) ∧ ∀ i m H, W i m H →
      ((Itt K a).stop i H ∧ Qd H) ∨ ((Itt K a).go i H ∧ ∃ Nx : Hp → Prop, (∀ H', Nx H' → ∃ m', m' < m ∧ W (i + 1) m' H') ∧ ∀ x H', (Itt K a).yld i H x H' → g x (wipe σ vs) H' fun σ2 H2 => wipe σ2 vs = wipe σ vs ∧ tt σ2 H2 fun b H3 =>
        if b = true then te σ2 H3 fun y H4 => ∃ acc, H4 D = some (.lst acc) ∧ acc.length < sizeLine ∧ Nx (upd H4 D (.lst (acc ++ [y]))) else Nx H3) := by
  refine lc_tup (xs := xs) (fun i H => Same H1 H ∧ H D = some (.lst ((xs.mapIdx f).take i))) ⟨same_new hD _, upd_same⟩ (fun i H _ z => seqT_same z.1 hS) ?_ ?_
  · rintro i x H hx ⟨sm, eD⟩
    have hm : (xs.mapIdx f)[i]? = some (f i x) := by rw [List.getElem?_mapIdx, hx]; rfl
    have hl : ((xs.mapIdx f).take i).length < sizeLine := by
      refine lt_line (Nat.le_trans (List.length_take_le _ _) ?_)
      exact Nat.le_of_lt (Nat.lt_of_lt_of_le (lt_of_at hx) hlen)
    refine hs i x H _ (fun H3 => Same H1 H3 ∧ H3 D = some (.lst ((xs.mapIdx f).take (i + 1)))) hx sm ⟨_, eD, hl, same_upd sm hD _, ?_⟩
    rw [upd_same, tk1 hm]
  · rintro H ⟨sm, eD⟩
    refine hd H sm ?_
    rw [eD, List.take_of_length_le (by rw [List.length_mapIdx]; exact Nat.le_refl _)]
theorem range_at {n i : Nat} (h : i < n) : (List.range n)[i]? = some i := by rw [List.getElem?_range h]
theorem lc_mapR {n : Nat} (f : Nat → V) (hlen : n ≤ 1000) (hD : H1 D = none)
    (hs : ∀ i H (k : V → Hp → Prop) (nn : Hp → Prop), i < n → Same H1 H → k (f i) H → g (.int (0 + i)) (wipe σ vs) H fun σ2 H2 => wipe σ2 vs = wipe σ vs ∧ tt σ2 H2 fun b H3 => if b = true then te σ2 H3 k else nn H3)
    (hd : ∀ H', Same H1 H' → H' D = some (.lst ((List.range n).map f)) → Qd H') :
    ∃ W : Nat → Nat → Hp → Prop, (∃ m, W 0 m (upd H1 D (.lst []))) ∧ ∀ i m H, W i m H →
      ((Itr 0 n).stop i H ∧ Qd H) ∨ ((Itr 0 n).go i H ∧ ∃ Nx : Hp → Prop, (∀ H', Nx H' → ∃ m', m' < m ∧ W (i + 1) m' H') ∧ ∀ x H', (Itr 0 n).yld i H x H' → g x (wipe σ vs) H' fun σ2 H2 => wipe σ2 vs = wipe σ vs ∧ tt σ2 H2 fun b H3 =>
        if b = true then te σ2 H3 fun y H4 => ∃ acc, H4 D = some (.lst acc) ∧ acc.length < sizeLine ∧ Nx (upd H4 D (.lst (acc ++ [y]))) else Nx H3) := by
  refine lc_range (lo := 0) (n := n) (fun i H => i ≤ n ∧ Same H1 H ∧ H D = some (.lst ((List.range i).map f))) ⟨Nat.zero_le _, same_new hD _, upd_same⟩ ?_ ?_
  · rintro i H hi ⟨_, sm, eD⟩
    have hl : ((List.range i).map f).length < sizeLine := by
      rw [List.length_map, List.length_range]
      exact lt_line (by omega)
    refine hs i H _ (fun H3 => i + 1 ≤ n ∧ Same H1 H3 ∧ H3 D = some (.lst ((List.range (i + 1)).map f))) hi sm ⟨_, eD, hl, by omega, same_upd sm hD _, ?_⟩
    rw [upd_same, List.range_succ, List.map_append]
    rfl
  · rintro H ⟨_, sm, eD⟩
    exact hd H sm eD
/-- items that are new objects, over a range -/
theorem lc_newR {n : Nat} (c : Nat → HO) (hlen : n ≤ 1000) (hD : H1 D = none)
    (hs : ∀ i H (k : V → Hp → Prop) (nn : Hp → Prop), i < n → Same H1 H → (∀ p H', Same H H' → H p = none → H' p = some (c i) → k (.ref p) H') → g (.int (0 + i)) (wipe σ vs) H fun σ2 H2 => wipe σ2 vs = wipe σ vs ∧ tt σ2 H2 fun b H3 => if b = true then te σ2 H3 k else nn H3)
    (hd : ∀ H' ps, Same H1 H' → H' D = some (.lst (ps.map V.ref)) → Paired (fun p i => H1 p = none ∧ p ≠ D ∧ H' p = some (c i)) ps (List.range n) → Qd H') :
    ∃ W : Nat → Nat → Hp → Prop, (∃ m, W 0 m (upd H1 D (.lst []))) ∧ ∀ i m H, W i m H →
      ((Itr 0 n).stop i H ∧ Qd H) ∨ ((Itr 0 n).go i H ∧ ∃ Nx : Hp → Prop, (∀ H', Nx H' → ∃ m', m' < m ∧ W (i + 1) m' H') ∧ ∀ x H', (Itr 0 n).yld i H x H' → g x (wipe σ vs) H' fun σ2 H2 => wipe σ2 vs = wipe σ vs ∧ tt σ2 H2 fun b H3 =>
        if b = true then te σ2 H3 fun y H4 => ∃ acc, H4 D = some (.lst acc) ∧ acc.length < sizeLine ∧ Nx (upd H4 D (.lst (acc ++ [y]))) else Nx H3) := by
  refine lc_range (lo := 0) (n := n) (fun i H => i ≤ n ∧ Same H1 H ∧ ∃ ps : List Addr, H D = some (.lst (ps.map V.ref)) ∧ Paired (fun p i => H1 p = none ∧ p ≠ D ∧ H p = some (c i)) ps (List.range i)) ⟨Nat.zero_le _, same_new hD _, [], upd_same, .nil⟩ ?_ ?_
  · rintro i H hi ⟨_, sm, ps, eD, pw⟩
    have lp : ps.length = i := by rw [pw.length, List.length_range]
    refine hs i H _ (fun H3 => i + 1 ≤ n ∧ Same H1 H3 ∧ ∃ ps : List Addr, H3 D = some (.lst (ps.map V.ref)) ∧ Paired (fun p i => H1 p = none ∧ p ≠ D ∧ H3 p = some (c i)) ps (List.range (i + 1))) hi sm fun p H' s' hp e' => ⟨_, s' _ _ eD, ?_, by omega, same_upd (sm.trans s') hD _, ps ++ [p], ?_, ?_⟩
    · rw [List.length_map, lp]; exact lt_line (by omega)
    · rw [upd_same, List.map_append]; rfl
    · rw [List.range_succ]
      have hpD : p ≠ D := fun z => by rw [z, eD] at hp; cases hp
      refine (L2.Paired.mapP pw fun b j z => ⟨z.1, z.2.1, by rw [upd_ne z.2.1]; exact s' _ _ z.2.2⟩).snoc ⟨sm.free hp, hpD, by rw [upd_ne hpD]; exact e'⟩
  · rintro H ⟨_, sm, ps, eD, pw⟩
    exact hd H ps sm eD pw
/-- items that are new objects, over a list -/
theorem lc_newL (R : Nat → V → HO → Prop) (hlen : xs.length ≤ 1000) (hS : SqL K H1 a xs) (hD : H1 D = none)
    (hs : ∀ i x H (k : V → Hp → Prop) (nn : Hp → Prop), xs[i]? = some x → Same H1 H → (∀ p o H', Same H H' → H p = none → H' p = some o → R i x o → k (.ref p) H') → g x (wipe σ vs) H fun σ2 H2 => wipe σ2 vs = wipe σ vs ∧ tt σ2 H2 fun b H3 => if b = true then te σ2 H3 k else nn H3)
    (hd : ∀ H' (ps : List Addr), Same H1 H' → H' D = some (.lst (ps.map V.ref)) → ps.length = xs.length → (∀ i p x, ps[i]? = some p → xs[i]? = some x → ∃ o, H1 p = none ∧ p ≠ D ∧ H' p = some o ∧ R i x o) → Qd H') :
    ∃ W : Nat → Nat → Hp → Prop, (∃ m, W 0 m (upd H1 D (.lst []))) ∧ ∀ i m H, W i m H →
      ((Itl K a).stop i H ∧ Qd H) ∨ ((Itl K a).go i H ∧ ∃ Nx : Hp → Prop, (∀ H', Nx H' → ∃ m', m' < m ∧ W (i + 1) m' H') ∧ ∀ x H', (Itl K a).yld i H x H' → g x (wipe σ vs) H' fun σ2 H2 => wipe σ2 vs = wipe σ vs ∧ tt σ2 H2 fun b H3 =>
        if b = true then te σ2 H3 fun y H4 => ∃ acc, H4 D = some (.lst acc) ∧ acc.length < sizeLine ∧ Nx (upd H4 D (.lst (acc ++ [y]))) else Nx H3) := by
  refine lc_list (xs := xs) (fun i H => Same H1 H ∧ ∃ ps : List Addr, H D = some (.lst (ps.map V.ref)) ∧ ps.length = i ∧ ∀ j p x, ps[j]? = some p → xs[j]? = some x → ∃ o, H1 p = none ∧ p ≠ D ∧ H p = some o ∧ R j x o) ⟨same_new hD _, [], upd_same, rfl, fun j p x e => by simp at e⟩ (fun i H _ z => z.1.seq hS) ?_ ?_
  · rintro i x H hx ⟨sm, ps, eD, lp, pw⟩
    refine hs i x H _ (fun H3 => Same H1 H3 ∧ ∃ ps : List Addr, H3 D = some (.lst (ps.map V.ref)) ∧ ps.length = i + 1 ∧ ∀ j p x, ps[j]? = some p → xs[j]? = some x → ∃ o, H1 p = none ∧ p ≠ D ∧ H3 p = some o ∧ R j x o) hx sm fun p o H' s' hp e' r => ⟨_, s' _ _ eD, ?_, same_upd (sm.trans s') hD _, ps ++ [p], ?_, ?_, ?_⟩
    · rw [List.length_map, lp]; exact lt_line (Nat.le_of_lt (Nat.lt_of_lt_of_le (lt_of_at hx) hlen))
    · rw [upd_same, List.map_append]; rfl
    · rw [List.length_append, lp]; rfl
    · intro j q y hq hy
      have hpD : p ≠ D := fun z => by rw [z, eD] at hp; cases hp
      by_cases hj : j < i
      · rw [List.getElem?_append_left (by omega)] at hq
        obtain ⟨o2, z1, z2, z3, z4⟩ := pw j q y hq hy
        exact ⟨o2, z1, z2, by rw [upd_ne z2]; exact s' _ _ z3, z4⟩
      · have hji : j = i := by
          have := lt_of_at hq
          rw [List.length_append, lp] at this
          simp only [List.length_cons, List.length_nil] at this
          omega
        subst hji
        rw [List.getElem?_append_right (by omega), lp, Nat.sub_self] at hq
        simp at hq
        subst hq
        rw [hx] at hy
        cases hy
        exact ⟨o, sm.free hp, hpD, by rw [upd_ne hpD]; exact e', r⟩
  · rintro H ⟨sm, ps, eD, lp, pw⟩
    exact hd H ps sm eD lp pw
end
/-! ### max(t, default=d) of a tuple of ints -/
section
variable {X : Cx}
theorem depth_ints : ∀ ns : List Int, PyData.depthAll (ns.map PyData.int) = 0
  | [] => rfl
  | n :: ns => by
    rw [List.map_cons]
    show max (PyData.depth (.int n)) (PyData.depthAll (ns.map PyData.int)) = 0
    rw [depth_ints ns]
    rfl
theorem dp_ints {K : PySem.W.Frag} {H : Hp} : ∀ ns : List Int, DpAll K H (ns.map V.int) (ns.map PyData.int)
  | [] => .nil
  | n :: ns => .cons (.int n) (dp_ints ns)
theorem alike_ints (ns : List Int) : PySem.W.AlikeAll (ns.map PyData.int) := by
  constructor
  · intro x hx y hy
    obtain ⟨i, _, rfl⟩ := List.mem_map.mp hx
    obtain ⟨j, _, rfl⟩ := List.mem_map.mp hy
    rfl
  · intro x hx e
    obtain ⟨i, _, rfl⟩ := List.mem_map.mp hx
    cases e
theorem foldl_max_ge (l : List Int) : ∀ a : Int, a ≤ l.foldl max a ∧ (∀ y ∈ l, y ≤ l.foldl max a) ∧ (l.foldl max a = a ∨ l.foldl max a ∈ l) := by
  induction l with
  | nil => exact fun a => ⟨Int.le_refl _, fun y h => (nomatch h), .inl rfl⟩
  | cons b l ih =>
    intro a
    obtain ⟨h1, h2, h3⟩ := ih (max a b)
    have e : (b :: l).foldl max a = l.foldl max (max a b) := rfl
    rw [e]
    refine ⟨by omega, fun y hy => ?_, ?_⟩
    · rcases List.mem_cons.mp hy with rfl | hy
      · omega
      · exact h2 y hy
    · rcases h3 with h3 | h3
      · by_cases c : a ≤ b
        · right; rw [h3, Int.max_eq_right c]; exact List.mem_cons_self
        · left; rw [h3, Int.max_eq_left (by omega)]
      · right; exact List.mem_cons_of_mem _ h3
def rMaxDef (K : PySem.W.Frag) : List V → List V → Hp → VK → Prop := fun vs zs H Q => ∃ (a : Addr) (ns : List Int) (d : Int), vs = [.ref a] ∧ zs = [.int d] ∧ SqT K H a (ns.map V.int) ∧
  (ns = [] → Q (.int d) H) ∧ ∀ m, m ∈ ns → (∀ y ∈ ns, y ≤ m) → Q (.int m) H
theorem cr_maxDef (hc : X.calm = true) (hu : X.A.units + 2 < cLine) : CallRK X (.builtin "max") [Str.ofString "default"] (rMaxDef X.K) := by
  intro pins s σ H vs zs us ws Q I r rz h
  obtain ⟨a, ns, d, rfl, rfl, hT, q0, q⟩ := h
  obtain ⟨its, rv, hl, hz⟩ := I.tuple hT
  obtain ⟨as, ra⟩ := Dp.readsAll I (ns.map PyData.int) (ns.map V.int) its (dp_ints ns) rv
  rw [Vals.ref1 r]
  obtain ⟨u0, e0, r0⟩ : ∃ u0, ws = [u0] ∧ RelV (.int d) u0 := by
    cases rz with
    | cons h t =>
      cases t
      exact ⟨_, rfl, h⟩
  subst e0
  show wpAny (model X.prog X.w) X.A (call (.builtin "max") [.ref a] [(Str.ofString "default", u0)]) (EP X pins σ Q) X.xe s
  refine PySem.W.max_tuple_default (I.ok.hd hc) hl ra (alike_ints ns) (by rw [depth_ints]; omega) (fun e h' tk hk => ?_) (fun y ys i v h' tk bs e hi hr hk => ?_)
  · exact ⟨.int d, H, I.kept hk, r0, q0 (List.map_eq_nil_iff.mp e)⟩
  · cases ns with
    | nil => cases e
    | cons n ns =>
      rw [List.map_cons] at e
      injection e with e1 e2
      subst e1
      subst e2
      rw [PySem.W.maxD_ints] at hr
      cases hr with
      | int j t =>
        obtain ⟨h1, h2, h3⟩ := foldl_max_ge ns n
        refine ⟨.int _, H, I.kept hk, ⟨_, rfl⟩, q _ ?_ ?_⟩
        · rcases h3 with h3 | h3
          · rw [h3]; exact List.mem_cons_self
          · exact List.mem_cons_of_mem _ h3
        · intro y hy
          rcases List.mem_cons.mp hy with rfl | hy
          · exact h1
          · exact h2 y hy
end
end GM
set_option Elab.async false
set_option linter.all false
set_option maxRecDepth 100000
set_option maxHeartbeats 4000000
namespace GM
open PySem PySem.Spec PyProof.Rows L2
theorem tuple_mul1 (l : Addr) (items : Array Value) (n : Nat) (dd : Option Addr) (sl : Array (Option Value)) (u : Tok) :
    Meets (Builtin.«tuple.__mul__» ⟨[.ref l, .int 1 u], []⟩) (fun _ R s => s.heap.get? l = some { cls := .type "tuple", dict := dd, data := .seq items n, slots := sl } ∧
      R (.ok (.ret (Value.ref l))) s) :=
  .of_wp fun prog w A R s h => by
    obtain ⟨hp, g, d, tk, os⟩ := s
    obtain ⟨hl, h⟩ := h
    have f1 := AutoSeq1.idx_int
    wp_walk using wpAny_loadPart' hl
    repeat (first
      | (refine wpAny_ite_false (by decide) ?_; wp_walk using wpAny_loadPart' hl)
      | (refine wpAny_ite_true (by cases items.isEmpty <;> rfl) ?_; wp_walk using wpAny_loadPart' hl))
    exact ⟨_, rfl, h⟩
/-- a tuple once: itself -/
def rRepT1 (K : PySem.W.Frag) : R2 := fun x y H Q => ∃ l xs, x = .ref l ∧ y = .int 1 ∧ SqT K H l xs ∧ Q (.ref l) H
section
variable {X : Cx}
theorem op_repT1 : OpR X (binaryOp .Mult) (rRepT1 X.K) := by
  intro pins s σ H x y v u Q I rx ry h
  obtain ⟨l, xs, rfl, rfl, hT, q⟩ := h
  cases rx
  obtain ⟨t, rfl⟩ := ry
  obtain ⟨its, r, ⟨⟨cls, dd, data, sl⟩, ho, hc, n, hd⟩, hs⟩ := I.tuple hT
  simp only at hc hd
  subst hc hd
  refine wpAny_binaryOp_repeat_ref (T := "tuple") (U := "int") (by decide) ⟨_, ho, rfl⟩ (fun s' => typeIs_int s' 1 t) noFill_tuple_mul F.fills_int_mul F.slot_int_rmul repeat_tuple F.slot_int_index.lookup
    (call_meets F.slot_int_rmul (typeIs_int s 1 t) F.entry_int_rmul (F.args_int_rmul_2 _ _) (int_rmul_tuple 1 t l its.toArray n dd sl)
      ⟨ho, rfl, ⟨_, ho, rfl⟩, call_meets F.slot_tuple_mul ⟨_, ho, rfl⟩ F.entry_tuple_mul (F.args_tuple_mul_2 _ _) (tuple_mul1 l its.toArray n dd sl t) ⟨ho, ?_⟩⟩)
  exact ⟨.ref l, H, I, rfl, q⟩
end
/-- the built-ins that the module doesn't name anew -/
structure Blt (mg : Str → Option Value) : Prop where
  len : mg "len" = none
  isinstance : mg "isinstance" = none
  int : mg "int" = none
  bool : mg "bool" = none
  range : mg "range" = none
  tuple : mg "tuple" = none
  list : mg "list" = none
  max : mg "max" = none
  min : mg "min" = none
  sorted : mg "sorted" = none
  enumerate : mg "enumerate" = none
  set : mg "set" = none
end GM
set_option Elab.async false
set_option linter.all false
set_option maxRecDepth 100000
set_option maxHeartbeats 4000000
namespace GM
open PySem PySem.Spec PyProof.Rows L2
/-! ### cuts, sums of tuples, equal data -/
theorem slA {K : PySem.W.Frag} {H : Hp} {a : Addr} {xs : List V} {lo hi : Option Int} {Q : V → Hp → Prop} (e : H a = some (.tup xs)) (k : ∀ r H', Same H H' → H' r = some (.tup (cutV xs lo hi)) → Q (.ref r) H') : rSlA K (.ref a) lo hi H Q := by
  refine ⟨a, xs, rfl, sqT e, fun h => k a H (.refl _) ?_, fun _ p hp => k p _ (same_new hp _) upd_same⟩
  rw [e]
  unfold cutV
  rw [h.1, h.2, List.drop_zero, Nat.sub_zero, List.take_length]
theorem catA2 {K : PySem.W.Frag} {H : Hp} {a b : Addr} {xs ys : List V} {Q : V → Hp → Prop} (ea : H a = some (.tup xs)) (eb : H b = some (.tup ys)) (hl : xs.length + ys.length ≤ sizeLine) (k : ∀ r H', Same H H' → H' r = some (.tup (xs ++ ys)) → Q (.ref r) H') : rCatA K (.ref a) (.ref b) H Q := by
  refine ⟨a, b, xs, ys, rfl, rfl, sqT ea, sqT eb, hl, fun h => k b H (.refl _) ?_, fun _ h => k a H (.refl _) ?_, fun _ _ p hp => k p _ (same_new hp _) upd_same⟩
  · rw [h]; exact eb
  · rw [h, List.append_nil]; exact ea
theorem cut_hi (xs : List V) (j : Nat) : cutV xs none (some (j : Int)) = xs.take j := by
  unfold cutV
  have e1 : HT.sIx xs.length xs.length (some (j : Int)) = min j xs.length := HT.sIx_nat xs.length xs.length j
  rw [e1, HT.sIx_none, List.drop_zero, Nat.sub_zero]
  by_cases h : j ≤ xs.length
  · rw [Nat.min_eq_left h]
  · rw [Nat.min_eq_right (by omega), List.take_length, List.take_of_length_le (by omega)]
theorem cut_lo (xs : List V) (j : Nat) : cutV xs (some (j : Int)) none = xs.drop j := by
  unfold cutV
  have e1 : HT.sIx xs.length 0 (some (j : Int)) = min j xs.length := HT.sIx_nat xs.length 0 j
  rw [e1, HT.sIx_none]
  by_cases h : j ≤ xs.length
  · rw [Nat.min_eq_left h, ← List.length_drop, List.take_length]
  · rw [Nat.min_eq_right (by omega), Nat.sub_self, List.take_zero, List.drop_of_length_le (by omega)]
theorem cut_mid (xs : List V) (i k : Nat) (h : i + k ≤ xs.length) : cutV xs (some (i : Int)) (some ((i + k : Nat) : Int)) = (xs.drop i).take k := by
  unfold cutV
  have e1 : HT.sIx xs.length 0 (some (i : Int)) = min i xs.length := HT.sIx_nat xs.length 0 i
  have e2 : HT.sIx xs.length xs.length (some ((i + k : Nat) : Int)) = min (i + k) xs.length := HT.sIx_nat xs.length xs.length (i + k)
  rw [e1, e2, Nat.min_eq_left h, Nat.min_eq_left (show i ≤ xs.length by omega), Nat.add_sub_cancel_left]
theorem eqv_ints : ∀ ns : List Int, PyData.eqvAll (ns.map PyData.int) (ns.map PyData.int) = true
  | [] => rfl
  | n :: ns => by
    rw [List.map_cons, PyData.eqvAll, eqv_ints ns, Bool.and_true]
    simp [PyData.eqv]
theorem eqv_lst (ns : List Int) : PyData.eqv (.list (ns.map PyData.int)) (.list (ns.map PyData.int)) = true := by
  rw [PyData.eqv]; exact eqv_ints ns
theorem all_list {f : Tr → PyData} {N : Nat} (h : ∀ t, (f t).canLay0 = true ∧ (f t).depth ≤ N) : ∀ l : List Tr, PyData.canLayAll0 (l.map f) = true ∧ PyData.depthAll (l.map f) ≤ N
  | [] => ⟨rfl, Nat.zero_le _⟩
  | t :: l => by
    obtain ⟨i1, i2⟩ := all_list h l
    obtain ⟨h1, h2⟩ := h t
    rw [List.map_cons]
    refine ⟨?_, ?_⟩
    · show ((f t).canLay0 && PyData.canLayAll0 (l.map f)) = true
      rw [h1, i1]; rfl
    · show max (f t).depth (PyData.depthAll (l.map f)) ≤ N
      omega
theorem shape_ints (ns : List Int) : PySem.SeqAt.shaped (.list (ns.map PyData.int)) = true := by
  obtain ⟨i1, i2⟩ := all_list (f := PyData.int) (N := 0) (fun t => ⟨rfl, Nat.le_refl _⟩) ns
  unfold PySem.SeqAt.shaped
  rw [show (PyData.list (ns.map PyData.int)).canLay0 = true from i1, decide_eq_true (show (PyData.list (ns.map PyData.int)).depth ≤ 64 by show PyData.depthAll _ + 1 ≤ _; omega)]
  rfl
theorem dp_lst {K : PySem.W.Frag} {H : Hp} {a : Addr} {ns : List Int} (e : H a = some (.lst (ns.map V.int))) : Dp K H (.ref a) (.list (ns.map PyData.int)) := .lst (SqL.of e) (dp_ints ns)
end GM
set_option Elab.async false
set_option linter.all false
set_option maxRecDepth 100000
set_option maxHeartbeats 4000000
set_option pp.maxSteps 200
namespace GM
open PySem PySem.Spec PyProof.Rows L2
/-! ### enumerate(v) of whatever begins -/
theorem new_enum1 {v : Value} {o : Obj} {B0 : Heap → Prop} (B : Begins v o B0) :
    Meets (Builtin.«enumerate.__new__» ⟨[.type "enumerate", v], []⟩) (fun _ R s => B0 s.heap ∧ R (.ok (.ret (.ref (s.heap.push o).objs.size)))
      { s with heap := (s.heap.push o).push { cls := .type "enumerate", data := .fields #[.none, .bool false, .ref s.heap.objs.size, rawInt 0, .none, .none] } }) :=
  .of_wp fun prog w A R s h => by
    rcases s with ⟨hp, g, d, tk, os⟩
    have begun := fun (A' : Around) (E' : Value → Shared → Prop) (Q' : Value → Shared → Prop) q => B.iter prog w A' E' ⟨hp, g, d, tk, os⟩ Q' h.1 q
    have hsub := sub_enumerate
    wp_walk
    refine wpAny_stack_any fun st => wpAny_pure ?_
    split
    · rename_i c _ _ _ _ _
      cases (c == Value.type "enumerate") <;> (wp_walk using begun; exact ⟨_, rfl, h.2⟩)
    · wp_walk using begun
      exact ⟨_, rfl, h.2⟩
section
variable {prog : Program} {w : World} {A : Around} {E : Value → Shared → Prop} {s : Shared}
theorem run_enum1 {v : Value} {o : Obj} {B0 : Heap → Prop} {Q : Value → Shared → Prop} (B : Begins v o B0) (h0 : B0 s.heap)
    (h : ∀ h', IsEnum h' (s.heap.objs.size + 1) s.heap.objs.size 0 .none → h'.get? s.heap.objs.size = some o → (∀ b u, s.heap.get? b = some u → h'.get? b = some u) → Q (.ref (s.heap.objs.size + 1)) { s with heap := h' }) :
    wpAny (model prog w) A (call (.type "enumerate") [v]) Q E s := by
  refine callType_new F.called_enumerate (by decide) (F.typeCall_enumerate_1 _) (F.newCall_enumerate_1 _) (fun obj => F.args_object_init_2 obj _) F.entry_enumerate_new (new_enum1 B) ⟨h0, ?_⟩
  have at2 : ∀ o' : Obj, o'.isFreed = false → ((s.heap.push o).push o').get? (s.heap.objs.size + 1) = some o' := fun o' f => by
    rw [← Heap.size_push s.heap o]; exact Heap.get?_push_size _ f
  rw [Heap.size_push]
  exact ⟨⟨_, at2 _ rfl, rfl⟩, h _ (at2 _ rfl) (Heap.get?_push_of_some _ (Heap.get?_push_size _ B.free)) fun b u e => Heap.get?_push_of_some _ (Heap.get?_push_of_some _ e)⟩
end
/-- the pairs of enumerate over the tuple xs at a -/
def Iet (K : PySem.W.Frag) (a : Addr) (xs : List V) : It where
  go := fun i H => SqT K H a xs ∧ i < xs.length
  yld := fun i H v H' => ∃ T x, v = .ref T ∧ H T = none ∧ H' = upd H T (.tup [.int (i : Nat), x]) ∧ xs[i]? = some x
  stop := fun i H => SqT K H a xs ∧ xs.length ≤ i
theorem cls_ne {h : Heap} {a b : Addr} {o u : Obj} (ha : h.get? a = some o) (hb : h.get? b = some u) (hc : o.cls ≠ u.cls) : a ≠ b := by
  rintro rfl
  cases ha.symm.trans hb
  exact hc rfl
theorem turn_et {P : Program} {w : World} {K : PySem.W.Frag} {elts : List Expr} {kk : Nat} {tpos : Pos} (a : Addr) (xs : List V) (e it : Addr) (ne : e ≠ it) :
    Turn P w K (.Tuple elts kk tpos) (Iet K a xs) [e, it] e (fun i h => i ≤ xs.length ∧ (∃ old, IsEnum h e it ((i : Nat) : Int) old) ∧ h.IsTupleIter it a i) := by
  have two : ∀ {b : Addr}, b ∈ [e, it] → b = e ∨ b = it := fun h => by simpa using h
  refine ⟨by simp, ?_, ?_, ?_, ?_, ?_⟩
  · rintro i h ⟨_, ⟨old, he⟩, o, ho, _, hd⟩ b hb
    rcases two hb with rfl | rfl
    · exact ⟨_, he, fun v q => nomatch q⟩
    · exact ⟨o, ho, fun v q => by rw [hd] at q; cases q⟩
  · rintro i h h' ⟨hi, ⟨old, he⟩, hit⟩ k
    exact ⟨hi, ⟨old, k e (by simp) _ he⟩, hit.at fun o q => k it (by simp) o q⟩
  · rintro X rfl rfl rfl hc i pins s σ H E I hf ⟨hi, ⟨old, he⟩, hit⟩ ⟨hq, hlt⟩
    obtain ⟨its, rv, p, _⟩ := I.tuple hq
    obtain ⟨op, hop, hcp, np, hdp⟩ := id p
    obtain ⟨oi, hoi, hci, hdi⟩ := id hit
    have e1 : a ≠ it := cls_ne hop hoi (by rw [hcp, hci]; decide)
    have e2 : e ≠ a := cls_ne he hop (by rw [hcp]; show Value.type "enumerate" ≠ Value.type "tuple"; decide)
    obtain ⟨u, hu, ru⟩ := rv.get (List.getElem?_eq_getElem hlt)
    have D := Draws.tuple (prog := X.prog) (w := X.w) (A := X.A.in1) (I.ok.hd hc) it a e1 its.toArray
    have hsz : i < its.toArray.size := by rw [List.size_toArray, ← rv.length]; exact hlt
    refine wpAny_pyNext_enum_itemD D he ⟨hit, p⟩ hsz ne (by simp [ne, e2]) fun x h1 tk hP hout hst hT _ hk => ⟨_, rfl, ?_⟩
    obtain rfl : u = x := by
      have hP' : its.toArray[i]? = some x := hP
      rw [List.getElem?_toArray, hu] at hP'
      exact Option.some.inj hP'
    have lte : e < s.heap.objs.size := Heap.lt_size he
    have lti : it < s.heap.objs.size := Heap.lt_size hoi
    have fr : H s.heap.objs.size = none := I.hok.fresh (Nat.le_refl _)
    refine wpAny_letOwnedTupleGo_enum (s := { s with heap := h1, toks := tk + 1 }) hout fun h2 he2 sb => ?_
    have out : ∀ b, b ≠ e → h2.get? b = h1.get? b := fun b hb => sb.2 b hb
    have nt : ObjOk X.prog X.w (upd H s.heap.objs.size (.tup [.int (i : Nat), xs[i]])) h2 s.heap.objs.size (.tup [.int (i : Nat), xs[i]]) :=
      ⟨(by decide : 2 ≤ sizeLine), [.int i tk, u], .cons ⟨_, rfl⟩ (.cons ru .nil), ⟨_, (out _ (Nat.ne_of_gt lte)).trans hT, rfl, _, rfl⟩⟩
    refine ⟨.ref s.heap.objs.size, _, I.turnedNew (t' := tk + 1) (ch := [e, it]) (fun b ob hb q => ?_) hf (Nat.le_refl _) nt, rfl, ⟨_, _, rfl, fr, rfl, List.getElem?_eq_getElem hlt⟩, ⟨hlt, ⟨u, ?_⟩, ?_⟩, fun b hb => ?_⟩
    · have hb1 : b ≠ e := fun z => hb (by simp [z])
      have hb2 : b ≠ it := fun z => hb (by simp [z])
      exact (out b hb1).trans (hk b ob hb1 hb2 q)
    · rw [Int.natCast_succ]; exact he2
    · exact hst.1.at fun o q => (out it ne.symm).trans q
    · have hb' : b ≠ s.heap.objs.size := by
        rcases two hb with rfl | rfl
        · exact Nat.ne_of_lt lte
        · exact Nat.ne_of_lt lti
      rw [upd_ne hb']
      exact (hf b hb).1
  · rintro X rfl rfl rfl hc i pins s σ H E I hf ⟨hi, ⟨old, he⟩, hit⟩ ⟨hq, hge⟩
    obtain ⟨its, rv, p, _⟩ := I.tuple hq
    obtain ⟨op, hop, hcp, np, hdp⟩ := id p
    obtain ⟨oi, hoi, hci, hdi⟩ := id hit
    have e1 : a ≠ it := cls_ne hop hoi (by rw [hcp, hci]; decide)
    have D := Draws.tuple (prog := X.prog) (w := X.w) (A := X.A.in1) (I.ok.hd hc) it a e1 its.toArray
    obtain rfl : i = its.toArray.size := by rw [List.size_toArray, ← rv.length]; omega
    obtain ⟨g0, g1, _, g3, g4, g5⟩ := hf it (by simp)
    exact wpAny_pyNext_enum_endD D he ⟨hit, p⟩ fun h1 eb => ⟨rfl, I.turned (t' := s.toks) (fun b o hb q => eb b o hb q) g0 g1 g3 g4 g5⟩
  · rintro A i s Q E ⟨_, ⟨old, he⟩, _⟩ h
    exact wpAny_pyIter_enum he h
def iEnumT (K : PySem.W.Frag) (ta : TA) : TI := fun σ H R => ta σ H fun vs H1 => ∃ a xs, vs = [.ref a] ∧ SqT K H1 a xs ∧ R (Iet K a xs) H1
theorem pi_enumT {X : Cx} {e : Expr} {ta : TA} {p pos tpos : Pos} {elts : List Expr} {kk : Nat} (hg : Gl X "enumerate") (hm : X.mg "enumerate" = none) (ha : PA X [e] ta) (hs : starEach [e] X.env = [(false, eval e X.env)] := by rfl) :
    PI X (.Tuple elts kk tpos) (.Call (.Name "enumerate" p) [e] [] pos) (iEnumT X.K ta) := by
  constructor
  intro pins s σ H R I h
  refine Call_ (ld_blt I hg hm boot_enumerate (PyProof.Rows.callWith_type1 (thn (ha.run pos pins s σ H _ I h) ?_) hs rfl))
  rintro us s1 ⟨vs, H1, I1, r1, a, xs, rfl, hq, q⟩
  rw [Vals.ref1 r1]
  obtain ⟨its, rv, pt, _⟩ := I1.tuple hq
  refine run_enum1 (begins_tuple a its.toArray) pt fun h1 he hit hk => wpAny_pyIter_enum he ?_
  refine ⟨_, [s1.heap.objs.size + 1, s1.heap.objs.size], _, _, H1, rfl, I1.kept (t' := s1.toks) hk, turn_et a xs _ _ (Nat.succ_ne_self _), ⟨Nat.zero_le _, ⟨.none, he⟩, ⟨_, hit, rfl, rfl⟩⟩, fun b hb => ?_, q⟩
  have hle : s1.heap.objs.size ≤ b := by
    rcases (show b = s1.heap.objs.size + 1 ∨ b = s1.heap.objs.size by simpa using hb) with rfl | rfl
    · exact Nat.le_succ _
    · exact Nat.le_refl _
  exact I1.fpOk hle (I1.hok.fresh hle)
theorem for_et {K : PySem.W.Frag} {a : Addr} {xs : List V} {g : TG} {tb : TS} {D : Ends} {σ : L2.St} {H : Hp} (Pv : Nat → L2.St → Hp → Prop) (h0 : Pv 0 σ H) (hl : ∀ i σ H, i ≤ xs.length → Pv i σ H → SqT K H a xs)
    (hs : ∀ i x T σ H, xs[i]? = some x → Pv i σ H → H T = none → g (.ref T) σ (upd H T (.tup [.int (i : Nat), x])) fun σ2 H2 => tb { D with nx := Pv (i + 1), ct := Pv (i + 1), bk := D.nx } σ2 H2) (hd : ∀ σ H, Pv xs.length σ H → D.nx σ H) :
    ∃ W : Nat → Nat → L2.St → Hp → Prop, (∃ m, W 0 m σ H) ∧ ∀ i m σ H, W i m σ H →
      ((Iet K a xs).stop i H ∧ D.nx σ H) ∨ ((Iet K a xs).go i H ∧ ∃ N : L2.St → Hp → Prop, (∀ σ' H', N σ' H' → ∃ m', m' < m ∧ W (i + 1) m' σ' H') ∧ ∀ x H', (Iet K a xs).yld i H x H' → g x σ H' fun σ2 H2 => tb { D with nx := N, ct := N, bk := D.nx } σ2 H2) := by
  refine ⟨fun i m σ H => i + m = xs.length ∧ Pv i σ H, ⟨xs.length, Nat.zero_add _, h0⟩, ?_⟩
  rintro i m σ H ⟨hm, p⟩
  cases m with
  | zero =>
    have e : i = xs.length := hm
    rw [e] at p ⊢
    exact .inl ⟨⟨hl _ σ H (Nat.le_refl _) p, Nat.le_refl _⟩, hd σ H p⟩
  | succ m =>
    refine .inr ⟨⟨hl i σ H (by omega) p, by omega⟩, Pv (i + 1), fun σ' H' p' => ⟨m, Nat.lt_succ_self _, by omega, p'⟩, ?_⟩
    rintro _ _ ⟨T, x, rfl, hT, rfl, hx⟩
    exact hs i x T σ H hx p hT
/-! ### a set of ints, made of a list or a tuple -/
def SetI (P : Program) (w : World) (a : Addr) (ns : List Int) : HO := .ext fun h => ∃ n, h.SetOf (intKind P w) a (fun j => decide (j ∈ ns)) n
section
variable {X : Cx}
def rSetI (K : PySem.W.Frag) (P : Program) (w : World) : List V → Hp → VK → Prop := fun vs H Q => ∃ (a : Addr) (ns : List Int), vs = [.ref a] ∧ (SqL K H a (ns.map V.int) ∨ SqT K H a (ns.map V.int)) ∧ ns.length ≤ 900 ∧
  ∀ p : Addr, H p = none → Q (.ref p) (upd H p (SetI P w p ns))
theorem setI_ok {P : Program} {w : World} {H : Hp} {h : Heap} {a : Addr} {ns : List Int} {n : Nat} (R : h.SetOf (intKind P w) a (fun j => decide (j ∈ ns)) n) : ObjOk P w H h a (SetI P w a ns) := by
  have ⟨o, _, _, _, ho, _⟩ := R
  refine ⟨⟨n, R⟩, ⟨o, ho⟩, ?_⟩
  rintro h1 h2 ⟨m, o1, es, ep, t, e1, r⟩ k
  exact ⟨m, o1, es, ep, t, k _ e1, r⟩
theorem cr_setI (hc : X.calm = true) : CallR X (.type "set") (rSetI X.K X.prog X.w) := by
  intro pins s σ H vs us Q I r h
  obtain ⟨a, ns, rfl, hs, hl, q⟩ := h
  rw [Vals.ref1 r]
  have hd := I.ok.hd hc
  have fr : H s.heap.objs.size = none := I.hok.fresh (Nat.le_refl _)
  rcases hs with hs | hs
  · obtain ⟨its, rv, hq, _⟩ := I.list hs
    have hi : IntsAre its.toArray.toList ns := ints_of_vals rv
    have hln : its.toArray.size = ns.length := by rw [List.size_toArray, ← rv.length, List.length_map]
    refine call_set_list hd hq.isList hi (by rw [hln]; unfold scanBound; omega) fun h1 tk S k => ?_
    rw [hln] at S
    have ef : (fun k' => (PyProof.Rows.firstMet (fun i => ns.getD i 0) ns.length).any (· == k')) = fun j => decide (j ∈ ns) := by
      funext j
      rw [firstMet_any]
      have em : (List.range ns.length).map (fun i => ns.getD i 0) = ns := by
        apply List.ext_getElem?
        intro i
        rw [List.getElem?_map]
        by_cases hi : i < ns.length
        · rw [List.getElem?_range hi, List.getElem?_eq_getElem hi, Option.map_some, List.getD_eq_getElem?_getD, List.getElem?_eq_getElem hi]
          rfl
        · rw [List.getElem?_eq_none (by rw [List.length_range]; omega), List.getElem?_eq_none (by omega)]
          rfl
      rw [em]
      by_cases hj : j ∈ ns
      · rw [decide_eq_true hj, List.any_eq_true]
        exact ⟨j, hj, beq_self_eq_true j⟩
      · rw [decide_eq_false hj, List.any_eq_false]
        intro x hx hb
        exact hj (by rw [← (beq_iff_eq.mp hb)]; exact hx)
    rw [ef] at S
    exact ⟨.ref _, upd H s.heap.objs.size (SetI X.prog X.w s.heap.objs.size ns), I.laid (t' := tk) (fun b u e => k b u (Heap.lt_size e) e) (Nat.le_refl _) (setI_ok S), rfl, q _ fr⟩
  · obtain ⟨its, rv, pt, _⟩ := I.tuple hs
    refine call_set_tupI ns hd (l := a) (items := its.toArray) pt (ints_of_vals rv) (by unfold scanBound; omega) fun h1 tk c R _ k => ?_
    exact ⟨.ref _, upd H s.heap.objs.size (SetI X.prog X.w s.heap.objs.size ns), I.laid (t' := tk) k (Nat.le_refl _) (setI_ok R.setOf), rfl, q _ fr⟩
def rInI (P : Program) (w : World) : V → V → Hp → VK → Prop := fun x y H Q => ∃ k a ns, x = V.int k ∧ y = V.ref a ∧ H a = some (SetI P w a ns) ∧ Q (.bl (decide (k ∈ ns))) H
theorem op_inI : OpR X (compareOp .In) (rInI X.prog X.w) := by
  intro pins s σ H x y v u Q I rx ry h
  obtain ⟨k, a, ns, rfl, rfl, ha, q⟩ := h
  obtain ⟨tk, rfl⟩ := rx
  cases ry
  obtain ⟨n, S⟩ := (I.hok a _ ha).1
  exact wpAny_inSet_of (intKind_is _ _ _ _) rfl S ⟨.bl _, H, I.tok _, rfl, q⟩
/-! ### len of an object of one's own -/
def rLenO (C : Addr) (sp : Sp) : List V → Hp → VK → Prop := fun vs H Q => ∃ a dx fs, vs = [.ref a] ∧ H a = some (.ins C dx fs) ∧ sp [.ref a] H (fun v H1 => ∃ n : Nat, v = .int n ∧ n ≤ 1000000 ∧ Q (.int n) H1) E0
theorem cr_lenO {C f : Addr} {fd : FuncData} {k : Nat} {sp : Sp} (F : FnOk X.prog X.w X.K X.mg X.base CX0 k f fd ["self"] sp) (hb : Binds X.K fd ["self"] []) (hr : Room (k + 1) X.A) (hm : PySem.W.findIn X.K (.ref C) "__len__" = some (some (.ref f))) (hf : PySem.W.isFn X.K (.ref f) = true) :
    CallR X (.builtin "len") (rLenO C sp) := by
  intro pins s σ H vs us Q I r h
  obtain ⟨a, dx, fs, rfl, ea, hsp⟩ := h
  rw [Vals.ref1 r]
  obtain ⟨mA, O, _⟩ := ins_get I.hok ea
  obtain ⟨od, J, _⟩ := O.look
  have called : wpAny (model X.prog X.w) X.A.in1 (call (.ref f) [.ref a]) (EP X pins σ (fun v H1 => ∃ n : Nat, v = .int n ∧ n ≤ 1000000 ∧ Q (.int n) H1)) X.xe s := by
    refine wpAny_call (codeAny_mono (F.run X.A.in1 X.stack s H ⟨[.ref a], []⟩ [.ref a] [.ref a] _ E0 hr.in1 I.env0.in1 (hb s [.ref a] I.kIn rfl) (.cons rfl .nil) hsp) fun r s' hq => ?_)
    match r, hq with
    | .error e, hq => exact (pass0 : Passes CX0 X E0) pins σ H s e s' I hq
    | .ok (.ret u), hq => exact I.after hq
  refine Calls.call_function_entry kind_len plain_len entry_len (args_len1 _) ?_
  refine wpAny_bind (m := oneArg "len" _) (wpAny_pure ?_)
  refine wpAny_bind (m := callSpecial? (.ref a) (Str.ofString "__len__")) (PySem.W.special_fn I.kIn J hm (beq_iff_eq.mp hf) (wpAny_mono called ?_ fun _ _ z => z))
  rintro u s1 ⟨_, H1, I1, ru, n, rfl, hn, q⟩
  obtain ⟨tk, rfl⟩ := ru
  have lo : ¬ ((n : Int) < 0) := by omega
  have hi : ¬ ((n : Int) ≥ 2 ^ 63) := by omega
  refine wpAny_bind (wpAny_holding (wpAny_pure (wpAny_bind (wpAny_letGo ?_))))
  show wpAny _ _ (if (n : Int) < 0 then _ else _) _ _ _
  rw [if_neg lo]
  show wpAny _ _ (if (n : Int) ≥ 2 ^ 63 then _ else _) _ _ _
  rw [if_neg hi]
  exact wpAny_bind (wpAny_mkInt (wpAny_pure ⟨_, rfl, .int n, H1, I1.tok _, ⟨_, rfl⟩, q⟩))
end
end GM
set_option Elab.async false
set_option linter.all false
set_option maxRecDepth 100000
set_option maxHeartbeats 4000000
namespace GM
open PySem PySem.Spec PyProof.Rows L2
def topS (i : Nat) : Stmt := PySem.Challenge.pw_holdsalltrees_k31_turned_and_restricted.main.body.getD i (.Pass ⟨0, 0, 0, 0⟩)
abbrev s_as_tuples : Stmt := topS 1
abbrev s_is_whole : Stmt := topS 2
abbrev s_is_number_to : Stmt := topS 3
abbrev s_BadVertex___init__ : Stmt := inClass (topS 6) 0
abbrev s_DeadEnd___init__ : Stmt := inClass (topS 7) 0
abbrev s_NotAPlay___init__ : Stmt := inClass (topS 8) 0
abbrev s_PlanGap___init__ : Stmt := inClass (topS 9) 0
abbrev s_BadLine___init__ : Stmt := inClass (topS 10) 0
abbrev s_Game___init__ : Stmt := inClass (topS 13) 0
abbrev s_Game___len__ : Stmt := inClass (topS 13) 1
abbrev s_Game___eq__ : Stmt := inClass (topS 13) 2
abbrev s_Game_turned : Stmt := inClass (topS 13) 3
abbrev s_Game_restricted : Stmt := inClass (topS 13) 4
abbrev s_are_successors : Stmt := topS 14
abbrev s_winner_of : Stmt := topS 16
abbrev s_check_walk : Stmt := topS 17
abbrev s__law_whole : Stmt := topS 19
abbrev s__law_cell : Stmt := topS 20
abbrev s__law_digits : Stmt := topS 21
abbrev s__law_graph : Stmt := topS 22
abbrev s__law_same : Stmt := topS 23
abbrev s__law_reads : Stmt := topS 24
abbrev s__law_part : Stmt := topS 25
abbrev s__law_chosen : Stmt := topS 26
abbrev s__law_right : Stmt := topS 27
abbrev s__law_walk : Stmt := topS 28
abbrev s_law : Stmt := topS 29
abbrev n_as_tuples : List Str := ["value", "item"]
theorem sc_as_tuples : FnScope n_as_tuples ["value"] (defScope s_as_tuples) := ⟨rfl, rfl, rfl, by decide +kernel, rfl, by decide +kernel, by decide +kernel⟩
abbrev n_is_whole : List Str := ["value"]
theorem sc_is_whole : FnScope n_is_whole ["value"] (defScope s_is_whole) := ⟨rfl, rfl, rfl, by decide +kernel, rfl, by decide +kernel, by decide +kernel⟩
abbrev n_is_number_to : List Str := ["value", "most"]
theorem sc_is_number_to : FnScope n_is_number_to ["value", "most"] (defScope s_is_number_to) := ⟨rfl, rfl, rfl, by decide +kernel, rfl, by decide +kernel, by decide +kernel⟩
abbrev n_BadVertex___init__ : List Str := ["self", "vertex"]
theorem sc_BadVertex___init__ : FnScope n_BadVertex___init__ ["self", "vertex"] (defScope s_BadVertex___init__) := ⟨rfl, rfl, rfl, by decide +kernel, rfl, by decide +kernel, by decide +kernel⟩
abbrev n_DeadEnd___init__ : List Str := ["self", "vertex"]
theorem sc_DeadEnd___init__ : FnScope n_DeadEnd___init__ ["self", "vertex"] (defScope s_DeadEnd___init__) := ⟨rfl, rfl, rfl, by decide +kernel, rfl, by decide +kernel, by decide +kernel⟩
abbrev n_NotAPlay___init__ : List Str := ["self", "index"]
theorem sc_NotAPlay___init__ : FnScope n_NotAPlay___init__ ["self", "index"] (defScope s_NotAPlay___init__) := ⟨rfl, rfl, rfl, by decide +kernel, rfl, by decide +kernel, by decide +kernel⟩
abbrev n_PlanGap___init__ : List Str := ["self", "vertex"]
theorem sc_PlanGap___init__ : FnScope n_PlanGap___init__ ["self", "vertex"] (defScope s_PlanGap___init__) := ⟨rfl, rfl, rfl, by decide +kernel, rfl, by decide +kernel, by decide +kernel⟩
abbrev n_BadLine___init__ : List Str := ["self", "line"]
theorem sc_BadLine___init__ : FnScope n_BadLine___init__ ["self", "line"] (defScope s_BadLine___init__) := ⟨rfl, rfl, rfl, by decide +kernel, rfl, by decide +kernel, by decide +kernel⟩
abbrev n_Game___init__ : List Str := ["self", "owners", "priorities", "successors", "vertex"]
theorem sc_Game___init__ : FnScope n_Game___init__ ["self", "owners", "priorities", "successors"] (defScope s_Game___init__) := ⟨rfl, rfl, rfl, by decide +kernel, rfl, by decide +kernel, by decide +kernel⟩
abbrev n_Game___len__ : List Str := ["self"]
theorem sc_Game___len__ : FnScope n_Game___len__ ["self"] (defScope s_Game___len__) := ⟨rfl, rfl, rfl, by decide +kernel, rfl, by decide +kernel, by decide +kernel⟩
abbrev n_Game___eq__ : List Str := ["self", "other"]
theorem sc_Game___eq__ : FnScope n_Game___eq__ ["self", "other"] (defScope s_Game___eq__) := ⟨rfl, rfl, rfl, by decide +kernel, rfl, by decide +kernel, by decide +kernel⟩
abbrev n_Game_turned : List Str := ["self", "owners", "priorities", "owner", "priority"]
theorem sc_Game_turned : FnScope n_Game_turned ["self"] (defScope s_Game_turned) := ⟨rfl, rfl, rfl, by decide +kernel, rfl, by decide +kernel, by decide +kernel⟩
abbrev n_Game_restricted : List Str := ["self", "vertices", "numbers", "rows", "vertex", "row", "owners", "priorities", "number", "goal"]
theorem sc_Game_restricted : FnScope n_Game_restricted ["self", "vertices"] (defScope s_Game_restricted) := ⟨rfl, rfl, rfl, by decide +kernel, rfl, by decide +kernel, by decide +kernel⟩
abbrev n_are_successors : List Str := ["value", "count", "least", "item"]
theorem sc_are_successors : FnScope n_are_successors ["value", "count"] (defScope s_are_successors) := ⟨rfl, rfl, rfl, by decide +kernel, rfl, by decide +kernel, by decide +kernel⟩
abbrev n_winner_of : List Str := ["game", "lead", "ring", "walk", "vertex"]
theorem sc_winner_of : FnScope n_winner_of ["game", "lead", "ring"] (defScope s_winner_of) := ⟨rfl, rfl, rfl, by decide +kernel, rfl, by decide +kernel, by decide +kernel⟩
abbrev n_check_walk : List Str := ["game", "walk", "steps", "index", "vertex"]
theorem sc_check_walk : FnScope n_check_walk ["game", "walk", "steps"] (defScope s_check_walk) := ⟨rfl, rfl, rfl, by decide +kernel, rfl, by decide +kernel, by decide +kernel⟩
abbrev n__law_whole : List Str := ["value"]
theorem sc__law_whole : FnScope n__law_whole ["value"] (defScope s__law_whole) := ⟨rfl, rfl, rfl, by decide +kernel, rfl, by decide +kernel, by decide +kernel⟩
abbrev n__law_cell : List Str := ["script", "k", "seed", "cell"]
theorem sc__law_cell : FnScope n__law_cell ["script", "k"] (defScope s__law_cell) := ⟨rfl, rfl, rfl, by decide +kernel, rfl, by decide +kernel, by decide +kernel⟩
abbrev n__law_digits : List Str := ["cell", "sizes", "row", "rest", "size", "seed", "k", "twice"]
theorem sc__law_digits : FnScope n__law_digits ["cell", "sizes"] (defScope s__law_digits) := ⟨rfl, rfl, rfl, by decide +kernel, rfl, by decide +kernel, by decide +kernel⟩
abbrev n__law_graph : List Str := ["script", "at", "count", "top", "head", "chance", "owners", "priorities", "successors", "v", "row", "targets", "u"]
theorem sc__law_graph : FnScope n__law_graph ["script", "at", "count", "top"] (defScope s__law_graph) := ⟨rfl, rfl, rfl, by decide +kernel, rfl, by decide +kernel, by decide +kernel⟩
abbrev n__law_same : List Str := ["told", "due", "k"]
theorem sc__law_same : FnScope n__law_same ["told", "due"] (defScope s__law_same) := ⟨rfl, rfl, rfl, by decide +kernel, rfl, by decide +kernel, by decide +kernel⟩
abbrev n__law_reads : List Str := ["made", "game", "top", "told", "rows", "row"]
theorem sc__law_reads : FnScope n__law_reads ["made", "game"] (defScope s__law_reads) := ⟨rfl, rfl, rfl, by decide +kernel, rfl, by decide +kernel, by decide +kernel⟩
abbrev n__law_part : List Str := ["game", "chosen", "rows", "v", "row", "u"]
theorem sc__law_part : FnScope n__law_part ["game", "chosen"] (defScope s__law_part) := ⟨rfl, rfl, rfl, by decide +kernel, rfl, by decide +kernel, by decide +kernel⟩
abbrev n__law_chosen : List Str := ["game", "cell", "prune", "count", "row", "chosen", "turn", "fewer", "v", "u"]
theorem sc__law_chosen : FnScope n__law_chosen ["game", "cell", "prune"] (defScope s__law_chosen) := ⟨rfl, rfl, rfl, by decide +kernel, rfl, by decide +kernel, by decide +kernel⟩
abbrev n__law_right : List Str := ["made", "chosen", "due", "shape", "passed", "caught", "part", "e"]
theorem sc__law_right : FnScope n__law_right ["made", "chosen", "due", "shape"] (defScope s__law_right) := ⟨rfl, rfl, rfl, by decide +kernel, rfl, by decide +kernel, by decide +kernel⟩
abbrev n__law_walk : List Str := ["game", "cell", "count", "row", "steps", "place", "turn", "cut", "k"]
theorem sc__law_walk : FnScope n__law_walk ["game", "cell"] (defScope s__law_walk) := ⟨rfl, rfl, rfl, by decide +kernel, rfl, by decide +kernel, by decide +kernel⟩
abbrev n_law : List Str := ["script", "head", "count", "game", "made", "once", "twice", "other", "play", "winner", "told", "chosen", "due", "part", "again", "dead_end", "row", "owner", "level", "v"]
theorem sc_law : FnScope n_law ["script"] (defScope s_law) := ⟨rfl, rfl, rfl, by decide +kernel, rfl, by decide +kernel, by decide +kernel⟩
end GM
set_option Elab.async false
set_option linter.all false
set_option maxRecDepth 100000
set_option maxHeartbeats 4000000
namespace GM
open PySem PySem.Spec PyProof.Rows L2
/-! ### comprehensions with a test -/
section
variable {K : PySem.W.Frag} {a : Addr} {xs : List V} {g : TG} {tt : TT} {te : TE} {vs : List Nat} {σ : L2.St} {H1 : Hp} {D : Addr} {Qd : Hp → Prop}
theorem filter_step {α : Type} {l : List α} {i : Nat} {x : α} (p : α → Bool) (h : l[i]? = some x) : (l.take (i + 1)).filter p = (l.take i).filter p ++ (if p x = true then [x] else []) := by
  rw [tk1 h, List.filter_append]
  congr 1
  by_cases c : p x = true
  · rw [if_pos c, List.filter_cons_of_pos c]; rfl
  · rw [if_neg c, List.filter_cons_of_neg c]; rfl
theorem lc_filterL (p : V → Bool) (hlen : xs.length ≤ 1000) (hS : SqL K H1 a xs) (hD : H1 D = none)
    (hs : ∀ (i : Nat) x H (k : V → Hp → Prop) (n : Hp → Prop), xs[i]? = some x → Same H1 H → (p x = true → ∀ H', Same H H' → k x H') → (p x = false → ∀ H', Same H H' → n H') → g x (wipe σ vs) H fun σ2 H2 => wipe σ2 vs = wipe σ vs ∧ tt σ2 H2 fun b H3 => if b = true then te σ2 H3 k else n H3)
    (hd : ∀ H', Same H1 H' → H' D = some (.lst (xs.filter p)) → Qd H') :
    ∃ W : Nat → Nat → Hp → Prop, (∃ m, W 0 m (upd H1 D (.lst []))) ∧ ∀ i m H, W i m H →
      ((Itl K a).stop i H ∧ Qd H) ∨ ((Itl K a).go i H ∧ ∃ Nx : Hp → Prop, (∀ H', Nx H' → ∃ m', m' < m ∧ W (i + 1) m' H') ∧ ∀ x H', (Itl K a).yld i H x H' → g x (wipe σ vs) H' fun σ2 H2 => wipe σ2 vs = wipe σ vs ∧ tt σ2 H2 fun b H3 =>
        if b = true then te σ2 H3 fun y H4 => ∃ acc, H4 D = some (.lst acc) ∧ acc.length < sizeLine ∧ Nx (upd H4 D (.lst (acc ++ [y]))) else Nx H3) := by
  refine lc_list (xs := xs) (fun i H => Same H1 H ∧ H D = some (.lst ((xs.take i).filter p))) ⟨same_new hD _, upd_same⟩ (fun i H _ z => z.1.seq hS) ?_ ?_
  · rintro i x H hx ⟨sm, eD⟩
    have st := filter_step p hx
    have hl : ((xs.take i).filter p).length < sizeLine := by
      refine lt_line (Nat.le_trans (List.length_filter_le _ _) (Nat.le_trans (List.length_take_le _ _) ?_))
      exact Nat.le_of_lt (Nat.lt_of_lt_of_le (lt_of_at hx) hlen)
    refine hs i x H _ (fun H3 => Same H1 H3 ∧ H3 D = some (.lst ((xs.take (i + 1)).filter p))) hx sm (fun c H' s' => ⟨_, s' _ _ eD, hl, same_upd (sm.trans s') hD _, ?_⟩) (fun c H' s' => ⟨sm.trans s', ?_⟩)
    · rw [upd_same, st, if_pos c]
    · rw [st, c, if_neg Bool.false_ne_true, List.append_nil]; exact s' _ _ eD
  · rintro H ⟨sm, eD⟩
    rw [List.take_length] at eD
    exact hd H sm eD
theorem lc_filterT (p : V → Bool) (hlen : xs.length ≤ 1000) (hS : SqT K H1 a xs) (hD : H1 D = none)
    (hs : ∀ (i : Nat) x H (k : V → Hp → Prop) (n : Hp → Prop), xs[i]? = some x → Same H1 H → (p x = true → ∀ H', Same H H' → k x H') → (p x = false → ∀ H', Same H H' → n H') → g x (wipe σ vs) H fun σ2 H2 => wipe σ2 vs = wipe σ vs ∧ tt σ2 H2 fun b H3 => if b = true then te σ2 H3 k else n H3)
    (hd : ∀ H', Same H1 H' → H' D = some (.lst (xs.filter p)) → Qd H') :
    ∃ W : Nat → Nat → Hp → Prop, (∃ m, W 0 m (upd H1 D (.lst []))) ∧ ∀ i m H, W i m H →
      ((Itt K a).stop i H ∧ Qd H) ∨ ((Itt K a).go i H ∧ ∃ Nx : Hp → Prop, (∀ H', Nx H' → ∃ m', m' < m ∧ W (i + 1) m' H') ∧ ∀ x H', (Itt K a).yld i H x H' → g x (wipe σ vs) H' fun σ2 H2 => wipe σ2 vs = wipe σ vs ∧ tt σ2 H2 fun b H3 =>
        if b = true then te σ2 H3 fun y H4 => ∃ acc, H4 D = some (.lst acc) ∧ acc.length < sizeLine ∧ Nx (upd H4 D (.lst (acc ++ [y]))) else Nx H3) := by
  refine lc_tup (xs := xs) (fun i H => Same H1 H ∧ H D = some (.lst ((xs.take i).filter p))) ⟨same_new hD _, upd_same⟩ (fun i H _ z => seqT_same z.1 hS) ?_ ?_
  · rintro i x H hx ⟨sm, eD⟩
    have st := filter_step p hx
    have hl : ((xs.take i).filter p).length < sizeLine := by
      refine lt_line (Nat.le_trans (List.length_filter_le _ _) (Nat.le_trans (List.length_take_le _ _) ?_))
      exact Nat.le_of_lt (Nat.lt_of_lt_of_le (lt_of_at hx) hlen)
    refine hs i x H _ (fun H3 => Same H1 H3 ∧ H3 D = some (.lst ((xs.take (i + 1)).filter p))) hx sm (fun c H' s' => ⟨_, s' _ _ eD, hl, same_upd (sm.trans s') hD _, ?_⟩) (fun c H' s' => ⟨sm.trans s', ?_⟩)
    · rw [upd_same, st, if_pos c]
    · rw [st, c, if_neg Bool.false_ne_true, List.append_nil]; exact s' _ _ eD
  · rintro H ⟨sm, eD⟩
    rw [List.take_length] at eD
    exact hd H sm eD
theorem lc_filterR {n : Nat} (p : Nat → Bool) (hlen : n ≤ 1000) (hD : H1 D = none)
    (hs : ∀ i H (k : V → Hp → Prop) (nn : Hp → Prop), i < n → Same H1 H → (p i = true → ∀ H', Same H H' → k (.int (0 + (i : Int))) H') → (p i = false → ∀ H', Same H H' → nn H') → g (.int (0 + i)) (wipe σ vs) H fun σ2 H2 => wipe σ2 vs = wipe σ vs ∧ tt σ2 H2 fun b H3 => if b = true then te σ2 H3 k else nn H3)
    (hd : ∀ H', Same H1 H' → H' D = some (.lst ((((List.range n).filter p).map fun i : Nat => (i : Int)).map V.int)) → Qd H') :
    ∃ W : Nat → Nat → Hp → Prop, (∃ m, W 0 m (upd H1 D (.lst []))) ∧ ∀ i m H, W i m H →
      ((Itr 0 n).stop i H ∧ Qd H) ∨ ((Itr 0 n).go i H ∧ ∃ Nx : Hp → Prop, (∀ H', Nx H' → ∃ m', m' < m ∧ W (i + 1) m' H') ∧ ∀ x H', (Itr 0 n).yld i H x H' → g x (wipe σ vs) H' fun σ2 H2 => wipe σ2 vs = wipe σ vs ∧ tt σ2 H2 fun b H3 =>
        if b = true then te σ2 H3 fun y H4 => ∃ acc, H4 D = some (.lst acc) ∧ acc.length < sizeLine ∧ Nx (upd H4 D (.lst (acc ++ [y]))) else Nx H3) := by
  refine lc_range (lo := 0) (n := n) (fun i H => i ≤ n ∧ Same H1 H ∧ H D = some (.lst ((((List.range i).filter p).map fun i : Nat => (i : Int)).map V.int))) ⟨Nat.zero_le _, same_new hD _, upd_same⟩ ?_ ?_
  · rintro i H hi ⟨_, sm, eD⟩
    have st : (List.range (i + 1)).filter p = (List.range i).filter p ++ (if p i = true then [i] else []) := by
      rw [List.range_succ, List.filter_append]
      congr 1
      by_cases c : p i = true
      · rw [if_pos c, List.filter_cons_of_pos c]; rfl
      · rw [if_neg c, List.filter_cons_of_neg c]; rfl
    have hl : ((((List.range i).filter p).map fun i : Nat => (i : Int)).map V.int).length < sizeLine := by
      rw [List.length_map, List.length_map]
      refine lt_line (Nat.le_trans (List.length_filter_le _ _) ?_)
      rw [List.length_range]; omega
    refine hs i H _ (fun H3 => i + 1 ≤ n ∧ Same H1 H3 ∧ H3 D = some (.lst ((((List.range (i + 1)).filter p).map fun i : Nat => (i : Int)).map V.int))) hi sm (fun c H' s' => ⟨_, s' _ _ eD, hl, hi, same_upd (sm.trans s') hD _, ?_⟩) (fun c H' s' => ⟨hi, sm.trans s', ?_⟩)
    · rw [upd_same, st, if_pos c, List.map_append, List.map_append, Int.zero_add]; rfl
    · rw [st, c, if_neg Bool.false_ne_true, List.append_nil]; exact s' _ _ eD
  · rintro H ⟨_, sm, eD⟩
    exact hd H sm eD
end
section
variable {K : PySem.W.Frag} {g : TG} {tt : TT} {te : TE} {vs : List Nat} {σ : L2.St} {H1 : Hp} {D : Addr} {Qd : Hp → Prop}
/-- some True or False for each -/
theorem lc_boolR {n : Nat} (hlen : n ≤ 1000) (hD : H1 D = none)
    (hs : ∀ (i : Nat) H (k : V → Hp → Prop) (nn : Hp → Prop), i < n → Same H1 H → (∀ (b : Bool) H', Same H H' → k (.bl b) H') → g (.int (0 + i)) (wipe σ vs) H fun σ2 H2 => wipe σ2 vs = wipe σ vs ∧ tt σ2 H2 fun b H3 => if b = true then te σ2 H3 k else nn H3)
    (hd : ∀ H' (bs : List Bool), Same H1 H' → bs.length = n → H' D = some (.lst (bs.map V.bl)) → Qd H') :
    ∃ W : Nat → Nat → Hp → Prop, (∃ m, W 0 m (upd H1 D (.lst []))) ∧ ∀ i m H, W i m H →
      ((Itr 0 n).stop i H ∧ Qd H) ∨ ((Itr 0 n).go i H ∧ ∃ Nx : Hp → Prop, (∀ H', Nx H' → ∃ m', m' < m ∧ W (i + 1) m' H') ∧ ∀ x H', (Itr 0 n).yld i H x H' → g x (wipe σ vs) H' fun σ2 H2 => wipe σ2 vs = wipe σ vs ∧ tt σ2 H2 fun b H3 =>
        if b = true then te σ2 H3 fun y H4 => ∃ acc, H4 D = some (.lst acc) ∧ acc.length < sizeLine ∧ Nx (upd H4 D (.lst (acc ++ [y]))) else Nx H3) := by
  refine lc_range (lo := 0) (n := n) (fun i H => i ≤ n ∧ Same H1 H ∧ ∃ bs : List Bool, bs.length = i ∧ H D = some (.lst (bs.map V.bl))) ⟨Nat.zero_le _, same_new hD _, [], rfl, upd_same⟩ ?_ ?_
  · rintro i H hi ⟨_, sm, bs, lb, eD⟩
    refine hs i H _ (fun H3 => i + 1 ≤ n ∧ Same H1 H3 ∧ ∃ bs : List Bool, bs.length = i + 1 ∧ H3 D = some (.lst (bs.map V.bl))) hi sm fun b H' s' => ⟨_, s' _ _ eD, by rw [List.length_map, lb]; exact lt_line (by omega), hi, same_upd (sm.trans s') hD _, bs ++ [b], by rw [List.length_append, lb]; rfl, ?_⟩
    rw [upd_same, List.map_append]; rfl
  · rintro H ⟨_, sm, bs, lb, eD⟩
    exact hd H bs sm lb eD
/-- a value for each, while the heap grows -/
theorem lc_growR {n : Nat} (f : Nat → V) (hlen : n ≤ 1000) (hD : H1 D = none)
    (hs : ∀ (i : Nat) H (k : V → Hp → Prop) (nn : Hp → Prop), i < n → Same H1 H → (∀ H', Same H H' → k (f i) H') → g (.int (0 + i)) (wipe σ vs) H fun σ2 H2 => wipe σ2 vs = wipe σ vs ∧ tt σ2 H2 fun b H3 => if b = true then te σ2 H3 k else nn H3)
    (hd : ∀ H', Same H1 H' → H' D = some (.lst ((List.range n).map f)) → Qd H') :
    ∃ W : Nat → Nat → Hp → Prop, (∃ m, W 0 m (upd H1 D (.lst []))) ∧ ∀ i m H, W i m H →
      ((Itr 0 n).stop i H ∧ Qd H) ∨ ((Itr 0 n).go i H ∧ ∃ Nx : Hp → Prop, (∀ H', Nx H' → ∃ m', m' < m ∧ W (i + 1) m' H') ∧ ∀ x H', (Itr 0 n).yld i H x H' → g x (wipe σ vs) H' fun σ2 H2 => wipe σ2 vs = wipe σ vs ∧ tt σ2 H2 fun b H3 =>
        if b = true then te σ2 H3 fun y H4 => ∃ acc, H4 D = some (.lst acc) ∧ acc.length < sizeLine ∧ Nx (upd H4 D (.lst (acc ++ [y]))) else Nx H3) := by
  refine lc_range (lo := 0) (n := n) (fun i H => i ≤ n ∧ Same H1 H ∧ H D = some (.lst ((List.range i).map f))) ⟨Nat.zero_le _, same_new hD _, upd_same⟩ ?_ ?_
  · rintro i H hi ⟨_, sm, eD⟩
    refine hs i H _ (fun H3 => i + 1 ≤ n ∧ Same H1 H3 ∧ H3 D = some (.lst ((List.range (i + 1)).map f))) hi sm fun H' s' => ⟨_, s' _ _ eD, by rw [List.length_map, List.length_range]; exact lt_line (by omega), hi, same_upd (sm.trans s') hD _, ?_⟩
    rw [upd_same, List.range_succ, List.map_append]; rfl
  · rintro H ⟨_, sm, eD⟩
    exact hd H sm eD
variable {a : Addr} {xs : List V}
theorem lc_growL (f : Nat → V → V) (hlen : xs.length ≤ 1000) (hS : SqL K H1 a xs) (hD : H1 D = none)
    (hs : ∀ (i : Nat) x H (k : V → Hp → Prop) (n : Hp → Prop), xs[i]? = some x → Same H1 H → (∀ H', Same H H' → k (f i x) H') → g x (wipe σ vs) H fun σ2 H2 => wipe σ2 vs = wipe σ vs ∧ tt σ2 H2 fun b H3 => if b = true then te σ2 H3 k else n H3)
    (hd : ∀ H', Same H1 H' → H' D = some (.lst (xs.mapIdx f)) → Qd H') :
    ∃ W : Nat → Nat → Hp → Prop, (∃ m, W 0 m (upd H1 D (.lst []))) ∧ ∀ i m H, W i m H →
      ((Itl K a).stop i H ∧ Qd H) ∨ ((Itl K a).go i H ∧ ∃ Nx : Hp → Prop, (∀ H', Nx H' → ∃ m', m' < m ∧ W (i + 1) m' H') ∧ ∀ x H', (Itl K a).yld i H x H' → g x (wipe σ vs) H' fun σ2 H2 => wipe σ2 vs = wipe σ vs ∧ tt σ2 H2 fun b H3 =>
        if b = true then te σ2 H3 fun y H4 => ∃ acc, H4 D = some (.lst acc) ∧ acc.length < sizeLine ∧ Nx (upd H4 D (.lst (acc ++ [y]))) else Nx H3) := by
  refine lc_list (xs := xs) (fun i H => Same H1 H ∧ H D = some (.lst ((xs.mapIdx f).take i))) ⟨same_new hD _, upd_same⟩ (fun i H _ z => z.1.seq hS) ?_ ?_
  · rintro i x H hx ⟨sm, eD⟩
    have hm : (xs.mapIdx f)[i]? = some (f i x) := by rw [List.getElem?_mapIdx, hx]; rfl
    have hl : ((xs.mapIdx f).take i).length < sizeLine := lt_line (Nat.le_trans (List.length_take_le _ _) (Nat.le_of_lt (Nat.lt_of_lt_of_le (lt_of_at hx) hlen)))
    refine hs i x H _ (fun H3 => Same H1 H3 ∧ H3 D = some (.lst ((xs.mapIdx f).take (i + 1)))) hx sm fun H' s' => ⟨_, s' _ _ eD, hl, same_upd (sm.trans s') hD _, ?_⟩
    rw [upd_same, tk1 hm]
  · rintro H ⟨sm, eD⟩
    refine hd H sm ?_
    rw [eD, List.take_of_length_le (by rw [List.length_mapIdx]; exact Nat.le_refl _)]
end
theorem const_range (c : V) : ∀ n : Nat, (List.range n).map (fun _ => c) = List.replicate n c
  | 0 => rfl
  | n + 1 => by rw [List.range_succ, List.map_append, const_range c n, List.replicate_succ']; rfl
theorem rep_map (c : Int) (n : Nat) : (List.replicate n c).map V.int = List.replicate n (.int c) := by rw [List.map_replicate]
theorem at_int {xs : List Int} {j : Int} (h0 : 0 ≤ j) (h1 : j < (xs.length : Nat)) : ∃ x, atI (xs.map V.int) j = some (.int x) ∧ x ∈ xs := by
  obtain ⟨n, rfl⟩ : ∃ n : Nat, j = (n : Int) := ⟨j.toNat, by omega⟩
  have hn : n < xs.length := by omega
  exact ⟨xs[n], atI_nat (at_map (List.getElem?_eq_getElem hn)), List.getElem_mem hn⟩
theorem ixNn {n j : Nat} (hj : j < n) : ixN n (j : Int) = some j := by
  unfold ixN
  rw [if_pos (by omega), if_pos (by omega), Int.toNat_natCast]
theorem pr_mapR {α β γ : Type} {F : α → β → Prop} {G : α → γ → Prop} {f : β → γ} {as : List α} {bs : List β} (h : Paired F as bs) (k : ∀ a b, F a b → G a (f b)) : Paired G as (bs.map f) := by
  induction h with
  | nil => exact .nil
  | cons r _ ih => exact .cons (k _ _ r) ih
end GM
set_option Elab.async false
set_option maxRecDepth 100000
namespace GM
open PySem L2
/-! ### the numbers of an attractor, round by round -/
def nums0 (gs : List Bool) : List (Option Nat) := gs.map fun b => if b = true then some 0 else none
def nearL (rows : List (List Int)) (ins : List Bool) (v : Nat) : List Int := (rows.getD v []).filter fun u => ins.getD u.toNat false
def doneL (nums : List (Option Nat)) (l : List Int) : List Int := l.filter fun u => (nums.getD u.toNat none).isSome
def fz (ow : List Int) (rows : List (List Int)) (who : Int) (ins : List Bool) (nums : List (Option Nat)) (v : Nat) : Bool :=
  ins.getD v false && (nums.getD v none).isNone && (decide (0 < (doneL nums (nearL rows ins v)).length) && (decide (ow.getD v 0 = who) || decide ((doneL nums (nearL rows ins v)).length = (nearL rows ins v).length)))
def fr (n : Nat) (ow : List Int) (rows : List (List Int)) (who : Int) (ins : List Bool) (nums : List (Option Nat)) : List Nat := (List.range n).filter (fz ow rows who ins nums)
def setAll (t : Nat) (nums : List (Option Nat)) (vs : List Nat) : List (Option Nat) := vs.foldl (fun a v => a.set v (some t)) nums
def FF (n : Nat) (ow : List Int) (rows : List (List Int)) (who : Int) (ins gs : List Bool) : Nat → List (Option Nat)
  | 0 => nums0 gs
  | t + 1 => setAll (t + 1) (FF n ow rows who ins gs t) (fr n ow rows who ins (FF n ow rows who ins gs t))
theorem setAll_len (t : Nat) (vs : List Nat) : ∀ nums, (setAll t nums vs).length = nums.length := by
  induction vs with
  | nil => exact fun _ => rfl
  | cons v vs ih => exact fun nums => (ih (nums.set v (some t))).trans List.length_set
theorem setAll_get (t : Nat) (vs : List Nat) : ∀ (nums : List (Option Nat)) (j : Nat), j < nums.length → (setAll t nums vs)[j]? = if j ∈ vs then some (some t) else nums[j]? := by
  induction vs with
  | nil => intro nums j _; rw [if_neg List.not_mem_nil]; rfl
  | cons v vs ih =>
    intro nums j hj
    show (setAll t (nums.set v (some t)) vs)[j]? = _
    rw [ih _ j (by rw [List.length_set]; exact hj), List.getElem?_set]
    by_cases h1 : j ∈ vs
    · rw [if_pos h1, if_pos (List.mem_cons_of_mem _ h1)]
    · rw [if_neg h1]
      by_cases h2 : v = j
      · subst h2
        rw [if_pos rfl, if_pos hj, if_pos List.mem_cons_self]
      · rw [if_neg h2, if_neg (fun h => (List.mem_cons.mp h).elim (fun e => h2 e.symm) h1)]
theorem setAll_snoc (t : Nat) (nums : List (Option Nat)) (vs : List Nat) (v : Nat) : setAll t nums (vs ++ [v]) = (setAll t nums vs).set v (some t) := by
  unfold setAll
  rw [List.foldl_append]
  rfl
def nn (l : List (Option Nat)) : Nat := l.countP (·.isNone)
theorem nn_set (t : Nat) : ∀ (l : List (Option Nat)) (v : Nat), nn (l.set v (some t)) ≤ nn l ∧ (l[v]? = some none → nn (l.set v (some t)) + 1 = nn l)
  | [], v => ⟨Nat.le_refl _, fun h => by simp at h⟩
  | none :: l, 0 => by
    have e1 : nn ((none :: l).set 0 (some t)) = nn l := by unfold nn; rw [List.set_cons_zero, List.countP_cons_of_neg (by simp)]
    have e2 : nn (none :: l) = nn l + 1 := by unfold nn; rw [List.countP_cons_of_pos (by simp)]
    exact ⟨by omega, fun _ => by omega⟩
  | some x :: l, 0 => by
    have e1 : nn ((some x :: l).set 0 (some t)) = nn l := by unfold nn; rw [List.set_cons_zero, List.countP_cons_of_neg (by simp)]
    have e2 : nn (some x :: l) = nn l := by unfold nn; rw [List.countP_cons_of_neg (by simp)]
    exact ⟨by omega, fun h => by simp at h⟩
  | y :: l, v + 1 => by
    obtain ⟨h1, h2⟩ := nn_set t l v
    have e : ∀ l' : List (Option Nat), nn (y :: l') = nn l' + (if y.isNone = true then 1 else 0) := fun l' => by unfold nn; rw [List.countP_cons]
    rw [List.set_cons_succ, e, e]
    refine ⟨by omega, fun h => ?_⟩
    have := h2 (by simpa using h)
    omega
theorem nn_setAll (t : Nat) (vs : List Nat) : ∀ nums, nn (setAll t nums vs) ≤ nn nums := by
  induction vs with
  | nil => exact fun _ => Nat.le_refl _
  | cons v vs ih => exact fun nums => Nat.le_trans (ih _) (nn_set t nums v).1
section
variable {n : Nat} {ow : List Int} {rows : List (List Int)} {who : Int} {ins gs : List Bool}
theorem FF_len (hg : gs.length = n) : ∀ t, (FF n ow rows who ins gs t).length = n
  | 0 => (List.length_map _).trans hg
  | t + 1 => (setAll_len _ _ _).trans (FF_len hg t)
theorem fr_none {nums : List (Option Nat)} (hl : nums.length = n) {v : Nat} (h : v ∈ fr n ow rows who ins nums) : v < n ∧ nums[v]? = some none := by
  obtain ⟨h1, h2⟩ := List.mem_filter.mp h
  have hv := List.mem_range.mp h1
  refine ⟨hv, ?_⟩
  unfold fz at h2
  rw [Bool.and_eq_true, Bool.and_eq_true] at h2
  have h3 := h2.1.2
  rw [List.getD_eq_getElem?_getD, List.getElem?_eq_getElem (by omega)] at h3
  rw [List.getElem?_eq_getElem (by omega)]
  exact congrArg some (Option.isNone_iff_eq_none.mp h3)
theorem FF_less (hg : gs.length = n) (t : Nat) (h : fr n ow rows who ins (FF n ow rows who ins gs t) ≠ []) : nn (FF n ow rows who ins gs (t + 1)) + 1 ≤ nn (FF n ow rows who ins gs t) := by
  show nn (setAll (t + 1) (FF n ow rows who ins gs t) (fr n ow rows who ins (FF n ow rows who ins gs t))) + 1 ≤ _
  cases e : fr n ow rows who ins (FF n ow rows who ins gs t) with
  | nil => exact absurd e h
  | cons v vs =>
    have hv := (fr_none (FF_len hg t) (by rw [e]; exact List.mem_cons_self)).2
    have h1 := (nn_set (t + 1) _ v).2 hv
    have h2 := nn_setAll (t + 1) vs ((FF n ow rows who ins gs t).set v (some (t + 1)))
    show nn (setAll (t + 1) ((FF n ow rows who ins gs t).set v (some (t + 1))) vs) + 1 ≤ _
    omega
theorem FF_count (hg : gs.length = n) : ∀ t, (∀ s, s < t → fr n ow rows who ins (FF n ow rows who ins gs s) ≠ []) → nn (FF n ow rows who ins gs t) + t ≤ n
  | 0, _ => by
    have := List.countP_le_length (p := (·.isNone)) (l := FF n ow rows who ins gs 0)
    have e := FF_len (n := n) (ow := ow) (rows := rows) (who := who) (ins := ins) hg 0
    show nn _ + 0 ≤ n
    unfold nn
    omega
  | t + 1, h => by
    have h1 := FF_count hg t fun s hs => h s (by omega)
    have h2 := FF_less (ow := ow) (rows := rows) (who := who) (ins := ins) hg t (h t (Nat.lt_succ_self t))
    omega
theorem nn_zero {l : List (Option Nat)} (h : nn l = 0) {v : Nat} : l[v]? ≠ some none := fun e => by
  have := List.countP_eq_zero.mp h _ (List.mem_of_getElem? e)
  simp at this
theorem fr_end (hg : gs.length = n) (h : ∀ s, s < n → fr n ow rows who ins (FF n ow rows who ins gs s) ≠ []) : fr n ow rows who ins (FF n ow rows who ins gs n) = [] := by
  have h1 := FF_count (ow := ow) (rows := rows) (who := who) (ins := ins) hg n h
  cases e : fr n ow rows who ins (FF n ow rows who ins gs n) with
  | nil => rfl
  | cons v vs => exact absurd (fr_none (FF_len hg n) (by rw [e]; exact List.mem_cons_self)).2 (nn_zero (by omega))
/-- where the rounds end -/
def IsFix (n : Nat) (ow : List Int) (rows : List (List Int)) (who : Int) (ins gs : List Bool) (nums : List (Option Nat)) : Prop := ∃ t, nums = FF n ow rows who ins gs t ∧ fr n ow rows who ins (FF n ow rows who ins gs t) = []
theorem FF_stay {t : Nat} (h : fr n ow rows who ins (FF n ow rows who ins gs t) = []) : ∀ k, FF n ow rows who ins gs (t + k) = FF n ow rows who ins gs t
  | 0 => rfl
  | k + 1 => by
    show setAll (t + k + 1) (FF n ow rows who ins gs (t + k)) (fr n ow rows who ins (FF n ow rows who ins gs (t + k))) = _
    rw [FF_stay h k, h]
    rfl
theorem IsFix.eq {a b : List (Option Nat)} (ha : IsFix n ow rows who ins gs a) (hb : IsFix n ow rows who ins gs b) : a = b := by
  obtain ⟨s, rfl, h1⟩ := ha
  obtain ⟨t, rfl, h2⟩ := hb
  rcases Nat.le_total s t with h | h
  · obtain ⟨k, rfl⟩ := Nat.le.dest h
    exact (FF_stay h1 k).symm
  · obtain ⟨k, rfl⟩ := Nat.le.dest h
    exact FF_stay h2 k
end
def oV : Option Nat → V
  | none => .non
  | some k => .int (k : Int)
def intP (f : Int → Bool) : V → Bool
  | .int u => f u
  | _ => false
theorem filter_int (f : Int → Bool) (l : List Int) : (l.map V.int).filter (intP f) = (l.filter f).map V.int := by
  rw [List.filter_map]
  rfl
end GM
set_option Elab.async false
set_option linter.all false
set_option maxRecDepth 100000
set_option maxHeartbeats 4000000
namespace GM
open PySem PySem.Spec PyProof.Rows L2
section
variable {K : PySem.W.Frag} {g : TG} {tt : TT} {te : TE} {vs : List Nat} {σ : L2.St} {H1 : Hp} {D : Addr} {Qd : Hp → Prop}
/-- a new object for each, told by a relation -/
theorem lc_relR {n : Nat} (R : Nat → HO → Prop) (hlen : n ≤ 1000) (hD : H1 D = none)
    (hs : ∀ (i : Nat) H (k : V → Hp → Prop) (nn : Hp → Prop), i < n → Same H1 H → (∀ p o H', Same H H' → H p = none → H' p = some o → R i o → k (.ref p) H') → g (.int (0 + i)) (wipe σ vs) H fun σ2 H2 => wipe σ2 vs = wipe σ vs ∧ tt σ2 H2 fun b H3 => if b = true then te σ2 H3 k else nn H3)
    (hd : ∀ H' (ps : List Addr), Same H1 H' → H' D = some (.lst (ps.map V.ref)) → Paired (fun p i => ∃ o, H' p = some o ∧ R i o) ps (List.range n) → Qd H') :
    ∃ W : Nat → Nat → Hp → Prop, (∃ m, W 0 m (upd H1 D (.lst []))) ∧ ∀ i m H, W i m H →
      ((Itr 0 n).stop i H ∧ Qd H) ∨ ((Itr 0 n).go i H ∧ ∃ Nx : Hp → Prop, (∀ H', Nx H' → ∃ m', m' < m ∧ W (i + 1) m' H') ∧ ∀ x H', (Itr 0 n).yld i H x H' → g x (wipe σ vs) H' fun σ2 H2 => wipe σ2 vs = wipe σ vs ∧ tt σ2 H2 fun b H3 =>
        if b = true then te σ2 H3 fun y H4 => ∃ acc, H4 D = some (.lst acc) ∧ acc.length < sizeLine ∧ Nx (upd H4 D (.lst (acc ++ [y]))) else Nx H3) := by
  refine lc_range (lo := 0) (n := n) (fun i H => i ≤ n ∧ Same H1 H ∧ ∃ ps : List Addr, H D = some (.lst (ps.map V.ref)) ∧ Paired (fun p i => p ≠ D ∧ ∃ o, H p = some o ∧ R i o) ps (List.range i)) ⟨Nat.zero_le _, same_new hD _, [], upd_same, .nil⟩ ?_ ?_
  · rintro i H hi ⟨_, sm, ps, eD, pw⟩
    have lp : ps.length = i := by rw [pw.length, List.length_range]
    refine hs i H _ (fun H3 => i + 1 ≤ n ∧ Same H1 H3 ∧ ∃ ps : List Addr, H3 D = some (.lst (ps.map V.ref)) ∧ Paired (fun p i => p ≠ D ∧ ∃ o, H3 p = some o ∧ R i o) ps (List.range (i + 1))) hi sm fun p o H' s' hp e' r => ⟨_, s' _ _ eD, ?_, hi, same_upd (sm.trans s') hD _, ps ++ [p], ?_, ?_⟩
    · rw [List.length_map, lp]; exact lt_line (by omega)
    · rw [upd_same, List.map_append]; rfl
    · rw [List.range_succ]
      have hpD : p ≠ D := fun z => by rw [z, eD] at hp; cases hp
      exact (L2.Paired.mapP pw fun b j ⟨z, u, e, r⟩ => ⟨z, u, by rw [upd_ne z]; exact s' _ _ e, r⟩).snoc ⟨hpD, o, by rw [upd_ne hpD]; exact e', r⟩
  · rintro H ⟨_, sm, ps, eD, pw⟩
    exact hd H ps sm eD (L2.Paired.mapP pw fun _ _ z => z.2)
variable {a : Addr} {xs : List Int}
theorem lc_mapI (f : Int → Int) (hlen : xs.length ≤ 1000) (hS : SqL K H1 a (xs.map V.int)) (hD : H1 D = none)
    (hs : ∀ (i : Nat) z H (k : V → Hp → Prop) (n : Hp → Prop), xs[i]? = some z → Same H1 H → k (.int (f z)) H → g (.int z) (wipe σ vs) H fun σ2 H2 => wipe σ2 vs = wipe σ vs ∧ tt σ2 H2 fun b H3 => if b = true then te σ2 H3 k else n H3)
    (hd : ∀ H', Same H1 H' → H' D = some (.lst ((xs.map f).map V.int)) → Qd H') :
    ∃ W : Nat → Nat → Hp → Prop, (∃ m, W 0 m (upd H1 D (.lst []))) ∧ ∀ i m H, W i m H →
      ((Itl K a).stop i H ∧ Qd H) ∨ ((Itl K a).go i H ∧ ∃ Nx : Hp → Prop, (∀ H', Nx H' → ∃ m', m' < m ∧ W (i + 1) m' H') ∧ ∀ x H', (Itl K a).yld i H x H' → g x (wipe σ vs) H' fun σ2 H2 => wipe σ2 vs = wipe σ vs ∧ tt σ2 H2 fun b H3 =>
        if b = true then te σ2 H3 fun y H4 => ∃ acc, H4 D = some (.lst acc) ∧ acc.length < sizeLine ∧ Nx (upd H4 D (.lst (acc ++ [y]))) else Nx H3) := by
  refine lc_list (xs := xs.map V.int) (fun i H => Same H1 H ∧ H D = some (.lst (((xs.map f).map V.int).take i))) ⟨same_new hD _, upd_same⟩ (fun i H _ z => z.1.seq hS) ?_ ?_
  · rintro i x H hx ⟨sm, eD⟩
    obtain ⟨z, hz, rfl⟩ := map_at hx
    have hm : ((xs.map f).map V.int)[i]? = some (.int (f z)) := at_map (by rw [List.getElem?_map, hz]; rfl)
    have hl : (((xs.map f).map V.int).take i).length < sizeLine := lt_line (Nat.le_trans (List.length_take_le _ _) (Nat.le_of_lt (Nat.lt_of_lt_of_le (lt_of_at hz) hlen)))
    refine hs i z H _ (fun H3 => Same H1 H3 ∧ H3 D = some (.lst (((xs.map f).map V.int).take (i + 1)))) hz sm ⟨_, eD, hl, same_upd sm hD _, ?_⟩
    rw [upd_same, tk1 hm]
  · rintro H ⟨sm, eD⟩
    refine hd H sm ?_
    rw [eD, List.take_of_length_le (by rw [List.length_map, List.length_map, List.length_map]; exact Nat.le_refl _)]
end
/-- list(xs), named -/
def rLst (K : PySem.W.Frag) : List V → Hp → VK → Prop := fun xs H Q => ∃ p ys, xs = [.ref p] ∧ (SqL K H p ys ∨ SqT K H p ys) ∧ ∀ l, H l = none → Q (.ref l) (upd H l (.lst ys))
/-! ### data that can be compared -/
def Ly (N : Nat) (d : PyData) : Prop := d.canLay0 = true ∧ d.depth ≤ N
theorem ly_all {N : Nat} : ∀ {ds : List PyData}, (∀ d ∈ ds, Ly N d) → PyData.canLayAll0 ds = true ∧ PyData.depthAll ds ≤ N
  | [], _ => ⟨rfl, Nat.zero_le _⟩
  | d :: ds, h => by
    obtain ⟨i1, i2⟩ := ly_all (ds := ds) fun e he => h e (List.mem_cons_of_mem _ he)
    obtain ⟨h1, h2⟩ := h d List.mem_cons_self
    refine ⟨?_, ?_⟩
    · show (d.canLay0 && PyData.canLayAll0 ds) = true
      rw [h1, i1]; rfl
    · show max d.depth (PyData.depthAll ds) ≤ N
      omega
theorem ly_list {N : Nat} {ds : List PyData} (h : ∀ d ∈ ds, Ly N d) : Ly (N + 1) (.list ds) := by
  obtain ⟨a, b⟩ := ly_all h
  exact ⟨a, by show PyData.depthAll _ + 1 ≤ _; omega⟩
theorem ly_tup {N : Nat} {ds : List PyData} (h : ∀ d ∈ ds, Ly N d) : Ly (N + 1) (.tuple ds) := by
  obtain ⟨a, b⟩ := ly_all h
  exact ⟨a, by show PyData.depthAll _ + 1 ≤ _; omega⟩
theorem ly_ints (ns : List Int) : ∀ d ∈ ns.map PyData.int, Ly 0 d := fun d hd => by
  obtain ⟨i, _, rfl⟩ := List.mem_map.mp hd
  exact ⟨rfl, Nat.le_refl _⟩
theorem ly_shaped {N : Nat} {d : PyData} (h : Ly N d) (hN : N ≤ 64) : PySem.SeqAt.shaped d = true := by
  unfold PySem.SeqAt.shaped
  rw [h.1, decide_eq_true (Nat.le_trans h.2 hN)]
  rfl
theorem ly_refl {N : Nat} {d : PyData} (h : Ly N d) : PyData.eqv d d = true := PySem.SeqAt.eqv_refl _ h.1
theorem Ly.up {N M : Nat} {d : PyData} (h : Ly N d) (l : N ≤ M) : Ly M d := ⟨h.1, Nat.le_trans h.2 l⟩
theorem dp_tupI {K : PySem.W.Frag} {H : Hp} {a : Addr} {ns : List Int} (e : H a = some (.tup (ns.map V.int))) : Dp K H (.ref a) (.tuple (ns.map PyData.int)) := .tup (sqT e) (dp_ints ns)
def rowsD (rows : List (List Int)) : List PyData := rows.map fun r => .tuple (r.map PyData.int)
theorem dp_rows {K : PySem.W.Frag} {H : Hp} : ∀ {ts : List Addr} {rows : List (List Int)}, Paired (fun t xs => H t = some (.tup (xs.map V.int))) ts rows → DpAll K H (ts.map V.ref) (rowsD rows)
  | _, _, .nil => .nil
  | _, _, .cons h k => .cons (dp_tupI h) (dp_rows k)
theorem ly_rows (rows : List (List Int)) : ∀ d ∈ rowsD rows, Ly 1 d := fun d hd => by
  obtain ⟨r, _, rfl⟩ := List.mem_map.mp hd
  exact ly_tup (ly_ints r)
/-- two results, one for each player -/
def DueAt (H : Hp) (du : Addr) (F : Int → List (Option Nat) → Prop) : Prop := ∃ t0 t1 N0 N1, H du = some (.lst [.ref t0, .ref t1]) ∧ H t0 = some (.tup (N0.map oV)) ∧ H t1 = some (.tup (N1.map oV)) ∧ F 0 N0 ∧ F 1 N1
theorem DueAt.same {H H' : Hp} {du : Addr} {F : Int → List (Option Nat) → Prop} (h : DueAt H du F) (s : Same H H') : DueAt H' du F := by
  obtain ⟨t0, t1, N0, N1, a, b, c, d, e⟩ := h
  exact ⟨t0, t1, N0, N1, s _ _ a, s _ _ b, s _ _ c, d, e⟩
theorem DueAt.at {K : PySem.W.Frag} {H : Hp} {du : Addr} {F : Int → List (Option Nat) → Prop} (h : DueAt H du F) {w : Int} (hw : w = 0 ∨ w = 1) : ∃ t N xs, SqL K H du xs ∧ atI xs w = some (.ref t) ∧ H t = some (.tup (N.map oV)) ∧ F w N := by
  obtain ⟨t0, t1, N0, N1, a, b, c, d, e⟩ := h
  rcases hw with rfl | rfl
  · exact ⟨t0, N0, _, SqL.of a, rfl, b, d⟩
  · exact ⟨t1, N1, _, SqL.of a, rfl, c, e⟩
theorem due_of {H : Hp} {du : Addr} {ps : List Addr} {F : Int → List (Option Nat) → Prop} (e : H du = some (.lst (ps.map V.ref))) (pw : Paired (fun p i => ∃ o, H p = some o ∧ ∃ N, o = .tup (N.map oV) ∧ F ((i : Nat) : Int) N) ps (List.range 2)) : DueAt H du F := by
  rw [show List.range 2 = [0, 1] from rfl] at pw
  cases pw with
  | cons h0 r =>
    cases r with
    | cons h1 r1 =>
      cases r1 with
      | nil =>
        obtain ⟨_, e0, N0, rfl, f0⟩ := h0
        obtain ⟨_, e1, N1, rfl, f1⟩ := h1
        exact ⟨_, _, N0, N1, e, e0, e1, f0, f1⟩
theorem fix_congr {n : Nat} {ow ow' : List Int} {rows : List (List Int)} {who who' : Int} {ins gs : List Bool} {nums : List (Option Nat)} (h : ∀ v, v < n → decide (ow.getD v 0 = who) = decide (ow'.getD v 0 = who')) (hx : IsFix n ow rows who ins gs nums) : IsFix n ow' rows who' ins gs nums := by
  have hf : ∀ N, fr n ow rows who ins N = fr n ow' rows who' ins N := fun N => List.filter_congr fun v hv => by
    have := h v (List.mem_range.mp hv)
    unfold fz
    rw [this]
  have hF : ∀ t, FF n ow rows who ins gs t = FF n ow' rows who' ins gs t := by
    intro t
    induction t with
    | zero => rfl
    | succ t ih =>
      show setAll (t + 1) (FF n ow rows who ins gs t) (fr n ow rows who ins (FF n ow rows who ins gs t)) = setAll (t + 1) (FF n ow' rows who' ins gs t) (fr n ow' rows who' ins (FF n ow' rows who' ins gs t))
      rw [hf, ih]
  obtain ⟨t, e, z⟩ := hx
  exact ⟨t, e.trans (hF t), by rw [← hF t, ← hf]; exact z⟩
end GM
set_option Elab.async false
set_option linter.all false
set_option maxRecDepth 100000
set_option maxHeartbeats 4000000
namespace GM
open PySem PySem.Spec PyProof.Rows L2
/-! ### defs that are called while no repr is under way -/
structure FnG (P : Program) (w : World) (K : PySem.W.Frag) (mg : Str → Option Value) (g : Heap) (CX : CXT) (k : Nat) (f : Addr) (fd : FuncData) (ps : List Str) (sp : Sp) : Prop where
  len : ∀ vs H Q E, sp vs H Q E → vs.length = ps.length
  run : ∀ (B : Around) (out : List Env) (t : Shared) (H : Hp) (ar : Args) (us : List Value) (vs : List V) (Q : VK) (E : XK), B.guards = some [] → Room k B → Env0 P w K mg g B out t H → BindsTo t fd ar (ps.zip us) → Vals vs us →
    sp vs H Q E → codeAny (model P w) B (.call (.ref f) ar) (CR CX out P w H t Q E) t
theorem guards_deeper {B : Around} {env : Env} (h : B.guards = some []) : (B.deeper env).guards = some [] := h
theorem FnG.of_body {CX : CXT} {P : Program} {w : World} {K : PySem.W.Frag} {mg : Str → Option Value} {g : Heap} {k : Nat} {f : Addr} {nm qn : Str} {pa : Arguments} {bd : List Stmt} {sc : Scope} {dV kV doc pm cdv ct oc : Value} {an od : Option Addr}
    {sl : Array (Option Value)} {N ps : List Str} {sp : Sp} (lk : K.lookup f = some ⟨oc, od, .func (PySem.W.fnOf nm qn pa bd sc dV kV doc pm an cdv ct), sl⟩) (hcd : PySem.W.codeIn K cdv qn = true) (S : FnScope N ps sc)
    (ln : ∀ vs H Q E, sp vs H Q E → vs.length = ps.length)
    (hb : ∀ (B : Around) (out : List Env) (t : Shared) (H : Hp) (vs : List V) (Q : VK) (E : XK), B.guards = some [] → Room k (B.deeper (envOfC qn sc t.heap.objs.size f cdv)) → sp vs H Q E →
      ∃ r, PSs (cxOf CX P w K mg g N qn sc f cdv B out t H E) bd r ∧ r { nx := fun _ H' => Q .non H', rt := Q } (start N vs) H) :
    FnG P w K mg g CX (k + 1) f (PySem.W.fnOf nm qn pa bd sc dV kV doc pm an cdv ct) ps sp where
  len := ln
  run := by
    intro B out t H ar us vs Q E hg hr env bt rv hsp
    have lv := ln _ _ _ _ hsp
    have kin : K.In t.heap := env.mod.kin.keeps fun b o e => (env.bs b o e).1
    have nol : t.heap.NoLimit := env.mod.nolimit.keeps fun b o e => (env.bs b o e).1
    have kinds : ∀ y ∈ ps.zip us, sc.names.lookup y.1 = some .local ∨ (sc.names.lookup y.1 = some .cell ∧ ((cellsFrom (t.heap.objs.size + 1) sc.names []).lookup y.1).isSome = true) := by
      rintro ⟨n, v⟩ hy
      rcases S.par n (List.of_mem_zip hy).1 with c | c
      · exact Or.inl c
      · exact Or.inr ⟨c, PySem.W.cellsFrom_some _ _ _ (Or.inl c)⟩
    apply codeAny_call_function hr.depth (kin _ _ lk) rfl S.co S.gen rfl (PySem.W.codeRec_of kin hcd) (bt _ _ _ _ ?_)
    apply wpAny_newFunctionEnv_cells S.kind kinds
    rintro e1 rfl t1 x
    refine And.intro (nol.keeps x.toInCall.keep) (codeAny_func ?_)
    obtain ⟨r, hrd, hq⟩ := hb B out t H vs Q E hg (hr.deeper _) hsp
    have I : Inv (cxOf CX P w K mg g N qn sc f cdv B out t H E) [] (start N vs) H t1 := inv_start S hr.hd env lv rv x
    have fin : ∀ {σ1 : L2.St} {H1 : Hp} {z : V} {u : Value} {t2 : Shared}, Inv (cxOf CX P w K mg g N qn sc f cdv B out t H E) [] σ1 H1 t2 → RelV z u → Q z H1 → CE out P w H t Q u t2 := by
      intro σ1 H1 z u t2 J rz q
      exact ⟨z, H1, J.os, J.bare, J.base, J.hok, rz, q⟩
    apply wpAny_mono (hrd.run [] t1 (start N vs) H _ I hq)
    · intro fl t2 hs
      match fl, hs with
      | .ret u, ⟨z, σ1, H1, J, rz, q⟩ => exact fin J rz q
      | .next, ⟨σ1, H1, J, q⟩ => exact fin (z := V.non) (u := Value.none) J rfl q
      | .brk, ⟨_, _, _, q⟩ => exact q.elim
      | .cont, ⟨_, _, _, q⟩ => exact q.elim
    · exact fun _ _ hs => hs
theorem okG {P : Program} {w : World} {K : PySem.W.Frag} {mg : Str → Option Value} {g : Heap} {x qn : Str} {st : Stmt} {f : Addr} {fd : FuncData} {N ps : List Str} {k : Nat} {sp : Sp} (F : Fun K x qn st f fd) (S : FnScope N ps (defScope st)) (ln : ∀ vs H Q E, sp vs H Q E → vs.length = ps.length)
    (hb : ∀ (cdv : Value) (B : Around) (out : List Env) (t : Shared) (H : Hp) (vs : List V) (Q : VK) (E : XK), B.guards = some [] → Room k (B.deeper (envOfC qn (defScope st) t.heap.objs.size f cdv)) → sp vs H Q E →
      ∃ r, PSs (cxOf CX0 P w K mg g N qn (defScope st) f cdv B out t H E).nox (defBody st) r ∧ r { nx := fun _ H' => Q .non H', rt := Q } (start N vs) H) : FnG P w K mg g CX0 (k + 1) f fd ps sp := by
  obtain ⟨oc, od, kV, doc, pm, an, cdv, ct, sl, rfl, lk, hcd⟩ := F.ex
  refine FnG.of_body lk hcd S ln fun B out t H vs Q E hg hr hsp => ?_
  obtain ⟨r, h, q⟩ := hb cdv B out t H vs Q E hg hr hsp
  exact ⟨r, h.nox, q⟩
/-- the law's own call -/
theorem walk_ofG {l : PySem.W.OpenLaw} {n k : Nat} {q : Program} {loose : List Str} {XP : (Str → Option Value) → Heap → Prop} {YP : World → Heap → Prop} {d : DefRec} {KK : Params → PySem.W.Frag} {sp : World → Sp} {x : Str}
    (hn : l.most = some n) (hn2 : n ≤ sizeLine) (hdf : d.params.defaults = []) (hr : Room k callerA)
    (hY : ∀ (w : World) (h : Heap), YP w h → (KK w.params).In h)
    (F : ∀ (w : World) (mg : Str → Option Value) (fa : Addr) (h : Heap), (KK w.params).In h → h.Ns mainGlobals mg → mg d.name = some (.ref fa) →
      ∃ fd : FuncData, (∀ (s : Shared) (u : Value), BindsTo s fd ⟨[u], []⟩ [(x, u)]) ∧ ∀ g : Heap, (KK w.params).In g → g.Ns mainGlobals mg → FnG l.prog w (KK w.params) mg g CX0 k fa fd [x] (sp w))
    (hsp : ∀ (w : World) (H : Hp) (a : Addr) (ns : List Int), ns.length ≤ n → Only H → SqL (KK w.params) H a (ns.map V.int) → sp w [.ref a] H (fun v _ => v = .bl true) fun _ _ _ => False) :
    PySem.W.WalkO q loose XP YP l.row.toRowW d [] (fun f vs => PySem.call f vs) := by
  refine Att.attach_call hn hdf ?_
  intro w s₀ s₁ mg mb fa o pm cd doc a vs ns G Y ho hd hcd hmg hobj hints hlen hgen
  have KX := hY w _ Y
  obtain ⟨fd, hbind, hF⟩ := F w mg fa _ KX G.T.g hmg
  have rv := vals_ints hints
  have lv := hints.length
  have hz : ns.length ≤ sizeLine := Nat.le_trans hlen hn2
  -- once the abstract heap tracks no more than the script
  have main : ∀ H : Hp, Only H → SqL (KK w.params) H a (ns.map V.int) → HOk l.prog w H s₁.heap → (∀ b, H b ≠ none → b = a) → (H a ≠ none → (KK w.params).lookup a = none) →
      codeAny (model l.prog w) callerA (.call (.ref fa) ⟨[.ref a], []⟩) (fun r s' => r = .ok (.ret (.bool true)) ∧ OldK s₁.heap s'.heap ∧ s'.os = s₁.os ∧ AllBare s'.gens) s₁ := by
    intro H only sq ok at_a off
    have keepB : ∀ {b : Addr} {u : Obj}, s₁.heap.get? b = some u → H b = none → (hidT s₁.heap H).get? b = some u := fun e z => hidT_get e z
    have dictFree : ∀ {b : Addr} {u : Obj} {es : Array DictEntry} {ep : Nat}, s₁.heap.get? b = some u → u.data = .dict es ep → H b = none := by
      intro b u es ep e dt
      cases c : H b with
      | none => rfl
      | some z =>
        have eb := at_a b (by rw [c]; exact Option.some_ne_none z)
        rw [eb, hobj] at e
        cases e
        have dt' : Data.seq vs.toArray _ = Data.dict es ep := dt
        cases dt'
    have nsB : ∀ {b : Addr} {m : Str → Option Value}, s₁.heap.Ns b m → (hidT s₁.heap H).Ns b m := by
      rintro b m ⟨u, es, ep, e, dt, rest⟩
      exact ⟨u, es, ep, keepB e (dictFree e dt), dt, rest⟩
    have inB : (KK w.params).In (hidT s₁.heap H) := by
      intro b u e
      refine keepB (KX b u e) ?_
      cases c : H b with
      | none => rfl
      | some z =>
        have eb := at_a b (by rw [c]; exact Option.some_ne_none z)
        subst eb
        rw [off (by rw [c]; exact Option.some_ne_none z)] at e
        cases e
    have md : Mod (KK w.params) mg (hidT s₁.heap H) := by
      refine ⟨inB, nsB G.T.g, ⟨mb, nsB G.T.b, G.T.builtins⟩, ?_⟩
      obtain ⟨mc, h1, h2⟩ := G.T.nolimit
      exact ⟨mc, nsB h1, h2⟩
    have env : Env0 l.prog w (KK w.params) mg (hidT s₁.heap H) callerA [] s₁ H := by
      refine ⟨rfl, md, fun b u e => of_hidT e, Nat.le_of_eq (hidT_size _ _), trivial, ?_, ok, .of_eq hgen⟩
      intro b hb
      exact nomatch (show b ∈ ([] : List Addr) from hb)
    have run := (hF _ inB (nsB G.T.g)).run callerA [] s₁ H ⟨[.ref a], []⟩ [.ref a] [.ref a] _ _ rfl hr env (hbind s₁ (.ref a)) (.cons rfl .nil) (hsp w H a ns hlen only sq)
    refine codeAny_mono run ?_
    intro r s' h
    match r, h with
    | .error e, h => exact False.elim h
    | .ok .next, h => exact False.elim h
    | .ok .brk, h => exact False.elim h
    | .ok .cont, h => exact False.elim h
    | .ok (.ret u), h =>
      obtain ⟨v, H', hos, hbare, hun, hok', hrv, hv⟩ := h
      have hv' : v = .bl true := hv
      rw [hv'] at hrv
      obtain rfl : u = Value.bool true := hrv
      refine ⟨rfl, OldK.of_keep fun b u e => ?_, hos, hbare⟩
      cases c : H b with
      | none => exact hun.keep b u e c (fun z => nomatch (show b ∈ ([] : List Addr) from z)) (fun z => nomatch z)
      | some z =>
        rcases only b with z1 | ⟨ob, xs, z1⟩
        · rw [c] at z1; cases z1
        · obtain ⟨e1, _⟩ := ok b _ z1
          obtain ⟨e2, _⟩ := hok' b _ (hun.frzs b ob _ z1)
          rw [e] at e1
          cases e1
          exact e2
  cases c : (KK w.params).lookup a with
  | some u =>
    have e := KX a u c
    rw [hobj] at e
    cases e
    refine main (fun _ => none) (fun _ => Or.inl rfl) (Or.inr ⟨_, vs.toArray, _, c, rfl, rfl, rfl, ?_, ?_⟩) (fun b u z => nomatch (show (none : Option HO) = some u from z)) (fun b z => absurd rfl z) (fun z => absurd rfl z)
    · rw [List.size_toArray, lv]; exact hz
    · simpa using rv
  | none =>
    refine main (fun b => if b = a then some (.frz { cls := .type "list", data := .seq vs.toArray } (.lst (ns.map V.int))) else none) ?_ (Or.inl (Or.inr ⟨{ cls := .type "list", data := .seq vs.toArray }, if_pos rfl⟩)) ?_ ?_ (fun _ => c)
    · intro b
      by_cases hb : b = a
      · exact Or.inr ⟨_, _, if_pos hb⟩
      · exact Or.inl (if_neg hb)
    · intro b u z
      by_cases hb : b = a
      · have z1 := (if_pos hb).symm.trans z
        cases z1
        subst hb
        refine ⟨hobj, ?_, vs, _, rv, hobj⟩
        rw [List.length_map]; exact hz
      · have z1 := (if_neg hb).symm.trans z
        cases z1
    · intro b z
      by_cases hb : b = a
      · exact hb
      · exact absurd (if_neg hb) z
/-! ### repr of data -/
section
variable {X : Cx}
def rRepr (K : PySem.W.Frag) : List V → Hp → VK → Prop := fun vs H Q => ∃ (a : Addr) (d : PyData), vs = [.ref a] ∧ Dp K H (.ref a) d ∧ d.showable = true ∧ d.hasDict = false ∧ d.depth ≤ 40 ∧ d.shown.length ≤ sizeLine ∧ Q (.str d.shown) H
theorem cr_repr (hg : X.A.guards = some []) (hu : X.A.units + 64 < cLine) : CallR X (.builtin "repr") (rRepr X.K) := by
  intro pins s σ H vs us Q I r h
  obtain ⟨a, d, rfl, hd, hs, hn, hdp, hz, q⟩ := h
  rw [Vals.ref1 r]
  obtain ⟨as, rd⟩ := Dp.reads I d (.ref a) (.ref a) hd rfl
  exact PySem.repr_of_reads' rd hs (PyData.noDict_hsm hn) hg (by omega) (fun _ _ e => e) (fun h' u tk hk => ⟨.str d.shown, H, I.kept (t' := tk) hk, ⟨u, rfl⟩, q⟩) hz
end
end GM
set_option Elab.async false
set_option linter.all false
set_option maxRecDepth 100000
set_option maxHeartbeats 4000000
namespace GM
open PySem PySem.Spec PyProof.Rows L2
/-! ### list(reversed(xs)), xs a list -/
section
variable {prog : Program} {w : World} {A : Around} {E : Value → Shared → Prop} {s : Shared}
theorem rv_extend {R : Result → Shared → Prop} {it l : Addr} {items : Array Value} (hh : A.handled = none) (hit : s.heap.IsRevIter it l ((items.size : Int) - 1)) (hl : s.heap.IsList l items) (hne : l ≠ it) (hn : items.size ≤ sizeLine)
    (S : Addr) (hSi : S ≠ it) (hSl : S ≠ l) (res : Value) (c0 : Nat) (hS : s.heap.get? S = some { cls := .type "list", data := .seq #[] c0 })
    (hR : ∀ h' tk acc c1, (∀ b o, b ≠ S → b ≠ it → s.heap.get? b = some o → h'.get? b = some o) → h'.get? S = some { cls := .type "list", dict := none, data := .seq acc c1, slots := #[] } → ItemsOf (fun i v => items[items.size - 1 - i]? = some v) acc items.size →
      R (.ok (.ret res)) { s with heap := h', toks := tk }) :
    wpAny (model prog w) A.in1 (Builtin.List.listExtendWith (.ref S) (.ref it) res)
      (fun fin s' => match fin with | .done f => R (.ok f) s' | .again c' => c'.quiet = true ∧ codeAny (model prog w) A c' R s') (fun e s' => R (.error e) s') s := by
  have W := (Walks.listRev (prog := prog) (w := w) (A := A.in1) hh it l hne items).toS
  have hSf : S ∉ [it, l] := by simp only [List.mem_cons, List.not_mem_nil, or_false, not_or]; exact ⟨hSi, hSl⟩
  have hT : s.TypeIs (.ref it) "list_reverseiterator" := hit.typeIs
  have h1 : Builtin.List.listSameRef (.ref S) (.ref it) = false := by simp [Builtin.List.listSameRef, hSi]
  unfold Builtin.List.listExtendWith
  refine wpAny_bind (wpAny_typeOf hT ?_)
  rw [if_neg (by rw [h1]; decide)]
  refine wpAny_bind (wpAny_pyIter_revIter hit ?_)
  refine wpAny_bind (wpAny_holding ?_)
  unfold Builtin.List.listLengthHint
  refine wpAny_bind (wpAny_specialOf hT RT.nolen_lri ?_)
  show wpAny _ A.in1 (specialOf (Value.ref it) (Str.ofString "__length_hint__") >>= _) _ _ _
  refine wpAny_bind (wpAny_specialOf hT RT.hint_lri ?_)
  generalize hid : ("list_reverseiterator.__length_hint__" : String) = id0
  wp_delta
  rw [show splitId id0 = some ("list_reverseiterator", "__length_hint__") from by subst hid; decide +kernel]
  subst hid
  refine wpAny_bind (wpAny_isInstance (b := true) hT (by rw [isSubtype_type]; kernel_rfl) ?_)
  refine wpAny_pure ?_
  rw [if_neg (by decide)]
  have e0 : ((items.size : Nat) : Int) - 1 - ((0 : Nat) : Int) = (items.size : Int) - 1 := by omega
  refine wpAny_pure ⟨plainId_quiet F.plain_extend_loop _, codeAny_extend_loopS W hn S hSf res items.size 0 _ _ _ rfl (Nat.zero_le _) ⟨Nat.zero_le _, by rw [e0]; exact hit, hl⟩ hS (ItemsOf.nil _) fun s' acc c1 hm hS' hacc => ?_⟩
  rw [Moved.eq_with hm]
  refine hR s'.heap s'.toks acc c1 (fun b o hb hb2 e => hm.heap b o (fun hmem => ?_) e) hS' hacc
  rcases List.mem_cons.mp hmem with z | hmem
  · exact hb z
  · exact hb2 (List.mem_singleton.mp hmem)
theorem rv_init {R : Result → Shared → Prop} {it l : Addr} {items : Array Value} (hh : A.handled = none) (hit : s.heap.IsRevIter it l ((items.size : Int) - 1)) (hl : s.heap.IsList l items) (hne : l ≠ it) (hn : items.size ≤ sizeLine)
    (S : Addr) (hSi : S ≠ it) (hSl : S ≠ l) (hS : s.heap.get? S = some { cls := .type "list", data := .seq #[] })
    (hR : ∀ h' tk acc c1, (∀ b o, b ≠ S → b ≠ it → s.heap.get? b = some o → h'.get? b = some o) → h'.get? S = some { cls := .type "list", dict := none, data := .seq acc c1, slots := #[] } → ItemsOf (fun i v => items[items.size - 1 - i]? = some v) acc items.size →
      R (.ok (.ret .none)) { s with heap := h', toks := tk }) :
    wpAny (model prog w) A.in1 (Builtin.«list.__init__» ⟨[.ref S, .ref it], []⟩)
      (fun fin s' => match fin with | .done f => R (.ok f) s' | .again c' => c'.quiet = true ∧ codeAny (model prog w) A c' R s') (fun e s' => R (.error e) s') s := by
  show wpAny _ _ (do let old ← Builtin.List.listItems (.ref S); Builtin.List.listUpdate (.ref S) (fun _ => #[]); letGo old.toList.reverse; Builtin.List.listExtendWith (.ref S) (.ref it) .none) _ _ s
  refine wpAny_bind ?_
  unfold Builtin.List.listItems
  refine wpAny_bind (wpAny_seqItems hS rfl (wpAny_pure ?_))
  show wpAny _ _ (updateSeq S (fun _ => #[]) >>= fun _ => letGo (#[] : Array Value).toList.reverse >>= fun _ => Builtin.List.listExtendWith (.ref S) (.ref it) .none) _ _ s
  refine wpAny_bind (wpAny_updateSeq hS rfl ?_)
  have hS2 := Heap.get?_update_self (Obj.mapSeq (fun _ => (#[] : Array Value))) hS rfl
  have oth : ∀ b o, b ≠ S → s.heap.get? b = some o → (s.heap.update S (Obj.mapSeq (fun _ => (#[] : Array Value)))).get? b = some o :=
    fun b o hb e => (Heap.get?_update_other _ _ (Ne.symm hb)).trans e
  refine wpAny_bind (wpAny_letGo ?_)
  refine rv_extend hh (hit.at fun o e => oth it o hSi.symm e) (hl.at fun o e => oth l o hSl.symm e) hne hn S hSi hSl .none _ hS2 (fun h' tk acc c1 hk hS' hacc => ?_)
  exact hR h' tk acc c1 (fun b o hb hb2 e => hk b o hb hb2 (oth b o hb e)) hS' hacc
theorem rv_call {Q : Value → Shared → Prop} {it l : Addr} {items : Array Value} (hh : A.handled = none) (hit : s.heap.IsRevIter it l ((items.size : Int) - 1)) (hl : s.heap.IsList l items) (hne : l ≠ it) (hn : items.size ≤ sizeLine)
    (hQ : ∀ h' tk acc c1, (∀ b o, b ≠ it → s.heap.get? b = some o → h'.get? b = some o) → h'.get? s.heap.objs.size = some { cls := .type "list", dict := none, data := .seq acc c1, slots := #[] } →
      ItemsOf (fun i v => items[items.size - 1 - i]? = some v) acc items.size → Q (.ref s.heap.objs.size) { s with heap := h', toks := tk }) :
    wpAny (model prog w) A (call (.type "list") [.ref it]) Q E s := by
  refine callType_codes (Q₁ := fun obj s₁ => obj = .ref s.heap.objs.size ∧ s₁ = { s with heap := s.heap.push { cls := .type "list", data := .seq #[] } }) PySem.F.called_list (PySem.F.typeCall_list_1 _) PySem.F.entry_list_init
    (code_list_new _ ⟨rfl, rfl⟩) fun obj s₁ h₁ => ?_
  obtain ⟨rfl, rfl⟩ := h₁
  have hS : (s.heap.push { cls := .type "list", data := .seq #[] }).get? s.heap.objs.size = some { cls := .type "list", data := .seq #[] } := Heap.get?_push_size _ rfl
  obtain ⟨oi, hoi, _⟩ := id hit
  obtain ⟨ol, hol, _⟩ := id hl
  refine ⟨⟨_, hS, rfl⟩, PySem.F.args_list_init_2 _ _, rv_init (A := A.in1) hh (hit.at fun o e => Heap.get?_push_of_some _ e) (hl.push _) hne hn _ (Nat.ne_of_gt (Heap.lt_size hoi)) (Nat.ne_of_gt (Heap.lt_size hol)) hS (fun h' tk acc c1 hk hS' hacc => ?_)⟩
  exact ⟨rfl, hQ h' tk acc c1 (fun b o hb e => hk b o (Nat.ne_of_lt (Heap.lt_size e)) hb (Heap.get?_push_of_some _ e)) hS' hacc⟩
end
section
variable {X : Cx}
def tListRev (K : PySem.W.Frag) (te : TE) : TE := fun σ H Q => te σ H fun v H1 => ∃ (a : Addr) (xs : List V), v = .ref a ∧ SqL K H1 a xs ∧ ∀ q, H1 q = none → Q (.ref q) (upd H1 q (.lst xs.reverse))
theorem pe_listRev {e : Expr} {te : TE} {p p2 pos pos2 : Pos} (hc : X.calm = true) (hg : Gl X "list") (hm : X.mg "list" = none) (hg2 : Gl X "reversed") (hm2 : X.mg "reversed" = none) (he : PE X e te)
    (hs : starEach [e] X.env = (false, eval e X.env) :: starEach [] X.env := by rfl)
    (hs2 : starEach [.Call (.Name "reversed" p2) [e] [] pos2] X.env = (false, eval (.Call (.Name "reversed" p2) [e] [] pos2) X.env) :: starEach [] X.env := by rfl) :
    PE X (.Call (.Name "list" p) [.Call (.Name "reversed" p2) [e] [] pos2] [] pos) (tListRev X.K te) := by
  constructor
  intro pins s σ H Q I h
  refine Call_ (ld_blt I hg hm boot_list (PyProof.Rows.callWith_type1 (args_cons (Call_ (ld_blt I hg2 hm2 PyProof.Rows.boot_reversed (PyProof.Rows.callWith_type1 (args_cons (thn (he.run pins s σ H _ I h) ?_) hs) hs rfl))) hs2) hs2 rfl))
  rintro u s1 ⟨v, H1, I1, r1, a, xs, rfl, hq, q⟩
  refine args_nil ?_
  obtain rfl : u = Value.ref a := r1
  obtain ⟨its, rv, pl, hz⟩ := I1.list hq
  refine call_reversed_list pl.isList (args_nil ?_)
  have kp : ∀ b o, s1.heap.get? b = some o → (s1.heap.push (revObj a ((its.toArray.size : Int) - 1))).get? b = some o := fun b o e => Heap.get?_push_of_some _ e
  have I2 : Inv X pins σ H1 { s1 with heap := s1.heap.push (revObj a ((its.toArray.size : Int) - 1)) } := I1.kept (t' := s1.toks) kp
  have fp := I1.fpOk (H' := H1) (b := s1.heap.objs.size) (Nat.le_refl _) (I1.hok.fresh (Nat.le_refl _))
  have hl := pl.isList
  obtain ⟨ol, hol, _⟩ := id hl
  have hne : a ≠ s1.heap.objs.size := Nat.ne_of_lt (Heap.lt_size hol)
  have hn : its.toArray.size ≤ sizeLine := by rw [List.size_toArray, ← rv.length]; exact hz
  refine rv_call (s := { s1 with heap := s1.heap.push (revObj a ((its.toArray.size : Int) - 1)) }) (I1.ok.hd hc) ⟨_, Heap.get?_push_size _ rfl, rfl, rfl⟩ (hl.push _) hne hn fun h' tk acc c1 hk hS hi => ?_
  have J := I2.turnedNew (h' := h') (t' := tk) (ch := [s1.heap.objs.size]) (T := (s1.heap.push (revObj a ((its.toArray.size : Int) - 1))).objs.size) (ob := .lst xs.reverse) (fun b o hb e => hk b o (fun z => hb (by simp [z])) e) (fun b hb => by
      obtain rfl : b = s1.heap.objs.size := by simpa using hb
      exact fp) (Nat.le_refl _) (show ObjOk X.prog X.w _ _ _ (.lst xs.reverse) from ⟨by rw [List.length_reverse]; exact hz, acc.toList, c1, RT.vals_rev rv hi, by rw [Array.toArray_toList]; exact hS⟩)
  exact ⟨.ref _, _, J, rfl, q _ (I2.hok.fresh (Nat.le_refl _))⟩
end
end GM
set_option Elab.async false
set_option linter.all false
set_option maxRecDepth 100000
set_option maxHeartbeats 4000000
namespace GM
open PySem PySem.Spec PyProof.Rows L2
/-! ### data whose text is short -/
structure Sm (dp b : Nat) (d : PyData) : Prop where
  sh : d.showable = true
  nd : d.hasDict = false
  dep : d.depth ≤ dp
  lv : d.leavesShort 24 = true
  bk : d.bulk ≤ b
structure SmA (dp b : Nat) (ds : List PyData) : Prop where
  sh : PyData.showableAll ds = true
  nd : PyData.hasDictAll ds = false
  dep : PyData.depthAll ds ≤ dp
  lv : PyData.leavesShortAll 24 ds = true
  bk : PyData.bulkAll ds ≤ b
theorem short_int {i : Int} (h : i.natAbs < 10 ^ 20) : (PyData.shown (.int i)).length ≤ 24 := by
  have e := int_text_length_le10 (a := i) (k := 20) (by decide) h
  show (Str.ofString (toString i)).length ≤ 24
  have e2 : (Str.ofString (toString i)).length = (toString i).length := PySem.ofString_length _
  omega
theorem sm_non : Sm 0 0 .none := ⟨rfl, rfl, Nat.le_refl _, rfl, Nat.le_refl _⟩
theorem sm_bl (b : Bool) : Sm 0 0 (.bool b) := ⟨rfl, rfl, Nat.le_refl _, rfl, Nat.le_refl _⟩
theorem log_small {n : Nat} (h : n < 10 ^ 20) : n.log2 < 1920 := by
  by_cases c : n = 0
  · subst c; decide
  · exact (Nat.log2_lt c).mpr (Nat.lt_of_lt_of_le h (Nat.le_trans (by decide : 10 ^ 20 ≤ 2 ^ 80) (Nat.pow_le_pow_right (by decide) (by decide))))
theorem sm_big {i : Int} (h : i.natAbs < 10 ^ 20) : Sm 0 0 (.int i) := by
  refine ⟨?_, rfl, Nat.le_refl _, ?_, Nat.le_refl _⟩
  · show decide (i.natAbs.log2 < 1920) = true
    exact decide_eq_true (log_small h)
  · show decide ((PyData.shown (.int i)).length ≤ 24) = true
    exact decide_eq_true (short_int h)
theorem sm_int {i : Int} (h : -5000 ≤ i) (h2 : i ≤ 5000) : Sm 0 0 (.int i) := sm_big (Nat.lt_of_le_of_lt (show i.natAbs ≤ 5000 by omega) (by decide))
theorem Sm.mono {dp b dp' b' : Nat} {d : PyData} (s : Sm dp b d) (h1 : dp ≤ dp') (h2 : b ≤ b') : Sm dp' b' d := ⟨s.sh, s.nd, Nat.le_trans s.dep h1, s.lv, Nat.le_trans s.bk h2⟩
theorem sma_nil : SmA 0 0 [] := ⟨rfl, rfl, Nat.le_refl _, rfl, Nat.le_refl _⟩
theorem SmA.mono {dp b dp' b' : Nat} {d : List PyData} (s : SmA dp b d) (h1 : dp ≤ dp') (h2 : b ≤ b') : SmA dp' b' d := ⟨s.sh, s.nd, Nat.le_trans s.dep h1, s.lv, Nat.le_trans s.bk h2⟩
theorem sma_cons {dp b c : Nat} {d : PyData} {ds : List PyData} (h : Sm dp b d) (t : SmA dp c ds) : SmA dp (b + 1 + c) (d :: ds) := by
  refine ⟨?_, ?_, ?_, ?_, ?_⟩
  · show (d.showable && PyData.showableAll ds) = true
    rw [h.sh, t.sh]; rfl
  · show (d.hasDict || PyData.hasDictAll ds) = false
    rw [h.nd, t.nd]; rfl
  · show max d.depth (PyData.depthAll ds) ≤ dp
    have := h.dep
    have := t.dep
    omega
  · show (d.leavesShort 24 && PyData.leavesShortAll 24 ds) = true
    rw [h.lv, t.lv]; rfl
  · show d.bulk + 1 + PyData.bulkAll ds ≤ _
    have := h.bk
    have := t.bk
    omega
theorem sma_all {dp b : Nat} : ∀ {ds : List PyData}, (∀ d ∈ ds, Sm dp b d) → SmA dp ((b + 1) * ds.length) ds
  | [], _ => ⟨rfl, rfl, Nat.zero_le _, rfl, Nat.zero_le _⟩
  | d :: ds, h => (sma_cons (h d List.mem_cons_self) (sma_all fun x hx => h x (List.mem_cons_of_mem _ hx))).mono (Nat.le_refl _) (by rw [List.length_cons, Nat.mul_succ]; omega)
theorem sm_lst {dp b : Nat} {ds : List PyData} (h : SmA dp b ds) : Sm (dp + 1) b (.list ds) := by
  refine ⟨h.sh, h.nd, ?_, h.lv, h.bk⟩
  show PyData.depthAll ds + 1 ≤ dp + 1
  exact Nat.succ_le_succ h.dep
theorem sm_tup {dp b : Nat} {ds : List PyData} (h : SmA dp b ds) : Sm (dp + 1) b (.tuple ds) := by
  refine ⟨h.sh, h.nd, ?_, h.lv, h.bk⟩
  show PyData.depthAll ds + 1 ≤ dp + 1
  exact Nat.succ_le_succ h.dep
theorem Sm.len {dp b : Nat} {d : PyData} (h : Sm dp b d) (hb : b ≤ 100000) : d.shown.length ≤ sizeLine := by
  have e := PyData.shown_le_bulk 24 (by decide) d h.lv
  have := h.bk
  have := sizeLine_eq
  omega
/-- what repr wants -/
theorem repr_ok {K : PySem.W.Frag} {H : Hp} {a : Addr} {d : PyData} {dp b : Nat} {Q : VK} (hd : Dp K H (.ref a) d) (h : Sm dp b d) (hdp : dp ≤ 40) (hb : b ≤ 100000) (q : Q (.str d.shown) H) : rRepr K [.ref a] H Q :=
  ⟨a, d, rfl, hd, h.sh, h.nd, Nat.le_trans h.dep hdp, h.len hb, q⟩
/-! ### data while the heap grows -/
mutual
theorem dp_same {K : PySem.W.Frag} {H H' : Hp} (s : Same H H') : ∀ {v : V} {d : PyData}, Dp K H v d → Dp K H' v d
  | _, _, .non => .non
  | _, _, .bl b => .bl b
  | _, _, .int i => .int i
  | _, _, .str x => .str x
  | _, _, .lst h t => .lst (s.seq h) (dpa_same s t)
  | _, _, .tup h t => .tup (seqT_same s h) (dpa_same s t)
theorem dpa_same {K : PySem.W.Frag} {H H' : Hp} (s : Same H H') : ∀ {vs : List V} {ds : List PyData}, DpAll K H vs ds → DpAll K H' vs ds
  | _, _, .nil => .nil
  | _, _, .cons h t => .cons (dp_same s h) (dpa_same s t)
end
/-- the heap without a -/
def del (H : Hp) (a : Addr) : Hp := fun b => if b = a then Option.none else H b
theorem del_ne {H : Hp} {a b : Addr} (h : b ≠ a) : del H a b = H b := if_neg h
theorem del_up {H : Hp} {a : Addr} : Same (del H a) H := fun b o e => by
  by_cases c : b = a
  · rw [show del H a b = Option.none from if_pos c] at e; exact nomatch e
  · rw [del_ne c] at e; exact e
theorem del_mono {H H' : Hp} {a : Addr} (s : Same H H') : Same (del H a) (del H' a) := fun b o e => by
  by_cases c : b = a
  · rw [show del H a b = Option.none from if_pos c] at e; exact nomatch e
  · rw [del_ne c] at e ⊢; exact s _ _ e
theorem del_upd {H : Hp} {a : Addr} {o : HO} : del (upd H a o) a = del H a := by
  funext b
  by_cases c : b = a
  · rw [show del (upd H a o) a b = Option.none from if_pos c, show del H a b = Option.none from if_pos c]
  · rw [del_ne c, del_ne c, upd_ne c]
/-- what is new in H since H0, but for a -/
def nw (H0 H : Hp) (a : Addr) : Hp := fun b => if H0 b = Option.none ∧ b ≠ a then H b else Option.none
def newH (H0 H : Hp) : Hp := fun b => if H0 b = Option.none then H b else Option.none
theorem nw_at {H0 H : Hp} {a b : Addr} (h : H0 b = Option.none) (n : b ≠ a) : nw H0 H a b = H b := if_pos ⟨h, n⟩
theorem nw_mono {H0 H H' : Hp} {a : Addr} (s : Same H H') : Same (nw H0 H a) (nw H0 H' a) := fun b o e => by
  unfold nw at e ⊢
  by_cases c : H0 b = Option.none ∧ b ≠ a
  · rw [if_pos c] at e ⊢; exact s _ _ e
  · rw [if_neg c] at e; exact nomatch e
theorem nw_upd {H0 H : Hp} {a : Addr} {o : HO} : nw H0 (upd H a o) a = nw H0 H a := by
  funext b
  unfold nw
  by_cases c : H0 b = Option.none ∧ b ≠ a
  · rw [if_pos c, if_pos c, upd_ne c.2]
  · rw [if_neg c, if_neg c]
theorem nw_new {H0 H : Hp} {a : Addr} : Same (nw H0 H a) (newH H0 H) := fun b o e => by
  unfold nw at e
  unfold newH
  by_cases c : H0 b = Option.none ∧ b ≠ a
  · rw [if_pos c] at e; rw [if_pos c.1]; exact e
  · rw [if_neg c] at e; exact nomatch e
theorem new_up {H0 H : Hp} : Same (newH H0 H) H := fun b o e => by
  unfold newH at e
  by_cases c : H0 b = Option.none
  · rw [if_pos c] at e; exact e
  · rw [if_neg c] at e; exact nomatch e
theorem new_del {H0 H : Hp} {a : Addr} (h : H0 a ≠ Option.none) : Same (newH H0 H) (del H a) := fun b o e => by
  unfold newH at e
  by_cases c : H0 b = Option.none
  · rw [if_pos c] at e
    have n : b ≠ a := fun z => h (by rw [← z]; exact c)
    rw [del_ne n]; exact e
  · rw [if_neg c] at e; exact nomatch e
theorem dpa_snoc {K : PySem.W.Frag} {H : Hp} {v : V} {d : PyData} (h : Dp K H v d) : ∀ {vs : List V} {ds : List PyData}, DpAll K H vs ds → DpAll K H (vs ++ [v]) (ds ++ [d])
  | _, _, .nil => .cons h .nil
  | _, _, .cons a t => .cons a (dpa_snoc h t)
theorem dpa_len {K : PySem.W.Frag} {H : Hp} : ∀ {vs : List V} {ds : List PyData}, DpAll K H vs ds → vs.length = ds.length
  | _, _, .nil => rfl
  | _, _, .cons _ t => by rw [List.length_cons, List.length_cons, dpa_len t]
end GM
set_option Elab.async false
set_option linter.all false
set_option maxRecDepth 100000
set_option maxHeartbeats 4000000
namespace PySem
namespace NotAPlayX
open PySem.W PySem.Calls PyProof.Rows PySem.HandSPX
def iA (p1 p2 : Pos) : Arguments := { posonlyargs := [], args := [{ arg := "self", annotation := none, pos := p1 }, { arg := "index", annotation := none, pos := p2 }], vararg := none, kwonlyargs := [], kw_defaults := [], kwarg := none, defaults := [] }
def iB (q1 q2 q3 q4 : Pos) : List Stmt := [.Assign [.Attribute (.Name "self" q1) "index" q2] (.Name "index" q3) q4]
def iS : Scope := { kind := .function, names := [(PySem.Str.ofString "self", .local), (PySem.Str.ofString "index", .local)], isGenerator := false, isCoroutine := false, more := [] }
structure Txt (K : Frag) (mg : Str → Option Value) (C fI : Addr) : Prop where
  gC : mg "NotAPlay" = some (.ref C)
  cls : ∃ nm q N bs bm sn sub ab col dd k0 k1 k2 k3 k5, K.lookup C = some (excClassObj nm q C N bs bm true sn sub ab col dd k0 k1 k2 k3 k5 "ValueError.__new__") ∧ refsVE bm = true
  sa : findIn K (.ref C) "__setattr__" = some (some (.builtin "object.__setattr__"))
  ga : findIn K (.ref C) "__getattribute__" = some (some (.builtin "BaseException.__getattribute__"))
  gg : findIn K (.ref C) "__getattr__" = some none
  noN : findIn K (.ref C) "index" = some none
  iC : findIn K (.ref C) "__init__" = some (some (.ref fI))
  tC : typeIn K (.ref fI) = some (.type "function")
  kC : keepIn K (.ref C) = true
  exC : subIn K (.ref C) (.type "BaseException") = some true
  tyC : typeIn K (.ref C) = some (.type "type")
  hdC : hasDictIn K C = true
  ca : findIn K (.ref C) "__class__" = some (some (.builtin "object.__class__"))
  sp : specialIn K (.builtin "object.__class__") "__get__" = some (some (.builtin "getset_descriptor.__get__"))
  tk : takesIn K (.builtin "object.__class__") = some true
  mo : mroIn K C (.type "object") = some true
  fn : ∃ (oc : Value) (od : Option Addr) (doc pm : Value) (an : Option Addr) (cdv ct : Value) (osl : Array (Option Value)) (p1 p2 q1 q2 q3 q4 : Pos),
    K.lookup fI = some ⟨oc, od, .func (fnOf "__init__" "NotAPlay.__init__" (iA p1 p2) (iB q1 q2 q3 q4) iS .none .none doc pm an cdv ct), osl⟩ ∧ codeIn K cdv "NotAPlay.__init__" = true
theorem one_size (v : Value) : [v].length ≤ sizeLine := by
  rw [sizeLine_eq]
  exact (by decide : 1 ≤ 16777216)
theorem ldC {M : Model} {s : Shared} {name : Str} {scope : Scope} {L a : Addr} {cd : Value} {m : Str → Option Value} {x : Str} {pos : Pos} {v : Value} {Q : Value → Shared → Prop} {A : Around} {E : Value → Shared → Prop} (hn : s.heap.Ns L m) (hv : m x = some v) (h : Q v s)
    (hk : scope.kind = .function := by rfl) (hl : (envOfC name scope L a cd).kindOf x = some .local := by rfl) (hd : (x == ("__debug__" : Str)) = false := by decide) :
    wpAny M A (eval (.Name x pos) (envOfC name scope L a cd)) Q E s := wpAny_Name (wpAny_loadName_local hk hl hn hv h) hd
structure InitEnd (h h' : Heap) (x C dx t1 : Addr) (v : Value) : Prop where
  keep : ∀ b o, b ≠ x → h.get? b = some o → h'.get? b = some o
  obj : h'.get? x = some { cls := .ref C, dict := some dx, data := .fields #[.ref t1, .none, .none, .none, .bool false, .none] }
  dbig : h.objs.size ≤ dx
  dne : dx ≠ x
  ns : h'.Ns1 dx (fun y => if y = "index" then some v else none)
structure OwnMade (h h' : Heap) (e C d : Addr) (v : Value) : Prop where
  keep : ∀ b o, h.get? b = some o → h'.get? b = some o
  new : h.objs.size ≤ e
  obj : ∃ t1 : Addr, h'.get? e = some { cls := .ref C, dict := some d, data := .fields #[.ref t1, .none, .none, .none, .bool false, .none] }
  dbig : h.objs.size ≤ d
  dne : d ≠ e
  ns : h'.Ns1 d (fun y => if y = "index" then some v else none)
section
variable {prog : Program} {w : World} {A : Around} {E : Value → Shared → Prop} {R : Result → Shared → Prop} {s : Shared} {K : Frag} {mg : Str → Option Value} {C fI : Addr}
theorem err_init (T : Txt K mg C fI) {x t0 : Addr} {v : Value} (X : K.In s.heap) (hlim : s.heap.NoLimit) (hx : s.heap.get? x = some (excO C t0)) (hnx : K.lookup x = none) (hroom : A.depth < recursionLimit)
    (hq : ∀ h' tk dx, InitEnd s.heap h' x C dx t0 v → R (.ok (.ret .none)) { s with heap := h', toks := tk }) :
    codeAny (model prog w) A (.call (.ref fI) ⟨[.ref x, v], []⟩) R s := by
  obtain ⟨oc, od, doc, pm, an, cdv, ct, osl, p1, p2, q1, q2, q3, q4, ho, hcd⟩ := T.fn
  obtain ⟨nm, q, N, bs, bm, sn, sub, ab, col, dd, k0, k1, k2, k3, k5, hC, hbm⟩ := T.cls
  have hcl : clsIn K C = some { name := nm, bases := bs, mro := .ref C :: bm, ns := N, qualname := q, hasDict := true, slotNames := sn, subclasses := sub, abstract := ab, collection := col, hasDel := false } := by unfold clsIn; rw [hC] <;> rfl
  refine Att.call_fn (binds := [("self", .ref x), ("index", v)]) X hlim ho hcd hroom (BindsTo.of_eq (by first | rfl | with_unfolding_all rfl)) (by first | rfl | decide | with_unfolding_all rfl) (fun s₁ IC => ?_) rfl rfl rfl
  obtain ⟨h₁, tk₁, rfl⟩ := IC.toInCall.same
  have k : ∀ b o, s.heap.get? b = some o → h₁.get? b = some o := IC.toInCall.keep
  have hn := IC.toInCall.ns
  have X₁ : K.In h₁ := X.keeps k
  have hx₁ := k _ _ hx
  show wpAny _ _ (execs _ _) _ _ _
  refine wpAny_execs_cons (plainObj_wpAny_Assign_Attribute ?_)
  refine ldC (v := v) hn (by first | rfl | with_unfolding_all rfl | kernel_rfl) (ldC (v := .ref x) hn (by first | rfl | with_unfolding_all rfl | kernel_rfl) ?_)
  refine set_plain X₁ (ox := excO C t0) (od := none) ⟨hx₁, rfl, rfl, trivial⟩ T.sa ?_
  refine exc_osa X₁ hx₁ hcl (show refsVE (.ref C :: bm) = true from hbm) rfl T.noN (fun h₃ tk₃ dx k₃ dn dne hx₃ hn₃ => ?_)
  show wpAny _ _ (execs _ _) _ _ _
  have z : s.heap.objs.size < h₁.objs.size := hn.lt
  exact wpAny_execs_nil (hq h₃ tk₃ dx ⟨fun b o hb e => k₃ b o hb (k b o e), hx₃, Nat.le_of_lt (Nat.lt_of_lt_of_le z dn), dne, hn₃⟩)
theorem err_made (T : Txt K mg C fI) {v : Value} (X : K.In s.heap) (hlim : s.heap.NoLimit) (hroom : A.depth + 1 < recursionLimit)
    (hq : ∀ h' tk e d, OwnMade s.heap h' e C d v → R (.ok (.ret (.ref e))) { s with heap := h', toks := tk }) :
    codeAny (model prog w) A (.call (.ref C) ⟨[v], []⟩) R s := by
  obtain ⟨nm, q, N, bs, bm, sn, sub, ab, col, dd, k0, k1, k2, k3, k5, hC, hbm⟩ := T.cls
  obtain ⟨hp, g, dr, tk, os⟩ := s
  have k : ∀ b o, hp.get? b = some o → ((hp.push (kdv_tup [v])).push (excO C hp.objs.size)).get? b = some o := fun b o e => Heap.get?_push_of_some _ (Heap.get?_push_of_some _ e)
  have hget : ((hp.push (kdv_tup [v])).push (excO C hp.objs.size)).get? (hp.objs.size + 1) = some (excO C hp.objs.size) := by heap_get
  have hnx : K.lookup (hp.objs.size + 1) = none := by
    cases e : K.lookup (hp.objs.size + 1) with
    | none => rfl
    | some o =>
      have z : hp.get? (hp.objs.size + 1) = some o := X _ _ e
      exact absurd (Nat.lt_of_succ_lt (Heap.lt_size z)) (Nat.lt_irrefl _)
  refine call_own F.excBase_ValueError (fun X => refsVE_contains X bm hbm) (X _ _ hC) (looks_findIn X T.iC) (fun self => bind_fn X self T.tC) (one_size v) ?_
  refine err_init (s := ⟨(hp.push (kdv_tup [v])).push (excO C hp.objs.size), g, dr, tk, os⟩) T (X.keeps k) (hlim.keeps k) hget hnx ?_ fun h' tk' dx ⟨k', hx, dn, dne, hns⟩ => ?_
  · show A.depth + 1 < recursionLimit
    exact hroom
  · have old : ∀ b o, hp.get? b = some o → h'.get? b = some o := fun b o e => k' b o (Nat.ne_of_lt (Nat.lt_succ_of_lt (Heap.lt_size e))) (k b o e)
    have z : hp.objs.size + 1 + 1 ≤ dx := by
      first
        | (simpa only [Heap.size_push] using dn)
        | exact dn
        | (have q := dn; rw [Heap.size_push, Heap.size_push] at q; exact q)
    exact ⟨rfl, hq h' tk' (hp.objs.size + 1) dx ⟨old, Nat.le_succ _, ⟨_, hx⟩, Nat.le_trans (Nat.le_trans (Nat.le_succ _) (Nat.le_succ _)) z, dne, hns⟩⟩
end
end NotAPlayX
end PySem
namespace GM
open PySem PySem.Spec PyProof.Rows L2
theorem relO_NotAPlay {v : V} {v' : Value} (r : RelV v v') (f : Str) : RelO (List.lookup f [(("index" : Str), v)]) (if f = "index" then some v' else none) := by
  by_cases hw : f = "index"
  · subst hw
    rw [if_pos rfl]
    have q : List.lookup ("index" : Str) [(("index" : Str), v)] = some v := by simp [List.lookup]
    rw [q]
    exact r
  · rw [if_neg hw]
    have qw : (f == ("index" : Str)) = false := by simpa using hw
    have q2 : List.lookup f [(("index" : Str), v)] = none := by simp [List.lookup, qw]
    rw [q2]
    trivial
section
variable {X : Cx} {C fI : Addr}
/-- NotAPlay(e) -/
def tMkNotAPlay (C : Addr) (ta : TA) : L2.St → Hp → XK → Prop := fun σ H Q => ta σ H fun vs H1 => ∃ v, vs = [v] ∧ ∀ d, H1 d = none → Q (.ref C) (some d) (upd H1 d (.xd [(("index" : Str), v)]))
theorem pmk_NotAPlay {a : Expr} {ta : TA} {p pos : Pos} {k : Nat} (T : PySem.NotAPlayX.Txt X.K X.mg C fI) (hr : Room k X.A) (ha : PA X [a] ta) (hg : Gl X "NotAPlay" := by rfl)
    (he : starEach (a :: []) X.env = (false, eval a X.env) :: starEach [] X.env := by rfl) (hpl : (backTo pos (starEach [] X.env)).any (·.1) = false := by rfl) :
    L2N.PMk X (.Call (.Name "NotAPlay" p) [a] [] pos) (tMkNotAPlay C ta) := by
  intro pins s σ H Q I h
  refine wpAny_Call_Name_kw (ld_glob I hg T.gC ?_)
  refine PySem.W.callWith_K (h₀ := X.base) I.ok.mod.kin T.kC (thn (ha.run pos pins s σ H _ I h) fun us s1 hh => ?_) he hpl
  obtain ⟨vs, H1, I1, r1, v, ev, q1⟩ := hh
  subst ev
  refine ⟨I1.kIn, ?_⟩
  cases r1 with
  | cons rv rn =>
    rename_i v' us'
    cases rn
    show wpAny _ _ (call (.ref C) [v']) _ _ _
    have hlim := I1.nolimit
    obtain ⟨hp, g, dr, tk, os⟩ := s1
    refine wpAny_call (PySem.NotAPlayX.err_made T I1.kIn hlim (by have := hr.dp; omega) fun h' tk' e d M => ?_)
    show L2N.MkP X pins σ Q (.ref e) ⟨h', g, dr, tk', os⟩
    obtain ⟨t1, hoe⟩ := M.obj
    have hns := M.ns
    obtain ⟨G', g1, g2⟩ := restrict h' fun b => decide (b ≠ e)
    have gk : ∀ b, b ≠ e → G'.get? b = h'.get? b := fun b hb => g1 b (decide_eq_true hb)
    have ge : G'.get? e = none := g2 e (by simp)
    have old : ∀ b o, hp.get? b = some o → G'.get? b = some o := fun b o q => (gk b (Nat.ne_of_lt (Nat.lt_of_lt_of_le (Heap.lt_size q) M.new))).trans (M.keep b o q)
    have ob : ObjOk X.prog X.w (upd H1 d (.xd [(("index" : Str), v)])) G' d (.xd [(("index" : Str), v)]) :=
      ⟨_, hns.at (fun o q => (gk d M.dne).trans q), fun f => relO_NotAPlay rv f⟩
    have J : Inv X pins σ (upd H1 d (.xd [(("index" : Str), v)])) ⟨G', g, dr, tk', os⟩ := I1.laid (t' := tk') old M.dbig ob
    refine ⟨e, _, _, ⟨G', g, dr, tk', os⟩, _, .ref C, some d, rfl, J, fun b o q => ?_, ge, hoe, ⟨rfl, rfl, fun vs z => by cases z; rfl⟩, rfl, rfl, ?_, rfl, I1.bare, raises_own T.exC T.tyC, q1 d (I1.hok.fresh M.dbig)⟩
    · by_cases hb : b = e
      · have q' : G'.get? b = some o := q
        rw [hb, ge] at q'; cases q'
      · exact (gk b hb).symm.trans q
    · rw [upd_ne (Ne.symm M.dne)]
      exact I1.hok.fresh M.new
/-- raise NotAPlay(e) -/
def tRaiseNotAPlay (C : Addr) (W : WX) (ta : TA) : TS := fun _ σ H => tMkNotAPlay C ta σ H fun cls d H' => W cls d σ H'
theorem ps_raiseNotAPlay {a : Expr} {ta : TA} {W : WX} {p pos pos2 : Pos} {k : Nat} (hc : X.calm = true) (T : PySem.NotAPlayX.Txt X.K X.mg C fI) (hr : Room k X.A) (tk : L2N.Takes X W) (ha : PA X [a] ta) (hg : Gl X "NotAPlay" := by rfl)
    (he : starEach (a :: []) X.env = (false, eval a X.env) :: starEach [] X.env := by rfl) (hpl : (backTo pos (starEach [] X.env)).any (·.1) = false := by rfl) :
    PS X (.Raise (some (.Call (.Name "NotAPlay" p) [a] [] pos)) none pos2) (tRaiseNotAPlay C W ta) := L2N.ps_raise hc tk (pmk_NotAPlay T hr ha hg he hpl)
/-- e.index, e the error that the suite holds -/
def tByNotAPlay (C : Addr) (a : Addr) (cls : Value) (d : Option Addr) (te : TE) : TE := fun σ H Q => te σ H fun x H1 => x = .ref a ∧ cls = .ref C ∧ ∃ (dd : Addr) (v : V), d = some dd ∧ H1 dd = some (.xd [(("index" : Str), v)]) ∧ Q v H1
theorem pe_byNotAPlay {a : Addr} {oe : Obj} {cls : Value} {d : Option Addr} {pn : List (Addr × Obj)} {e : Expr} {te : TE} {pos : Pos} (T : PySem.NotAPlayX.Txt X.K X.mg C fI) (hz : Zc cls d oe) (hf : ∃ vs, oe.data = .fields vs) (he : PE (X.suite a ((a, oe) :: pn)) e te)
    (hb : attributeBase e "index" X.env (eval e X.env) = eval e X.env := by rfl) :
    PE (X.suite a ((a, oe) :: pn)) (.Attribute e "index" pos) (tByNotAPlay C a cls d te) := by
  refine ⟨fun pins s σ H Q I h => ?_⟩
  refine attr_of hb (thn (he.run pins s σ H _ I h) fun u s1 hh => ?_)
  obtain ⟨x, H1, I1, rx, ex, ec, dd, v, ed, ea, q⟩ := hh
  subst ex
  obtain rfl : u = Value.ref a := rx
  subst ec
  subst ed
  obtain ⟨ha, _⟩ := I1.pin (a, oe) (List.mem_append_left _ List.mem_cons_self)
  obtain ⟨vs, hd⟩ := hf
  have hx : ObjOk X.prog X.w H1 s1.heap dd (.xd [(("index" : Str), v)]) := I1.hok dd _ ea
  obtain ⟨mA, hns, hr⟩ := hx
  obtain ⟨od, ho, hl⟩ := lookIn_ns hns
  have l : List.lookup ("index" : Str) [(("index" : Str), v)] = some v := by simp [List.lookup]
  obtain ⟨u, hu, ru⟩ := RelO.some_of (v := v) (o := mA "index") (by rw [← l]; exact hr "index")
  have J : PySem.W.InstAt s1.heap a oe C (some od) := ⟨ha, hz.1, by unfold PySem.W.notCls; rw [hd] <;> rfl, by rw [hz.2]; exact ho⟩
  exact HandSPX.exc_get I1.kIn J T.ga T.gg T.exC (PySem.W.findObj_own T.hdC T.noN rfl (by rw [hl, hu])) (handed_of ru) ⟨v, H1, I1.tok _, ru, q⟩
/-- isinstance(e, c), e the error that the suite holds -/
def rIsNotAPlay (K : PySem.W.Frag) (C a : Addr) (cls : Value) (d : Option Addr) : List V → Hp → VK → Prop := fun xs H Q => ∃ (c : V) (cv : Value) (b : Bool) (dd : Addr) (v : V), xs = [.ref a, c] ∧ cls = .ref C ∧ d = some dd ∧ H dd = some (.xd [(("index" : Str), v)]) ∧ (∀ u, RelV c u → u = cv) ∧ PySem.W.kitOne K (.ref C) cv = some b ∧ Q (.bl b) H
theorem call_isNotAPlay {a : Addr} {oe : Obj} {cls : Value} {d : Option Addr} {pn : List (Addr × Obj)} (T : PySem.NotAPlayX.Txt X.K X.mg C fI) (hz : Zc cls d oe) (hf : ∃ vs, oe.data = .fields vs) : CallR (X.suite a ((a, oe) :: pn)) (.builtin "isinstance") (rIsNotAPlay X.K C a cls d) := by
  intro pins s σ H xs us Q I r h
  obtain ⟨c, cv, b, dd, v, rfl, ec, ed, ea, hcv, e, q⟩ := h
  subst ec
  subst ed
  cases r with
  | cons rx rr =>
    cases rr with
    | cons rt rr =>
      cases rr
      cases rx
      have ec := hcv _ rt
      subst ec
      obtain ⟨hget, _⟩ := I.pin (a, oe) (List.mem_append.mpr (.inl List.mem_cons_self))
      obtain ⟨vs, hv⟩ := hf
      have hx : ObjOk X.prog X.w H s.heap dd (.xd [(("index" : Str), v)]) := I.hok dd _ ea
      obtain ⟨mA, hns, hr⟩ := hx
      obtain ⟨od, ho, hl⟩ := lookIn_ns hns
      have J : PySem.W.InstAt s.heap a oe C (some od) := ⟨hget, hz.1, by unfold PySem.W.notCls; rw [hv] <;> rfl, by rw [hz.2]; exact ho⟩
      have hcl : (PySem.W.clsIn X.K C).isSome = true := by
        obtain ⟨nm, q, N, bs, bm, sn, sub, ab, col, dd, k0, k1, k2, k3, k5, hC, hbm⟩ := T.cls
        unfold PySem.W.clsIn; rw [hC]; rfl
      exact PySem.W.kia_one (PySem.W.kitx_exc hcl T.ga T.gg T.exC T.ca T.sp T.tk T.mo) I.kIn J e (fun z => nomatch z) fun tk => ⟨.bl b, H, I.kept (t' := tk) fun _ _ z => z, rfl, q⟩
end
end GM
set_option Elab.async false
set_option linter.all false
set_option maxRecDepth 100000
set_option maxHeartbeats 4000000
namespace PySem
namespace DeadEndX
open PySem.W PySem.Calls PyProof.Rows PySem.HandSPX
def iA (p1 p2 : Pos) : Arguments := { posonlyargs := [], args := [{ arg := "self", annotation := none, pos := p1 }, { arg := "vertex", annotation := none, pos := p2 }], vararg := none, kwonlyargs := [], kw_defaults := [], kwarg := none, defaults := [] }
def iB (q1 q2 q3 q4 : Pos) : List Stmt := [.Assign [.Attribute (.Name "self" q1) "vertex" q2] (.Name "vertex" q3) q4]
def iS : Scope := { kind := .function, names := [(PySem.Str.ofString "self", .local), (PySem.Str.ofString "vertex", .local)], isGenerator := false, isCoroutine := false, more := [] }
structure Txt (K : Frag) (mg : Str → Option Value) (C fI : Addr) : Prop where
  gC : mg "DeadEnd" = some (.ref C)
  cls : ∃ nm q N bs bm sn sub ab col dd k0 k1 k2 k3 k5, K.lookup C = some (excClassObj nm q C N bs bm true sn sub ab col dd k0 k1 k2 k3 k5 "ValueError.__new__") ∧ refsVE bm = true
  sa : findIn K (.ref C) "__setattr__" = some (some (.builtin "object.__setattr__"))
  ga : findIn K (.ref C) "__getattribute__" = some (some (.builtin "BaseException.__getattribute__"))
  gg : findIn K (.ref C) "__getattr__" = some none
  noN : findIn K (.ref C) "vertex" = some none
  iC : findIn K (.ref C) "__init__" = some (some (.ref fI))
  tC : typeIn K (.ref fI) = some (.type "function")
  kC : keepIn K (.ref C) = true
  exC : subIn K (.ref C) (.type "BaseException") = some true
  tyC : typeIn K (.ref C) = some (.type "type")
  hdC : hasDictIn K C = true
  ca : findIn K (.ref C) "__class__" = some (some (.builtin "object.__class__"))
  sp : specialIn K (.builtin "object.__class__") "__get__" = some (some (.builtin "getset_descriptor.__get__"))
  tk : takesIn K (.builtin "object.__class__") = some true
  mo : mroIn K C (.type "object") = some true
  fn : ∃ (oc : Value) (od : Option Addr) (doc pm : Value) (an : Option Addr) (cdv ct : Value) (osl : Array (Option Value)) (p1 p2 q1 q2 q3 q4 : Pos),
    K.lookup fI = some ⟨oc, od, .func (fnOf "__init__" "DeadEnd.__init__" (iA p1 p2) (iB q1 q2 q3 q4) iS .none .none doc pm an cdv ct), osl⟩ ∧ codeIn K cdv "DeadEnd.__init__" = true
theorem one_size (v : Value) : [v].length ≤ sizeLine := by
  rw [sizeLine_eq]
  exact (by decide : 1 ≤ 16777216)
theorem ldC {M : Model} {s : Shared} {name : Str} {scope : Scope} {L a : Addr} {cd : Value} {m : Str → Option Value} {x : Str} {pos : Pos} {v : Value} {Q : Value → Shared → Prop} {A : Around} {E : Value → Shared → Prop} (hn : s.heap.Ns L m) (hv : m x = some v) (h : Q v s)
    (hk : scope.kind = .function := by rfl) (hl : (envOfC name scope L a cd).kindOf x = some .local := by rfl) (hd : (x == ("__debug__" : Str)) = false := by decide) :
    wpAny M A (eval (.Name x pos) (envOfC name scope L a cd)) Q E s := wpAny_Name (wpAny_loadName_local hk hl hn hv h) hd
structure InitEnd (h h' : Heap) (x C dx t1 : Addr) (v : Value) : Prop where
  keep : ∀ b o, b ≠ x → h.get? b = some o → h'.get? b = some o
  obj : h'.get? x = some { cls := .ref C, dict := some dx, data := .fields #[.ref t1, .none, .none, .none, .bool false, .none] }
  dbig : h.objs.size ≤ dx
  dne : dx ≠ x
  ns : h'.Ns1 dx (fun y => if y = "vertex" then some v else none)
structure OwnMade (h h' : Heap) (e C d : Addr) (v : Value) : Prop where
  keep : ∀ b o, h.get? b = some o → h'.get? b = some o
  new : h.objs.size ≤ e
  obj : ∃ t1 : Addr, h'.get? e = some { cls := .ref C, dict := some d, data := .fields #[.ref t1, .none, .none, .none, .bool false, .none] }
  dbig : h.objs.size ≤ d
  dne : d ≠ e
  ns : h'.Ns1 d (fun y => if y = "vertex" then some v else none)
section
variable {prog : Program} {w : World} {A : Around} {E : Value → Shared → Prop} {R : Result → Shared → Prop} {s : Shared} {K : Frag} {mg : Str → Option Value} {C fI : Addr}
theorem err_init (T : Txt K mg C fI) {x t0 : Addr} {v : Value} (X : K.In s.heap) (hlim : s.heap.NoLimit) (hx : s.heap.get? x = some (excO C t0)) (hnx : K.lookup x = none) (hroom : A.depth < recursionLimit)
    (hq : ∀ h' tk dx, InitEnd s.heap h' x C dx t0 v → R (.ok (.ret .none)) { s with heap := h', toks := tk }) :
    codeAny (model prog w) A (.call (.ref fI) ⟨[.ref x, v], []⟩) R s := by
  obtain ⟨oc, od, doc, pm, an, cdv, ct, osl, p1, p2, q1, q2, q3, q4, ho, hcd⟩ := T.fn
  obtain ⟨nm, q, N, bs, bm, sn, sub, ab, col, dd, k0, k1, k2, k3, k5, hC, hbm⟩ := T.cls
  have hcl : clsIn K C = some { name := nm, bases := bs, mro := .ref C :: bm, ns := N, qualname := q, hasDict := true, slotNames := sn, subclasses := sub, abstract := ab, collection := col, hasDel := false } := by unfold clsIn; rw [hC] <;> rfl
  refine Att.call_fn (binds := [("self", .ref x), ("vertex", v)]) X hlim ho hcd hroom (BindsTo.of_eq (by first | rfl | with_unfolding_all rfl)) (by first | rfl | decide | with_unfolding_all rfl) (fun s₁ IC => ?_) rfl rfl rfl
  obtain ⟨h₁, tk₁, rfl⟩ := IC.toInCall.same
  have k : ∀ b o, s.heap.get? b = some o → h₁.get? b = some o := IC.toInCall.keep
  have hn := IC.toInCall.ns
  have X₁ : K.In h₁ := X.keeps k
  have hx₁ := k _ _ hx
  show wpAny _ _ (execs _ _) _ _ _
  refine wpAny_execs_cons (plainObj_wpAny_Assign_Attribute ?_)
  refine ldC (v := v) hn (by first | rfl | with_unfolding_all rfl | kernel_rfl) (ldC (v := .ref x) hn (by first | rfl | with_unfolding_all rfl | kernel_rfl) ?_)
  refine set_plain X₁ (ox := excO C t0) (od := none) ⟨hx₁, rfl, rfl, trivial⟩ T.sa ?_
  refine exc_osa X₁ hx₁ hcl (show refsVE (.ref C :: bm) = true from hbm) rfl T.noN (fun h₃ tk₃ dx k₃ dn dne hx₃ hn₃ => ?_)
  show wpAny _ _ (execs _ _) _ _ _
  have z : s.heap.objs.size < h₁.objs.size := hn.lt
  exact wpAny_execs_nil (hq h₃ tk₃ dx ⟨fun b o hb e => k₃ b o hb (k b o e), hx₃, Nat.le_of_lt (Nat.lt_of_lt_of_le z dn), dne, hn₃⟩)
theorem err_made (T : Txt K mg C fI) {v : Value} (X : K.In s.heap) (hlim : s.heap.NoLimit) (hroom : A.depth + 1 < recursionLimit)
    (hq : ∀ h' tk e d, OwnMade s.heap h' e C d v → R (.ok (.ret (.ref e))) { s with heap := h', toks := tk }) :
    codeAny (model prog w) A (.call (.ref C) ⟨[v], []⟩) R s := by
  obtain ⟨nm, q, N, bs, bm, sn, sub, ab, col, dd, k0, k1, k2, k3, k5, hC, hbm⟩ := T.cls
  obtain ⟨hp, g, dr, tk, os⟩ := s
  have k : ∀ b o, hp.get? b = some o → ((hp.push (kdv_tup [v])).push (excO C hp.objs.size)).get? b = some o := fun b o e => Heap.get?_push_of_some _ (Heap.get?_push_of_some _ e)
  have hget : ((hp.push (kdv_tup [v])).push (excO C hp.objs.size)).get? (hp.objs.size + 1) = some (excO C hp.objs.size) := by heap_get
  have hnx : K.lookup (hp.objs.size + 1) = none := by
    cases e : K.lookup (hp.objs.size + 1) with
    | none => rfl
    | some o =>
      have z : hp.get? (hp.objs.size + 1) = some o := X _ _ e
      exact absurd (Nat.lt_of_succ_lt (Heap.lt_size z)) (Nat.lt_irrefl _)
  refine call_own F.excBase_ValueError (fun X => refsVE_contains X bm hbm) (X _ _ hC) (looks_findIn X T.iC) (fun self => bind_fn X self T.tC) (one_size v) ?_
  refine err_init (s := ⟨(hp.push (kdv_tup [v])).push (excO C hp.objs.size), g, dr, tk, os⟩) T (X.keeps k) (hlim.keeps k) hget hnx ?_ fun h' tk' dx ⟨k', hx, dn, dne, hns⟩ => ?_
  · show A.depth + 1 < recursionLimit
    exact hroom
  · have old : ∀ b o, hp.get? b = some o → h'.get? b = some o := fun b o e => k' b o (Nat.ne_of_lt (Nat.lt_succ_of_lt (Heap.lt_size e))) (k b o e)
    have z : hp.objs.size + 1 + 1 ≤ dx := by
      first
        | (simpa only [Heap.size_push] using dn)
        | exact dn
        | (have q := dn; rw [Heap.size_push, Heap.size_push] at q; exact q)
    exact ⟨rfl, hq h' tk' (hp.objs.size + 1) dx ⟨old, Nat.le_succ _, ⟨_, hx⟩, Nat.le_trans (Nat.le_trans (Nat.le_succ _) (Nat.le_succ _)) z, dne, hns⟩⟩
end
end DeadEndX
end PySem
namespace GM
open PySem PySem.Spec PyProof.Rows L2
theorem relO_DeadEnd {v : V} {v' : Value} (r : RelV v v') (f : Str) : RelO (List.lookup f [(("vertex" : Str), v)]) (if f = "vertex" then some v' else none) := by
  by_cases hw : f = "vertex"
  · subst hw
    rw [if_pos rfl]
    have q : List.lookup ("vertex" : Str) [(("vertex" : Str), v)] = some v := by simp [List.lookup]
    rw [q]
    exact r
  · rw [if_neg hw]
    have qw : (f == ("vertex" : Str)) = false := by simpa using hw
    have q2 : List.lookup f [(("vertex" : Str), v)] = none := by simp [List.lookup, qw]
    rw [q2]
    trivial
section
variable {X : Cx} {C fI : Addr}
/-- DeadEnd(e) -/
def tMkDeadEnd (C : Addr) (ta : TA) : L2.St → Hp → XK → Prop := fun σ H Q => ta σ H fun vs H1 => ∃ v, vs = [v] ∧ ∀ d, H1 d = none → Q (.ref C) (some d) (upd H1 d (.xd [(("vertex" : Str), v)]))
theorem pmk_DeadEnd {a : Expr} {ta : TA} {p pos : Pos} {k : Nat} (T : PySem.DeadEndX.Txt X.K X.mg C fI) (hr : Room k X.A) (ha : PA X [a] ta) (hg : Gl X "DeadEnd" := by rfl)
    (he : starEach (a :: []) X.env = (false, eval a X.env) :: starEach [] X.env := by rfl) (hpl : (backTo pos (starEach [] X.env)).any (·.1) = false := by rfl) :
    L2N.PMk X (.Call (.Name "DeadEnd" p) [a] [] pos) (tMkDeadEnd C ta) := by
  intro pins s σ H Q I h
  refine wpAny_Call_Name_kw (ld_glob I hg T.gC ?_)
  refine PySem.W.callWith_K (h₀ := X.base) I.ok.mod.kin T.kC (thn (ha.run pos pins s σ H _ I h) fun us s1 hh => ?_) he hpl
  obtain ⟨vs, H1, I1, r1, v, ev, q1⟩ := hh
  subst ev
  refine ⟨I1.kIn, ?_⟩
  cases r1 with
  | cons rv rn =>
    rename_i v' us'
    cases rn
    show wpAny _ _ (call (.ref C) [v']) _ _ _
    have hlim := I1.nolimit
    obtain ⟨hp, g, dr, tk, os⟩ := s1
    refine wpAny_call (PySem.DeadEndX.err_made T I1.kIn hlim (by have := hr.dp; omega) fun h' tk' e d M => ?_)
    show L2N.MkP X pins σ Q (.ref e) ⟨h', g, dr, tk', os⟩
    obtain ⟨t1, hoe⟩ := M.obj
    have hns := M.ns
    obtain ⟨G', g1, g2⟩ := restrict h' fun b => decide (b ≠ e)
    have gk : ∀ b, b ≠ e → G'.get? b = h'.get? b := fun b hb => g1 b (decide_eq_true hb)
    have ge : G'.get? e = none := g2 e (by simp)
    have old : ∀ b o, hp.get? b = some o → G'.get? b = some o := fun b o q => (gk b (Nat.ne_of_lt (Nat.lt_of_lt_of_le (Heap.lt_size q) M.new))).trans (M.keep b o q)
    have ob : ObjOk X.prog X.w (upd H1 d (.xd [(("vertex" : Str), v)])) G' d (.xd [(("vertex" : Str), v)]) :=
      ⟨_, hns.at (fun o q => (gk d M.dne).trans q), fun f => relO_DeadEnd rv f⟩
    have J : Inv X pins σ (upd H1 d (.xd [(("vertex" : Str), v)])) ⟨G', g, dr, tk', os⟩ := I1.laid (t' := tk') old M.dbig ob
    refine ⟨e, _, _, ⟨G', g, dr, tk', os⟩, _, .ref C, some d, rfl, J, fun b o q => ?_, ge, hoe, ⟨rfl, rfl, fun vs z => by cases z; rfl⟩, rfl, rfl, ?_, rfl, I1.bare, raises_own T.exC T.tyC, q1 d (I1.hok.fresh M.dbig)⟩
    · by_cases hb : b = e
      · have q' : G'.get? b = some o := q
        rw [hb, ge] at q'; cases q'
      · exact (gk b hb).symm.trans q
    · rw [upd_ne (Ne.symm M.dne)]
      exact I1.hok.fresh M.new
/-- raise DeadEnd(e) -/
def tRaiseDeadEnd (C : Addr) (W : WX) (ta : TA) : TS := fun _ σ H => tMkDeadEnd C ta σ H fun cls d H' => W cls d σ H'
theorem ps_raiseDeadEnd {a : Expr} {ta : TA} {W : WX} {p pos pos2 : Pos} {k : Nat} (hc : X.calm = true) (T : PySem.DeadEndX.Txt X.K X.mg C fI) (hr : Room k X.A) (tk : L2N.Takes X W) (ha : PA X [a] ta) (hg : Gl X "DeadEnd" := by rfl)
    (he : starEach (a :: []) X.env = (false, eval a X.env) :: starEach [] X.env := by rfl) (hpl : (backTo pos (starEach [] X.env)).any (·.1) = false := by rfl) :
    PS X (.Raise (some (.Call (.Name "DeadEnd" p) [a] [] pos)) none pos2) (tRaiseDeadEnd C W ta) := L2N.ps_raise hc tk (pmk_DeadEnd T hr ha hg he hpl)
/-- e.vertex, e the error that the suite holds -/
def tByDeadEnd (C : Addr) (a : Addr) (cls : Value) (d : Option Addr) (te : TE) : TE := fun σ H Q => te σ H fun x H1 => x = .ref a ∧ cls = .ref C ∧ ∃ (dd : Addr) (v : V), d = some dd ∧ H1 dd = some (.xd [(("vertex" : Str), v)]) ∧ Q v H1
theorem pe_byDeadEnd {a : Addr} {oe : Obj} {cls : Value} {d : Option Addr} {pn : List (Addr × Obj)} {e : Expr} {te : TE} {pos : Pos} (T : PySem.DeadEndX.Txt X.K X.mg C fI) (hz : Zc cls d oe) (hf : ∃ vs, oe.data = .fields vs) (he : PE (X.suite a ((a, oe) :: pn)) e te)
    (hb : attributeBase e "vertex" X.env (eval e X.env) = eval e X.env := by rfl) :
    PE (X.suite a ((a, oe) :: pn)) (.Attribute e "vertex" pos) (tByDeadEnd C a cls d te) := by
  refine ⟨fun pins s σ H Q I h => ?_⟩
  refine attr_of hb (thn (he.run pins s σ H _ I h) fun u s1 hh => ?_)
  obtain ⟨x, H1, I1, rx, ex, ec, dd, v, ed, ea, q⟩ := hh
  subst ex
  obtain rfl : u = Value.ref a := rx
  subst ec
  subst ed
  obtain ⟨ha, _⟩ := I1.pin (a, oe) (List.mem_append_left _ List.mem_cons_self)
  obtain ⟨vs, hd⟩ := hf
  have hx : ObjOk X.prog X.w H1 s1.heap dd (.xd [(("vertex" : Str), v)]) := I1.hok dd _ ea
  obtain ⟨mA, hns, hr⟩ := hx
  obtain ⟨od, ho, hl⟩ := lookIn_ns hns
  have l : List.lookup ("vertex" : Str) [(("vertex" : Str), v)] = some v := by simp [List.lookup]
  obtain ⟨u, hu, ru⟩ := RelO.some_of (v := v) (o := mA "vertex") (by rw [← l]; exact hr "vertex")
  have J : PySem.W.InstAt s1.heap a oe C (some od) := ⟨ha, hz.1, by unfold PySem.W.notCls; rw [hd] <;> rfl, by rw [hz.2]; exact ho⟩
  exact HandSPX.exc_get I1.kIn J T.ga T.gg T.exC (PySem.W.findObj_own T.hdC T.noN rfl (by rw [hl, hu])) (handed_of ru) ⟨v, H1, I1.tok _, ru, q⟩
/-- isinstance(e, c), e the error that the suite holds -/
def rIsDeadEnd (K : PySem.W.Frag) (C a : Addr) (cls : Value) (d : Option Addr) : List V → Hp → VK → Prop := fun xs H Q => ∃ (c : V) (cv : Value) (b : Bool) (dd : Addr) (v : V), xs = [.ref a, c] ∧ cls = .ref C ∧ d = some dd ∧ H dd = some (.xd [(("vertex" : Str), v)]) ∧ (∀ u, RelV c u → u = cv) ∧ PySem.W.kitOne K (.ref C) cv = some b ∧ Q (.bl b) H
theorem call_isDeadEnd {a : Addr} {oe : Obj} {cls : Value} {d : Option Addr} {pn : List (Addr × Obj)} (T : PySem.DeadEndX.Txt X.K X.mg C fI) (hz : Zc cls d oe) (hf : ∃ vs, oe.data = .fields vs) : CallR (X.suite a ((a, oe) :: pn)) (.builtin "isinstance") (rIsDeadEnd X.K C a cls d) := by
  intro pins s σ H xs us Q I r h
  obtain ⟨c, cv, b, dd, v, rfl, ec, ed, ea, hcv, e, q⟩ := h
  subst ec
  subst ed
  cases r with
  | cons rx rr =>
    cases rr with
    | cons rt rr =>
      cases rr
      cases rx
      have ec := hcv _ rt
      subst ec
      obtain ⟨hget, _⟩ := I.pin (a, oe) (List.mem_append.mpr (.inl List.mem_cons_self))
      obtain ⟨vs, hv⟩ := hf
      have hx : ObjOk X.prog X.w H s.heap dd (.xd [(("vertex" : Str), v)]) := I.hok dd _ ea
      obtain ⟨mA, hns, hr⟩ := hx
      obtain ⟨od, ho, hl⟩ := lookIn_ns hns
      have J : PySem.W.InstAt s.heap a oe C (some od) := ⟨hget, hz.1, by unfold PySem.W.notCls; rw [hv] <;> rfl, by rw [hz.2]; exact ho⟩
      have hcl : (PySem.W.clsIn X.K C).isSome = true := by
        obtain ⟨nm, q, N, bs, bm, sn, sub, ab, col, dd, k0, k1, k2, k3, k5, hC, hbm⟩ := T.cls
        unfold PySem.W.clsIn; rw [hC]; rfl
      exact PySem.W.kia_one (PySem.W.kitx_exc hcl T.ga T.gg T.exC T.ca T.sp T.tk T.mo) I.kIn J e (fun z => nomatch z) fun tk => ⟨.bl b, H, I.kept (t' := tk) fun _ _ z => z, rfl, q⟩
end
end GM
set_option Elab.async false
set_option linter.all false
set_option maxRecDepth 100000
set_option maxHeartbeats 4000000
namespace GM
open PySem PySem.Spec PyProof.Rows L2
/-! ### a def of FnG is called -/
section
variable {X : Cx} {CX : CXT} {k : Nat} {f : Addr} {fd : FuncData} {ps : List Str} {sp : Sp} {E : XK} {x : Str} {p pos : Pos} {e : Expr} {es : List Expr} {t : TA}
theorem run_g {pins : List (Addr × Obj)} {σ : L2.St} {H : Hp} {s : Shared} {Q : VK} {us : List Value} {vs : List V} (F : FnG X.prog X.w X.K X.mg X.base CX k f fd ps sp) (hgd : X.A.guards = some []) (hr : Room k X.A) (hb : Binds X.K fd ps []) (hx : Passes CX X E)
    (I : Inv X pins σ H s) (rv : Vals vs us) (h : sp vs H Q E) : wpAny (model X.prog X.w) X.A (call (.ref f) us) (EP X pins σ Q) X.xe s := by
  have el : us.length = ps.length := by rw [← rv.length]; exact F.len _ _ _ _ h
  have bt := hb s us I.kIn (by rw [List.append_nil]; exact el)
  rw [List.append_nil] at bt
  refine wpAny_call (codeAny_mono (F.run X.A X.stack s H ⟨us, []⟩ us vs Q E hgd hr I.env0 bt rv h) ?_)
  intro r s1 hq
  match r, hq with
  | .error e, hq => exact hx pins σ H s e s1 I hq
  | .ok (.ret u), hq => exact I.after hq
  | .ok .next, hq => exact hq.elim
  | .ok .brk, hq => exact hq.elim
  | .ok .cont, hq => exact hq.elim
theorem pe_callG (F : FnG X.prog X.w X.K X.mg X.base CX k f fd ps sp) (hgd : X.A.guards = some []) (hr : Room k X.A) (hg : Gl X x) (hm : X.mg x = some (.ref f)) (hk : PySem.W.keepIn X.K (.ref f) = true) (hb : Binds X.K fd ps []) (hx : Passes CX X E)
    (ha : PA X (e :: es) t) (hdb : (x == ("__debug__" : Str)) = false := by decide) (he : starEach (e :: es) X.env = (false, eval e X.env) :: starEach es X.env := by rfl) (hpl : (backTo pos (starEach es X.env)).any (·.1) = false := by rfl) :
    PE X (.Call (.Name x p) (e :: es) [] pos) (tCallS sp (fun _ => E) t) := by
  constructor
  intro pins s σ H Q I h
  refine wpAny_Call_Name_kw (ld_glob I hg hm ?_ hdb)
  refine PySem.W.callWith_K (h₀ := X.base) I.ok.mod.kin hk (thn (ha.run pos pins s σ H _ I h) ?_) he hpl
  rintro us s1 ⟨vs, H1, I1, r, q⟩
  exact ⟨I1.kIn, run_g F hgd hr hb hx I1 r q⟩
end
/-! ### defs that raise, errors whose context is None -/
theorem takes0N {X : Cx} : L2N.Takes X (fun _ _ _ _ => False) := by
  rintro _ _ ⟨_, _, _, _, _, _, _, _, _, _, _, _, _, _, _, _, z⟩
  exact z.elim
theorem okN {P : Program} {w : World} {K : PySem.W.Frag} {mg : Str → Option Value} {g : Heap} {x qn : Str} {st : Stmt} {f : Addr} {fd : FuncData} {N ps : List Str} {k : Nat} {sp : Sp} (F : Fun K x qn st f fd) (S : FnScope N ps (defScope st)) (ln : ∀ vs H Q E, sp vs H Q E → vs.length = ps.length)
    (hb : ∀ (cdv : Value) (B : Around) (out : List Env) (t : Shared) (H : Hp) (vs : List V) (Q : VK) (E : XK), Room k (B.deeper (envOfC qn (defScope st) t.heap.objs.size f cdv)) → sp vs H Q E →
      ∃ r, PSs (cxOf (L2N.CX P w) P w K mg g N qn (defScope st) f cdv B out t H E) (defBody st) r ∧ r { nx := fun _ H' => Q .non H', rt := Q } (start N vs) H) : FnOk P w K mg g (L2N.CX P w) (k + 1) f fd ps sp := by
  obtain ⟨oc, od, kV, doc, pm, an, cdv, ct, sl, rfl, lk, hcd⟩ := F.ex
  exact fn_of lk hcd S ln fun B out t H vs Q E hr hsp => hb cdv B out t H vs Q E hr hsp
/-- the same, met by a try around it -/
structure KnX (P : Program) (w : World) (K : PySem.W.Frag) (mg : Str → Option Value) (base : Heap) (k : Nat) (x : Str) (ps : List Str) (sp : Sp) where
  f : Addr
  fd : FuncData
  ok : FnOk P w K mg base (L2N.CX P w) k f fd ps sp
  b : Binds K fd ps []
  kp : PySem.W.keepIn K (.ref f) = true
  m : mg x = some (.ref f)
structure KnG (P : Program) (w : World) (K : PySem.W.Frag) (mg : Str → Option Value) (base : Heap) (k : Nat) (x : Str) (ps : List Str) (sp : Sp) where
  f : Addr
  fd : FuncData
  ok : FnG P w K mg base CX0 k f fd ps sp
  b : Binds K fd ps []
  kp : PySem.W.keepIn K (.ref f) = true
  m : mg x = some (.ref f)
structure KnH (P : Program) (w : World) (K : PySem.W.Frag) (mg : Str → Option Value) (base : Heap) (k : Nat) (x : Str) (ps : List Str) (sp : Sp) where
  f : Addr
  fd : FuncData
  ok : L2H.FnH P w K mg base CX0 k f fd ps sp
  b : Binds K fd ps []
  kp : PySem.W.keepIn K (.ref f) = true
  m : mg x = some (.ref f)
theorem hot_suite {X : Cx} {a : Addr} {oe : Obj} {cls : Value} {d : Option Addr} {pn : List (Addr × Obj)} (hz : L2N.Zn cls d oe) (hf : ∃ vs, oe.data = .fields vs) : L2H.HotC (X.suite a ((a, oe) :: pn)) := by
  obtain ⟨vs, hv⟩ := hf
  exact ⟨(a, oe), ⟨rfl, vs, hv, hz.2.2 vs hv⟩, List.mem_cons_self⟩
theorem passAt0 {X : Cx} {σ : L2.St} : PassesAt CX0 X σ E0 := fun _ _ _ _ _ _ h => h.elim
theorem okH {P : Program} {w : World} {K : PySem.W.Frag} {mg : Str → Option Value} {g : Heap} {x qn : Str} {st : Stmt} {f : Addr} {fd : FuncData} {N ps : List Str} {k : Nat} {sp : Sp} (F : Fun K x qn st f fd) (S : FnScope N ps (defScope st)) (ln : ∀ vs H Q E, sp vs H Q E → vs.length = ps.length)
    (hb : ∀ (cdv : Value) (B : Around) (out : List Env) (t : Shared) (H : Hp) (vs : List V) (Q : VK) (E : XK) (p : Addr × Obj), L2H.Hot1 B p → L2H.RoomH k (B.deeper (envOfC qn (defScope st) t.heap.objs.size f cdv)) → sp vs H Q E →
      ∃ r, PSs (L2H.cxH CX0 P w K mg g N qn (defScope st) f cdv B out t H E p) (defBody st) r ∧ r { nx := fun _ H' => Q .non H', rt := Q } (start N vs) H) : L2H.FnH P w K mg g CX0 (k + 1) f fd ps sp := by
  obtain ⟨oc, od, kV, doc, pm, an, cdv, ct, sl, rfl, lk, hcd⟩ := F.ex
  exact L2H.fn_ofH lk hcd S ln fun B out t H vs Q E p hp hr hsp => hb cdv B out t H vs Q E p hp hr hsp
section
variable {P : Program} {w : World} {K : PySem.W.Frag} {mg : Str → Option Value} {base : Heap} (M : Blt mg)
include M
def spWholeH : Sp := fun vs H Q _ => ∃ i : Int, vs = [.int i] ∧ Q (.bl true) H
theorem ok_lwholeH {f : Addr} {fd : FuncData} (F : Fun K "_law_whole" "_law_whole" s__law_whole f fd) : L2H.FnH P w K mg base CX0 1 f fd ["value"] spWholeH := by
  refine okH F sc__law_whole (fun vs H Q E h => ?_) (fun cdv A outer s H vs Q E p hp hr h => ?_)
  · obtain ⟨i, rfl, _⟩ := h
    rfl
  obtain ⟨i, rfl, q⟩ := h
  have nd := sc__law_whole.nd
  refine ⟨_, pss_one (ps_ret (pe_and (pe_callB call_isi (by rfl) M.isinstance boot_isinstance (pa_cons (pv 0) (pa_cons (pe_bltn (v := .ty "int") (by rfl) M.int PyProof.Rows.boot_int rfl) pa_nil))) (pe_one (pe_not (pe_callB call_isi (by rfl) M.isinstance boot_isinstance (pa_cons (pv 0) (pa_cons (pe_bltn (v := .ty "bool") (by rfl) M.bool PyProof.Rows.boot_bool rfl) pa_nil))))))), ?_⟩
  refine ⟨_, rfl, _, _, _, _, true, rfl, .ty "int", .base (.int i), kit_ty (by decide +kernel), true, rfl, ?_⟩
  refine iteT ⟨_, rfl, _, _, _, _, false, rfl, .ty "bool", .base (.int i), kit_ty (by decide +kernel), false, rfl, q⟩
end
end GM
set_option Elab.async false
set_option linter.all false
set_option maxRecDepth 100000
set_option maxHeartbeats 4000000
namespace GM
open PySem PySem.Spec PyProof.Rows L2
/-! ### an own error that stands among the values -/
section
variable {X : Cx} {pins : List (Addr × Obj)} {σ : L2.St} {H : Hp} {s : Shared} {h' : Heap}
theorem Inv.laid2D {a b : Addr} {o u : HO} {t' : Nat} (I : Inv X pins σ H s) (k : ∀ c x, s.heap.get? c = some x → h'.get? c = some x) (ha : s.heap.objs.size ≤ a) (hb : s.heap.objs.size ≤ b)
    (n1 : ObjOk X.prog X.w (upd (upd H a o) b u) h' a o) (n2 : ObjOk X.prog X.w (upd (upd H a o) b u) h' b u) (hne : a ≠ b) : Inv X pins σ (upd (upd H a o) b u) { s with heap := h', toks := t' } := by
  have fa := I.hok.fresh ha
  have fb := I.hok.fresh hb
  have st : ∀ c x, H c = some x → upd (upd H a o) b u c = some x := fun c x e => by rw [upd_ne (ne_of_none e fb), upd_ne (ne_of_none e fa)]; exact e
  refine I.un (h' := h') (t' := t') ⟨fun c x q _ _ _ => k c x q, fun c x q _ _ _ => ⟨x.slots, k c x q⟩, fun c x q n _ => ?_, fun c x q _ => ⟨x, k c x q⟩, fun c xs q => st _ _ q, fun c x y q => st _ _ q, fun c ps q => ⟨#[], by rw [st _ _ q]; simp⟩⟩ fun c x e => ?_
  · have l := Heap.lt_size q
    rw [upd_ne (Nat.ne_of_lt (Nat.lt_of_lt_of_le l hb)), upd_ne (Nat.ne_of_lt (Nat.lt_of_lt_of_le l ha))]; exact n
  · by_cases c1 : c = b
    · subst c1; rw [upd_same] at e; cases e; exact n2
    · rw [upd_ne c1] at e
      by_cases c2 : c = a
      · subst c2; rw [upd_same] at e; cases e; exact n1
      · rw [upd_ne c2] at e
        exact (I.hok c x e).stay (fun c v _ q => k c v q) (fun c q => st _ _ q) fun c xs q => st _ _ q
end
/-- the error at e, its dict at d -/
def errD (C e d : Addr) : HO := .ext fun h => ∃ t1 : Addr, h.get? e = some { cls := .ref C, dict := some d, data := .fields #[.ref t1, .none, .none, .none, .bool false, .none] }
section
variable {X : Cx} {C fI : Addr}
def tNewDeadEnd (C : Addr) (ta : TA) : TE := fun σ H Q => ta σ H fun vs H1 => ∃ v, vs = [v] ∧ ∀ d e, H1 d = Option.none → upd H1 d (.xd [(("vertex" : Str), v)]) e = Option.none → Q (.ref e) (upd (upd H1 d (.xd [(("vertex" : Str), v)])) e (errD C e d))
theorem pe_newDeadEnd {a : Expr} {ta : TA} {p pos : Pos} {k : Nat} (T : PySem.DeadEndX.Txt X.K X.mg C fI) (hr : Room k X.A) (ha : PA X [a] ta) (hg : Gl X "DeadEnd" := by rfl)
    (he : starEach (a :: []) X.env = (false, eval a X.env) :: starEach [] X.env := by rfl) (hpl : (backTo pos (starEach [] X.env)).any (·.1) = false := by rfl) :
    PE X (.Call (.Name "DeadEnd" p) [a] [] pos) (tNewDeadEnd C ta) := by
  constructor
  intro pins s σ H Q I h
  refine wpAny_Call_Name_kw (ld_glob I hg T.gC ?_)
  refine PySem.W.callWith_K (h₀ := X.base) I.ok.mod.kin T.kC (thn (ha.run pos pins s σ H _ I h) fun us s1 hh => ?_) he hpl
  obtain ⟨vs, H1, I1, r1, v, ev, q1⟩ := hh
  subst ev
  refine ⟨I1.kIn, ?_⟩
  cases r1 with
  | cons rv rn =>
    rename_i v' us'
    cases rn
    show wpAny _ _ (call (.ref C) [v']) _ _ _
    have hlim := I1.nolimit
    obtain ⟨hp, g, dr, tk, os⟩ := s1
    refine wpAny_call (PySem.DeadEndX.err_made T I1.kIn hlim (by have := hr.dp; omega) fun h' tk' e d M => ?_)
    obtain ⟨t1, hoe⟩ := M.obj
    have hns := M.ns
    have fd := I1.hok.fresh M.dbig
    have fe := I1.hok.fresh M.new
    have J := Inv.laid2D (h' := h') (a := d) (b := e) (o := .xd [(("vertex" : Str), v)]) (u := errD C e d) (t' := tk') I1 M.keep M.dbig M.new ⟨_, hns, fun f => relO_DeadEnd rv f⟩ ⟨⟨t1, hoe⟩, ⟨_, hoe⟩, fun h1 h2 ⟨t, et⟩ kk => ⟨t, kk _ et⟩⟩ M.dne
    exact ⟨.ref e, _, J, rfl, q1 d e fd (by rw [upd_ne (Ne.symm M.dne)]; exact fe)⟩
def tXfDeadEnd (C : Addr) (te : TE) : TE := fun σ H Q => te σ H fun x H1 => ∃ (e d : Addr) (v : V), x = .ref e ∧ H1 e = some (errD C e d) ∧ H1 d = some (.xd [(("vertex" : Str), v)]) ∧ Q v H1
theorem pe_xfDeadEnd {e : Expr} {te : TE} {pos : Pos} (T : PySem.DeadEndX.Txt X.K X.mg C fI) (he : PE X e te) (hb : attributeBase e "vertex" X.env (eval e X.env) = eval e X.env := by rfl) : PE X (.Attribute e "vertex" pos) (tXfDeadEnd C te) := by
  refine ⟨fun pins s σ H Q I h => ?_⟩
  refine attr_of hb (thn (he.run pins s σ H _ I h) fun u s1 hh => ?_)
  obtain ⟨x, H1, I1, rx, x0, d, v, ex, ee, ea, q⟩ := hh
  subst ex
  obtain rfl : u = Value.ref x0 := rx
  have h1 : ObjOk X.prog X.w H1 s1.heap x0 (errD C x0 d) := I1.hok x0 _ ee
  obtain ⟨⟨t1, ho⟩, _⟩ := h1
  have hx : ObjOk X.prog X.w H1 s1.heap d (.xd [(("vertex" : Str), v)]) := I1.hok d _ ea
  obtain ⟨mA, hns, hr⟩ := hx
  obtain ⟨od, ho2, hl⟩ := lookIn_ns hns
  have l : List.lookup ("vertex" : Str) [(("vertex" : Str), v)] = some v := by simp [List.lookup]
  obtain ⟨u, hu, ru⟩ := RelO.some_of (v := v) (o := mA "vertex") (by rw [← l]; exact hr "vertex")
  have J : PySem.W.InstAt s1.heap x0 { cls := .ref C, dict := some d, data := .fields #[.ref t1, .none, .none, .none, .bool false, .none] } C (some od) := ⟨ho, rfl, rfl, ho2⟩
  exact HandSPX.exc_get I1.kIn J T.ga T.gg T.exC (PySem.W.findObj_own T.hdC T.noN rfl (by rw [hl, hu])) (handed_of ru) ⟨v, H1, I1.tok _, ru, q⟩
end
end GM
set_option Elab.async false
set_option linter.all false
set_option maxRecDepth 100000
set_option maxHeartbeats 4000000
set_option pp.maxSteps 400
set_option pp.deepTerms false
namespace GM
open PySem PySem.Spec PyProof.Rows L2
/-! ### drawn digits -/
def Dg : List Int → List Int → Prop
  | [], [] => True
  | d :: ds, s :: ss => (0 ≤ d ∧ d < s) ∧ Dg ds ss
  | _, _ => False
theorem Dg.len : ∀ {ds ss : List Int}, Dg ds ss → ds.length = ss.length
  | [], [], _ => rfl
  | _ :: _, _ :: _, h => congrArg Nat.succ (Dg.len h.2)
  | [], _ :: _, h => h.elim
  | _ :: _, [], h => h.elim
theorem Dg.snoc : ∀ {ds ss : List Int} {d s : Int}, Dg ds ss → 0 ≤ d → d < s → Dg (ds ++ [d]) (ss ++ [s])
  | [], [], _, _, _, a, b => ⟨⟨a, b⟩, True.intro⟩
  | _ :: _, _ :: _, _, _, h, a, b => ⟨h.1, Dg.snoc h.2 a b⟩
  | [], _ :: _, _, _, h, _, _ => h.elim
  | _ :: _, [], _, _, h, _, _ => h.elim
theorem Dg.cons {ds ss : List Int} {s : Int} (h : Dg ds (s :: ss)) : ∃ d r, ds = d :: r ∧ (0 ≤ d ∧ d < s) ∧ Dg r ss := by
  cases ds with
  | nil => exact h.elim
  | cons d r => exact ⟨d, r, rfl, h.1, h.2⟩
theorem Dg.nil {ds : List Int} (h : Dg ds []) : ds = [] := by
  cases ds with
  | nil => rfl
  | cons d r => exact h.elim
theorem Dg.at : ∀ {ds ss : List Int} {i : Nat} {s : Int}, Dg ds ss → ss[i]? = some s → ∃ d, ds[i]? = some d ∧ 0 ≤ d ∧ d < s
  | [], [], _, _, _, e => by simp at e
  | d :: ds, t :: ss, 0, _, h, e => by simp at e; subst e; exact ⟨d, rfl, h.1⟩
  | d :: ds, t :: ss, i + 1, s, h, e => by
    have e' : ss[i]? = some s := by simpa using e
    obtain ⟨x, h1, h2⟩ := Dg.at h.2 e'
    exact ⟨x, by simpa using h1, h2⟩
  | [], _ :: _, _, _, h, _ => h.elim
  | _ :: _, [], _, _, h, _ => h.elim
section
variable {P : Program} {w : World} {K : PySem.W.Frag} {mg : Str → Option Value} {base : Heap} (M : Blt mg)
include M
/-- of an int -/
def spWhole : Sp := fun vs H Q _ => ∃ i : Int, vs = [.int i] ∧ Q (.bl true) H
theorem ok_lwhole {f : Addr} {fd : FuncData} (F : Fun K "_law_whole" "_law_whole" s__law_whole f fd) : FnOk P w K mg base CX0 1 f fd ["value"] spWhole := by
  refine F.ok sc__law_whole (fun vs H Q E h => ?_) (fun cdv A outer s H vs Q E hr h => ?_)
  · obtain ⟨i, rfl, _⟩ := h
    rfl
  obtain ⟨i, rfl, q⟩ := h
  have nd := sc__law_whole.nd
  refine ⟨_, pss_one (ps_ret (pe_and (pe_callB call_isi (by rfl) M.isinstance boot_isinstance (pa_cons (pv 0) (pa_cons (pe_bltn (v := .ty "int") (by rfl) M.int PyProof.Rows.boot_int rfl) pa_nil))) (pe_one (pe_not (pe_callB call_isi (by rfl) M.isinstance boot_isinstance (pa_cons (pv 0) (pa_cons (pe_bltn (v := .ty "bool") (by rfl) M.bool PyProof.Rows.boot_bool rfl) pa_nil))))))), ?_⟩
  refine ⟨_, rfl, _, _, _, _, true, rfl, .ty "int", .base (.int i), kit_ty (by decide +kernel), true, rfl, ?_⟩
  refine iteT ⟨_, rfl, _, _, _, _, false, rfl, .ty "bool", .base (.int i), kit_ty (by decide +kernel), false, rfl, q⟩
theorem ok_whole {f : Addr} {fd : FuncData} (F : Fun K "is_whole" "is_whole" s_is_whole f fd) : FnOk P w K mg base CX0 1 f fd ["value"] spWhole := by
  refine F.ok sc_is_whole (fun vs H Q E h => ?_) (fun cdv A outer s H vs Q E hr h => ?_)
  · obtain ⟨i, rfl, _⟩ := h
    rfl
  obtain ⟨i, rfl, q⟩ := h
  have nd := sc_is_whole.nd
  refine ⟨_, pss_one (ps_ret (pe_and (pe_callB call_isi (by rfl) M.isinstance boot_isinstance (pa_cons (pv 0) (pa_cons (pe_bltn (v := .ty "int") (by rfl) M.int PyProof.Rows.boot_int rfl) pa_nil))) (pe_one (pe_not (pe_callB call_isi (by rfl) M.isinstance boot_isinstance (pa_cons (pv 0) (pa_cons (pe_bltn (v := .ty "bool") (by rfl) M.bool PyProof.Rows.boot_bool rfl) pa_nil))))))), ?_⟩
  refine ⟨_, rfl, _, _, _, _, true, rfl, .ty "int", .base (.int i), kit_ty (by decide +kernel), true, rfl, ?_⟩
  refine iteT ⟨_, rfl, _, _, _, _, false, rfl, .ty "bool", .base (.int i), kit_ty (by decide +kernel), false, rfl, q⟩
/-- some int; the heap as it was -/
def spCell (K : PySem.W.Frag) : Sp := fun vs H Q _ => ∃ (a : Addr) (ns : List Int) (k : Nat), vs = [.ref a, .int (k : Int)] ∧ SqL K H a (ns.map V.int) ∧ ns.length ≤ 63 ∧ k ≤ 1000 ∧ ∀ z : Int, Q (.int z) H
theorem ok_cell {f : Addr} {fd : FuncData} (F : Fun K "_law_cell" "_law_cell" s__law_cell f fd) :
    FnOk P w K mg base CX0 1 f fd ["script", "k"] (spCell K) := by
  refine F.ok sc__law_cell (fun vs H Q E h => ?_) (fun cdv A outer s H vs Q E hr h => ?_)
  · obtain ⟨a, ns, k, rfl, _⟩ := h
    rfl
  obtain ⟨a, ns, k, rfl, hS, hl, hk, q⟩ := h
  have nd := sc__law_cell.nd
  refine ⟨_, pss_cons (ps_if (pt_cmpR op_lt (pv 1) (pe_callB call_len_seq (by rfl) M.len PySem.boot_len (pa_cons (pv 0) pa_nil)) (nomark _)) (pss_one (ps_ret (pe_ix ix_list (pv 0) (pv 1) (fun _ _ => rfl)))) pss_nil)
    (pss_cons (ps_set (i := 2) nd rfl (.inl rfl) pe_int)
    (pss_cons (ps_for PassesOwn.never rfl (pi_list (pv 0)) (pg_name (i := 3) nd rfl (.inl rfl)) (pss_one (ps_set (i := 2) nd rfl (.inl rfl) (pe_op op_mod (pe_callTy call_int1 (by rfl) M.int PyProof.Rows.boot_int (pa_cons (pe_op op_add (pe_op op_mul (pv 2) pe_int) (pe_op op_mod (pe_callTy call_int1 (by rfl) M.int PyProof.Rows.boot_int (pa_cons (pv 3) pa_nil)) pe_int)) pa_nil)) pe_int))))
    (pss_one (ps_ret (pe_op op_mod (pe_callTy call_int1 (by rfl) M.int PyProof.Rows.boot_int (pa_cons (pe_op op_mul (pe_op op_mul (pe_op op_add (pv 2) pe_int) (pe_op op_add (pv 1) pe_int)) pe_int) pa_nil)) pe_int))))), ?_⟩
  refine ⟨_, rfl, _, rfl, a, _, rfl, .inl hS, _, _, rfl, rfl, _, rfl, ite2 (fun c => ?_) (fun c => ?_)⟩
  · have c' := of_decide_eq_true c
    rw [List.length_map] at c'
    have hk' : k < ns.length := by omega
    have g : (ns.map V.int)[k]? = some (.int ns[k]) := by rw [List.getElem?_map, List.getElem?_eq_getElem hk']; rfl
    exact ⟨_, rfl, _, rfl, a, _, _, _, rfl, rfl, hS, atI_nat g, q _⟩
  · refine ⟨_, rfl, a, rfl, ⟨_, hS⟩, for_list (xs := ns.map V.int) (fun i σ H' => H' = H ∧ ∃ (z : Int) (y : Option V), σ = [some (.ref a), some (.int (k : Int)), some (.int z), y]) ⟨rfl, 17, Option.none, rfl⟩ (fun i σ H' _ z => by rw [z.1]; exact hS) ?_ ?_⟩
    · rintro i x σ H' hx ⟨rfl, z, y, rfl⟩
      obtain ⟨v, hv, rfl⟩ := map_at hx
      refine ⟨_, rfl, _, _, rfl, rfl, .inr ⟨by decide, by decide⟩, _, rfl, .inl ⟨_, rfl, _, _, rfl, rfl, (by show (0 : Int) < 1000003; decide), _, _, rfl, rfl, .inl ⟨_, rfl, _, _, rfl, rfl, (by show (0 : Int) < 1000003; decide), ?_⟩⟩⟩
      exact ⟨rfl, _, _, rfl⟩
    · rintro σ H' ⟨rfl, z, y, rfl⟩
      refine ⟨_, rfl, _, _, rfl, rfl, _, rfl, _, _, rfl, rfl, _, _, rfl, rfl, .inr ⟨by omega, by omega⟩, _, _, rfl, rfl, .inr ⟨by decide, by decide⟩, .inl ⟨_, rfl, _, _, rfl, rfl, (by show (0 : Int) < 2147483647; decide), ?_⟩⟩
      exact q _
/-- a new list of digits -/
def spDigits (K : PySem.W.Frag) : Sp := fun vs H Q _ => ∃ (c : Int) (l : Addr) (ss : List Int), vs = [.int c, .ref l] ∧ SqL K H l (ss.map V.int) ∧ ss.length ≤ 1000 ∧ (∀ s ∈ ss, 0 < s ∧ s < 1073741824) ∧
  ∀ p ds H', Same H H' → H p = none → H' p = some (.lst (ds.map V.int)) → Dg ds ss → Q (.ref p) H'
theorem ok_digits {f : Addr} {fd : FuncData} (F : Fun K "_law_digits" "_law_digits" s__law_digits f fd) :
    FnOk P w K mg base CX0 1 f fd ["cell", "sizes"] (spDigits K) := by
  refine F.ok sc__law_digits (fun vs H Q E h => ?_) (fun cdv A outer s H vs Q E hr h => ?_)
  · obtain ⟨c, l, ss, rfl, _⟩ := h
    rfl
  obtain ⟨c, l, ss, rfl, hS, hlen, hpos, q⟩ := h
  have nd := sc__law_digits.nd
  refine ⟨_, pss_cons (ps_set (i := 2) nd rfl (.inl rfl) (pe_lst pa_nil))
    (pss_cons (ps_set (i := 3) nd rfl (.inl rfl) (pe_callTy call_int1 (by rfl) M.int PyProof.Rows.boot_int (pa_cons (pv 0) pa_nil)))
    (pss_cons (ps_if (pt_cmpR op_ge (pv 3) (pe_op op_pow pe_int pe_int) (nomark _)) (pss_cons (ps_set (i := 3) nd rfl (.inl rfl) (pe_op op_sub (pv 3) (pe_op op_pow pe_int pe_int)))
      (pss_cons (ps_for PassesOwn.never rfl (pi_list (pv 1)) (pg_name (i := 4) nd rfl (.inl rfl)) (pss_cons (ps_expr (pe_bm PySem.F.plainAttrs_list PySem.F.slot_list_append PySem.F.type_list_append mt_append (pv 2) (pa_cons (pe_op op_mod (pe_callTy call_int1 (by rfl) M.int PyProof.Rows.boot_int (pa_cons (pv 3) pa_nil)) (pv 4)) pa_nil)))
        (pss_one (ps_set (i := 3) nd rfl (.inl rfl) (pe_op op_fdiv (pe_callTy call_int1 (by rfl) M.int PyProof.Rows.boot_int (pa_cons (pv 3) pa_nil)) (pv 4))))))
      (pss_one (ps_ret (pv 2))))) pss_nil)
    (pss_cons (ps_set (i := 5) nd rfl (.inl rfl) (pe_op op_mod (pe_callTy call_int1 (by rfl) M.int PyProof.Rows.boot_int (pa_cons (pv 3) pa_nil)) pe_int))
    (pss_cons (ps_for PassesOwn.never rfl (pi_range1 rfl M.range (pa_cons (pe_callB call_len_seq (by rfl) M.len PySem.boot_len (pa_cons (pv 1) pa_nil)) pa_nil)) (pg_name (i := 6) nd rfl (.inl rfl)) (pss_cons (ps_set (i := 5) nd rfl (.inl rfl) (pe_op op_mod (pe_callTy call_int1 (by rfl) M.int PyProof.Rows.boot_int (pa_cons (pe_op op_add (pe_op op_add (pe_op op_mul (pv 5) pe_int) (pe_op op_mul pe_int (pv 6))) pe_int) pa_nil)) pe_int))
      (pss_cons (ps_set (i := 7) nd rfl (.inl rfl) (pe_op op_mod (pe_callTy call_int1 (by rfl) M.int PyProof.Rows.boot_int (pa_cons (pe_op op_mul (pv 5) (pe_op op_add (pe_op op_fdiv (pv 5) pe_int) pe_int)) pa_nil)) pe_int))
      (pss_one (ps_expr (pe_bm PySem.F.plainAttrs_list PySem.F.slot_list_append PySem.F.type_list_append mt_append (pv 2) (pa_cons (pe_op op_mod (pe_op op_fdiv (pv 7) pe_int) (pe_ix ix_list (pv 1) (pv 6) (fun _ _ => rfl))) pa_nil)))))))
    (pss_one (ps_ret (pv 2))))))), ?_⟩
  refine ⟨Nat.zero_le _, fun o no => ?_⟩
  have s1 : Same H (upd H o (.lst [])) := same_new no _
  refine ⟨_, rfl, .inl ⟨_, rfl, ?_⟩⟩
  refine ⟨_, rfl, _, _, rfl, rfl, ⟨by decide, by decide, by decide⟩, _, _, rfl, rfl, _, rfl, ite2 (fun _ => ?_) (fun _ => ?_)⟩
  · refine ⟨_, rfl, _, _, rfl, rfl, ⟨by decide, by decide, by decide⟩, _, _, rfl, rfl, ?_⟩
    refine ⟨_, rfl, l, rfl, ⟨_, s1.seq hS⟩, for_list (xs := ss.map V.int) (fun i σ H' => Same H H' ∧ ∃ (ds : List Int) (r : Int) (y : Option V), H' o = some (.lst (ds.map V.int)) ∧ Dg ds (ss.take i) ∧ σ = [some (.int c), some (.ref l), some (.ref o), some (.int r), y, Option.none, Option.none, Option.none])
      ⟨s1, [], _, Option.none, upd_same, True.intro, rfl⟩ (fun i σ H' _ z => z.1.seq hS) ?_ ?_⟩
    · rintro i x σ H' hx ⟨sm, ds, r, y, eo, hd, rfl⟩
      obtain ⟨v, hv, rfl⟩ := map_at hx
      have hv2 := hpos v (List.mem_of_getElem? hv)
      refine ⟨_, rfl, .inl ⟨rfl, _, SqL.of eo⟩, _, rfl, .inl ⟨_, rfl, _, rfl, _, _, rfl, rfl, hv2.1, o, _, _, rfl, rfl, eo, ?_, ?_⟩⟩
      · rw [List.length_map, hd.len, List.length_take]
        exact Nat.lt_of_le_of_lt (Nat.min_le_right _ _) (small1000 hlen)
      · refine ⟨_, rfl, .inl ⟨_, rfl, _, rfl, _, _, rfl, rfl, hv2, ?_⟩⟩
        refine ⟨fun b u e => ?_, ds ++ [r % v], _, _, ?_, ?_, rfl⟩
        · rw [upd_ne (ne_of_none e no)]
          exact sm _ _ e
        · rw [upd_same, List.map_append]
          rfl
        · rw [tk1 hv]
          exact hd.snoc (Int.emod_nonneg _ (by omega)) (Int.emod_lt_of_pos _ hv2.1)
    · rintro σ H' ⟨sm, ds, r, y, eo, hd, rfl⟩
      rw [List.length_map, List.take_length] at hd
      exact ⟨_, rfl, q o ds H' sm no eo hd⟩
  · refine ⟨_, rfl, .inl ⟨_, rfl, _, _, rfl, rfl, (by show (0 : Int) < 2147483629; decide), ?_⟩⟩
    refine ⟨_, rfl, l, _, rfl, .inl (s1.seq hS), _, rfl, (by rw [List.length_map]; omega), (by rw [List.length_map]; omega), ?_⟩
    have hn : (((ss.map V.int).length : Nat) : Int).toNat = ss.length := by rw [List.length_map]; rfl
    rw [hn]
    refine for_range (n := ss.length) (fun i σ H' => Same H H' ∧ ∃ (ds : List Int) (r z : Int) (y y' : Option V), H' o = some (.lst (ds.map V.int)) ∧ Dg ds (ss.take i) ∧ σ = [some (.int c), some (.ref l), some (.ref o), some (.int r), Option.none, some (.int z), y, y'])
      ⟨s1, [], _, _, Option.none, Option.none, upd_same, True.intro, rfl⟩ ?_ ?_
    · rintro i σ H' hi ⟨sm, ds, r, z, y, y', eo, hd, rfl⟩
      refine ⟨_, rfl, _, _, rfl, rfl, .inr ⟨by decide, by decide⟩, _, rfl, _, _, rfl, rfl, .inl ⟨by decide, by decide⟩, _, _, rfl, rfl, _, _, rfl, rfl, .inl ⟨_, rfl, _, _, rfl, rfl, (by show (0 : Int) < 2147483647; decide), ?_⟩⟩
      have b0 := Int.emod_nonneg (z * 48271 + 974711 * (0 + (i : Int)) + 12345) (show (2147483647 : Int) ≠ 0 by decide)
      have b1 := Int.emod_lt_of_pos (z * 48271 + 974711 * (0 + (i : Int)) + 12345) (show (0 : Int) < 2147483647 by decide)
      refine ⟨_, rfl, _, rfl, _, _, rfl, rfl, ⟨by decide, by decide⟩, _, _, rfl, rfl, _, _, rfl, rfl, .inl ⟨?_, ?_⟩, .inl ⟨_, rfl, _, _, rfl, rfl, (by show (0 : Int) < 2147483629; decide), ?_⟩⟩
      · exact Int.lt_of_lt_of_le (by decide) b0
      · exact Int.lt_trans b1 (by decide)
      have g : (ss.map V.int)[i]? = some (.int ss[i]) := by rw [List.getElem?_map, List.getElem?_eq_getElem hi]; rfl
      have hv2 := hpos ss[i] (List.getElem_mem hi)
      refine ⟨_, rfl, .inl ⟨rfl, _, SqL.of eo⟩, _, rfl, _, _, rfl, rfl, ⟨by decide, by decide⟩, _, rfl, _, rfl, l, _, _, _, rfl, rfl, sm.seq hS, ?_, _, _, rfl, rfl, hv2.1, o, _, _, rfl, rfl, eo, ?_, ?_⟩
      · rw [Int.zero_add]; exact atI_nat g
      · rw [List.length_map, hd.len, List.length_take]
        exact Nat.lt_of_le_of_lt (Nat.min_le_right _ _) (small1000 hlen)
      · refine ⟨fun b u e => ?_, ds ++ [((z * 48271 + 974711 * (0 + (i : Int)) + 12345) % 2147483647 * ((z * 48271 + 974711 * (0 + (i : Int)) + 12345) % 2147483647 / 65537 + 3)) % 2147483629 / 19 % ss[i]], _, _, _, _, ?_, ?_, rfl⟩
        · rw [upd_ne (ne_of_none e no)]
          exact sm _ _ e
        · rw [upd_same, List.map_append]
          rfl
        · rw [tk1 (List.getElem?_eq_getElem hi)]
          exact hd.snoc (Int.emod_nonneg _ (by omega)) (Int.emod_lt_of_pos _ hv2.1)
    · rintro σ H' ⟨sm, ds, r, z, y, y', eo, hd, rfl⟩
      rw [List.take_length] at hd
      exact ⟨_, rfl, q o ds H' sm no eo hd⟩
end
end GM
set_option Elab.async false
set_option linter.all false
set_option maxRecDepth 100000
set_option maxHeartbeats 4000000
set_option pp.maxSteps 150
set_option pp.deepTerms false
namespace GM
open PySem PySem.Spec PyProof.Rows L2
/-- the moves of a vertex: ascending, each a vertex -/
def Asc (n : Int) (xs : List Int) : Prop := xs.Pairwise (· < ·) ∧ (∀ x ∈ xs, 0 ≤ x ∧ x < n) ∧ xs ≠ [] ∧ xs.length ≤ 1000
theorem asc_step {n : Int} {xs : List Int} (h : Asc n xs) {i : Nat} {x : Int} (hx : xs[i]? = some x) (l : Int) (hl : l = 0 ∨ ∃ j y, j < i ∧ xs[j]? = some y ∧ l = y + 1) : l ≤ x ∧ x < n := by
  have hm := h.2.1 x (List.mem_of_getElem? hx)
  refine ⟨?_, hm.2⟩
  rcases hl with rfl | ⟨j, y, hj, hy, rfl⟩
  · exact hm.1
  · obtain ⟨a1, a2⟩ := List.getElem?_eq_some_iff.mp hx
    obtain ⟨b1, b2⟩ := List.getElem?_eq_some_iff.mp hy
    have := List.pairwise_iff_getElem.mp h.1 j i b1 a1 hj
    rw [a2, b2] at this
    omega
theorem neverOk {P : Program} {w : World} {K : PySem.W.Frag} {mg : Str → Option Value} {base : Heap} {f : Addr} {fd : FuncData} {ps : List Str} {sp : Sp} (no : ∀ vs H Q E, ¬ sp vs H Q E) : FnOk P w K mg base CX0 0 f fd ps sp :=
  ⟨fun vs H Q E h => absurd h (no vs H Q E), fun A outer s H args us vs Q E _ _ _ _ h => absurd h (no vs H Q E)⟩
section
variable {P : Program} {w : World} {K : PySem.W.Frag} {mg : Str → Option Value} {base : Heap} (M : Blt mg)
include M
/-- a whole number within its bounds -/
def spNumTo : Sp := fun vs H Q _ => ∃ i m : Int, vs = [.int i, .int m] ∧ 0 ≤ i ∧ i ≤ m ∧ Q (.bl true) H
theorem ok_numto {f : Addr} {fd : FuncData} (F : Fun K "is_number_to" "is_number_to" s_is_number_to f fd) (Gis_whole : Kn P w K mg base 1 "is_whole" ["value"] spWhole) :
    FnOk P w K mg base CX0 2 f fd ["value", "most"] spNumTo := by
  refine F.ok sc_is_number_to (fun vs H Q E h => ?_) (fun cdv A outer s H vs Q E hr h => ?_)
  · obtain ⟨i, m, rfl, _⟩ := h
    rfl
  obtain ⟨i, m, rfl, h0, h1, q⟩ := h
  have nd := sc_is_number_to.nd
  refine ⟨_, pss_one (ps_ret (pe_and (pe_call Gis_whole.ok (hr.mono (by decide)) (by rfl) Gis_whole.m Gis_whole.kp Gis_whole.b .nil pass0 (pa_cons (pv 0) pa_nil)) (pe_one (pe_chain op_le op_le pe_int (pv 0) (pv 1))))), ?_⟩
  refine ⟨_, rfl, _, rfl, _, rfl, iteT ?_⟩
  refine ⟨_, rfl, _, _, rfl, rfl, _, rfl, ?_⟩
  rw [if_pos (decide_eq_true h0)]
  refine ⟨_, rfl, _, _, rfl, rfl, ?_⟩
  show Q (.bl (decide (i ≤ m))) H
  rw [decide_eq_true h1]
  exact q
def spSucc : Sp := fun vs H Q _ => ∃ (a : Addr) (xs : List Int) (n : Int), vs = [.ref a, .int n] ∧ H a = some (.lst (xs.map V.int)) ∧ Asc n xs ∧ ∀ H', Same H H' → Q (.bl true) H'
theorem ok_succ {f : Addr} {fd : FuncData} (F : Fun K "are_successors" "are_successors" s_are_successors f fd) (Gis_whole : Kn P w K mg base 1 "is_whole" ["value"] spWhole) :
    FnOk P w K mg base CX0 2 f fd ["value", "count"] spSucc := by
  refine F.ok sc_are_successors (fun vs H Q E h => ?_) (fun cdv A outer s H vs Q E hr h => ?_)
  · obtain ⟨a, xs, n, rfl, _⟩ := h
    rfl
  obtain ⟨a, xs, n, rfl, ea, ha, q⟩ := h
  have nd := sc_are_successors.nd
  refine ⟨_, pss_cons (ps_if (pt_not (pt_val (pe_callB call_isiT (by rfl) M.isinstance boot_isinstance (pa_cons (pv 0) (pa_cons (pe_tup (pa_cons (pe_bltn (v := .ty "list") (by rfl) M.list PyProof.Rows.boot_list rfl) (pa_cons (pe_bltn (v := .ty "tuple") (by rfl) M.tuple PyProof.Rows.boot_tuple rfl) pa_nil))) pa_nil))))) (pss_one (ps_ret pe_bl)) pss_nil)
    (pss_cons (ps_set (i := 2) nd rfl (.inl rfl) pe_int)
    (pss_cons (ps_for PassesOwn.never rfl (pi_list (pv 0)) (pg_name (i := 3) nd rfl (.inl rfl)) (pss_cons (ps_if (PW.pt (pw_or (pt_not (pt_val (pe_call Gis_whole.ok (hr.mono (by decide)) (by rfl) Gis_whole.m Gis_whole.kp Gis_whole.b .nil pass0 (pa_cons (pv 3) pa_nil)))) (pw_or1 (pt_not (pt_chain op_le op_lt (pv 2) (pv 3) (pv 1)))))) (pss_one (ps_ret pe_bl)) pss_nil)
      (pss_one (ps_set (i := 2) nd rfl (.inl rfl) (pe_op op_add (pv 3) pe_int)))))
    (pss_one (ps_ret (pe_cmpR op_gt (pe_callB call_len_seq (by rfl) M.len PySem.boot_len (pa_cons (pv 0) pa_nil)) pe_int (nomark _)))))), ?_⟩
  refine ⟨_, rfl, le_line (n := 2) (by decide), fun t ht => ?_⟩
  have st := same_new ht (.tup [.ty "list", .ty "tuple"])
  refine ⟨_, t, _, _, _, true, rfl, upd_same, .cons (.ty "list") (.cons (.ty "tuple") .nil), .base (.lst (st _ _ ea)), kitAny_cons (b := true) (kit_ty (by decide +kernel)) (fun z => nomatch z) (fun _ => rfl), true, rfl, iteF ?_⟩
  have hlen : xs.length ≤ 1000 := ha.2.2.2
  refine ⟨_, rfl, a, rfl, ⟨_, SqL.of (st _ _ ea)⟩, for_list (xs := xs.map V.int) (fun i σ H' => Same H H' ∧ ∃ (l : Int) (y : Option V), (l = 0 ∨ ∃ j z, j < i ∧ xs[j]? = some z ∧ l = z + 1) ∧ σ = [some (.ref a), some (.int n), some (.int l), y]) ⟨st, 0, Option.none, .inl rfl, rfl⟩ (fun i σ H' _ z => SqL.of (z.1 _ _ ea)) ?_ ?_⟩
  · rintro i x σ H' hx ⟨sm, l, y, hl, rfl⟩
    obtain ⟨z, hz, rfl⟩ := map_at hx
    obtain ⟨h1, h2⟩ := asc_step ha hz l hl
    refine ⟨_, rfl, _, rfl, true, rfl, iteF ?_⟩
    refine ⟨_, rfl, _, rfl, _, _, rfl, rfl, _, rfl, ?_⟩
    rw [if_pos (decide_eq_true h1)]
    refine ⟨_, rfl, _, _, rfl, rfl, true, congrArg V.bl (decide_eq_true h2), iteF ?_⟩
    refine ⟨_, rfl, _, _, rfl, rfl, ?_⟩
    exact ⟨sm, z + 1, _, .inr ⟨i, z, Nat.lt_succ_self _, hz, rfl⟩, rfl⟩
  · rintro σ H' ⟨sm, l, y, hl, rfl⟩
    refine ⟨_, rfl, a, _, rfl, .inl (SqL.of (sm _ _ ea)), _, _, rfl, rfl, ?_⟩
    have e : decide ((0 : Int) < (((xs.map V.int).length : Nat) : Int)) = true := decide_eq_true (by
      rw [List.length_map]
      have := List.length_pos_iff.mpr ha.2.2.1
      omega)
    show Q (.bl (decide ((0 : Int) < (((xs.map V.int).length : Nat) : Int)))) H'
    rw [e]
    exact q H' sm
/-! ### as_tuples: of an int, of a list of ints, of a list of such lists -/
def spAs0 : Sp := fun vs H Q _ => ∃ i : Int, vs = [.int i] ∧ ∀ H', Same H H' → Q (.int i) H'
def spAs1 : Sp := fun vs H Q _ => ∃ (a : Addr) (xs : List Int), vs = [.ref a] ∧ H a = some (.lst (xs.map V.int)) ∧ xs.length ≤ 1000 ∧ ∀ p H', Same H H' → H p = none → H' p = some (.tup (xs.map V.int)) → Q (.ref p) H'
def spAs2 : Sp := fun vs H Q _ => ∃ (a : Addr) (rs : List Addr) (xss : List (List Int)), vs = [.ref a] ∧ H a = some (.lst (rs.map V.ref)) ∧ Paired (fun r xs => H r = some (.lst (xs.map V.int))) rs xss ∧ rs.length ≤ 1000 ∧ (∀ xs ∈ xss, xs.length ≤ 1000) ∧
  ∀ p ts H', Same H H' → H p = none → H' p = some (.tup (ts.map V.ref)) → Paired (fun t xs => H' t = some (.tup (xs.map V.int))) ts xss → Q (.ref p) H'
theorem ok_as0 {f : Addr} {fd : FuncData} (F : Fun K "as_tuples" "as_tuples" s_as_tuples f fd) (bA : Binds K fd ["value"] []) (mA : mg "as_tuples" = some (.ref f)) : FnOk P w K mg base CX0 1 f fd ["value"] spAs0 := by
  refine F.ok sc_as_tuples (fun vs H Q E h => ?_) (fun cdv A outer s H vs Q E hr h => ?_)
  · obtain ⟨i, rfl, _⟩ := h
    rfl
  obtain ⟨i, rfl, q⟩ := h
  have Gas_tuples : Kn P w K mg base 0 "as_tuples" ["value"] (fun _ _ _ _ => False) := ⟨f, fd, neverOk fun _ _ _ _ h => h, bA, F.kp, mA⟩
  have nd := sc_as_tuples.nd
  refine ⟨_, pss_cons (ps_if (pt_val (pe_callB call_isiT (by rfl) M.isinstance boot_isinstance (pa_cons (pv 0) (pa_cons (pe_tup (pa_cons (pe_bltn (v := .ty "list") (by rfl) M.list PyProof.Rows.boot_list rfl) (pa_cons (pe_bltn (v := .ty "tuple") (by rfl) M.tuple PyProof.Rows.boot_tuple rfl) pa_nil))) pa_nil)))) (pss_one (ps_ret (pe_tupleOf (by rfl) M.tuple (pe_lc (own := [("item", 1)]) (g := gName 1) (tt := tYes) rfl nd (pi_list (pv 0)) (blkOk_by (N := n_as_tuples) (sc := defScope s_as_tuples) (by decide +kernel)) (fun _ _ _ _ _ => pg_name (i := 1) nd rfl (Or.inl rfl)) (fun _ _ _ _ _ => pts_nil) (fun _ _ _ _ _ => (pe_call Gas_tuples.ok (hr.mono (by decide)) (by rfl) Gas_tuples.m Gas_tuples.kp Gas_tuples.b .nil pass0 (pa_cons (pv 1) pa_nil))))))) pss_nil)
    (pss_one (ps_ret (pv 0))), ?_⟩
  refine ⟨_, rfl, le_line (n := 2) (by decide), fun t ht => ?_⟩
  refine ⟨_, t, _, _, _, false, rfl, upd_same, .cons (.ty "list") (.cons (.ty "tuple") .nil), .base (.int i), kitAny_cons (b := false) (kit_ty (by decide +kernel)) (fun _ => kitAny_cons (b := false) (kit_ty (by decide +kernel)) (fun _ => kitAny_nil) (fun z => nomatch z)) (fun z => nomatch z), false, rfl, iteF ?_⟩
  exact ⟨_, rfl, q _ (same_new ht _)⟩
theorem ok_as1 {f : Addr} {fd : FuncData} (F : Fun K "as_tuples" "as_tuples" s_as_tuples f fd) (Gas_tuples : Kn P w K mg base 1 "as_tuples" ["value"] spAs0) : FnOk P w K mg base CX0 2 f fd ["value"] spAs1 := by
  refine F.ok sc_as_tuples (fun vs H Q E h => ?_) (fun cdv A outer s H vs Q E hr h => ?_)
  · obtain ⟨a, xs, rfl, _⟩ := h
    rfl
  obtain ⟨a, xs, rfl, ea, hl, q⟩ := h
  have nd := sc_as_tuples.nd
  refine ⟨_, pss_cons (ps_if (pt_val (pe_callB call_isiT (by rfl) M.isinstance boot_isinstance (pa_cons (pv 0) (pa_cons (pe_tup (pa_cons (pe_bltn (v := .ty "list") (by rfl) M.list PyProof.Rows.boot_list rfl) (pa_cons (pe_bltn (v := .ty "tuple") (by rfl) M.tuple PyProof.Rows.boot_tuple rfl) pa_nil))) pa_nil)))) (pss_one (ps_ret (pe_tupleOf (by rfl) M.tuple (pe_lc (own := [("item", 1)]) (g := gName 1) (tt := tYes) rfl nd (pi_list (pv 0)) (blkOk_by (N := n_as_tuples) (sc := defScope s_as_tuples) (by decide +kernel)) (fun _ _ _ _ _ => pg_name (i := 1) nd rfl (Or.inl rfl)) (fun _ _ _ _ _ => pts_nil) (fun _ _ _ _ _ => (pe_call Gas_tuples.ok (hr.mono (by decide)) (by rfl) Gas_tuples.m Gas_tuples.kp Gas_tuples.b .nil pass0 (pa_cons (pv 1) pa_nil))))))) pss_nil)
    (pss_one (ps_ret (pv 0))), ?_⟩
  refine ⟨_, rfl, le_line (n := 2) (by decide), fun t ht => ?_⟩
  have st := same_new ht (.tup [.ty "list", .ty "tuple"])
  refine ⟨_, t, _, _, _, true, rfl, upd_same, .cons (.ty "list") (.cons (.ty "tuple") .nil), .base (.lst (st _ _ ea)), kitAny_cons (b := true) (kit_ty (by decide +kernel)) (fun z => nomatch z) (fun _ => rfl), true, rfl, iteT ?_⟩
  refine ⟨_, rfl, a, rfl, ⟨_, SqL.of (st _ _ ea)⟩, fun D hD => ?_⟩
  refine lc_list (xs := xs.map V.int) (fun i H' => Same H H' ∧ H' D = some (.lst ((xs.take i).map V.int))) ⟨st.trans (same_new hD _), upd_same⟩ (fun i H' _ z => SqL.of (z.1 _ _ ea)) ?_ ?_
  · rintro i x H1 hx ⟨sm, eD⟩
    obtain ⟨z, hz, rfl⟩ := map_at hx
    refine ⟨rfl, tYI ?_⟩
    refine ⟨_, rfl, z, rfl, fun H2 s2 => ⟨_, s2 _ _ eD, ?_, same_upd (sm.trans s2) (st.free hD) _, ?_⟩⟩
    · rw [List.length_map]; exact lt_line (Nat.le_trans (List.length_take_le' _ _) hl)
    · rw [upd_same, tk1 hz, List.map_append]; rfl
  · rintro H1 ⟨sm, eD⟩
    rw [List.length_map, List.take_length] at eD
    refine .inl ⟨D, _, rfl, SqL.of eD, fun u hu => ?_⟩
    exact q u _ (sm.trans (same_new hu _)) (sm.free hu) upd_same
theorem ok_as2 {f : Addr} {fd : FuncData} (F : Fun K "as_tuples" "as_tuples" s_as_tuples f fd) (Gas_tuples : Kn P w K mg base 2 "as_tuples" ["value"] spAs1) : FnOk P w K mg base CX0 3 f fd ["value"] spAs2 := by
  refine F.ok sc_as_tuples (fun vs H Q E h => ?_) (fun cdv A outer s H vs Q E hr h => ?_)
  · obtain ⟨a, rs, xss, rfl, _⟩ := h
    rfl
  obtain ⟨a, rs, xss, rfl, ea, pr, hl, hls, q⟩ := h
  have nd := sc_as_tuples.nd
  refine ⟨_, pss_cons (ps_if (pt_val (pe_callB call_isiT (by rfl) M.isinstance boot_isinstance (pa_cons (pv 0) (pa_cons (pe_tup (pa_cons (pe_bltn (v := .ty "list") (by rfl) M.list PyProof.Rows.boot_list rfl) (pa_cons (pe_bltn (v := .ty "tuple") (by rfl) M.tuple PyProof.Rows.boot_tuple rfl) pa_nil))) pa_nil)))) (pss_one (ps_ret (pe_tupleOf (by rfl) M.tuple (pe_lc (own := [("item", 1)]) (g := gName 1) (tt := tYes) rfl nd (pi_list (pv 0)) (blkOk_by (N := n_as_tuples) (sc := defScope s_as_tuples) (by decide +kernel)) (fun _ _ _ _ _ => pg_name (i := 1) nd rfl (Or.inl rfl)) (fun _ _ _ _ _ => pts_nil) (fun _ _ _ _ _ => (pe_call Gas_tuples.ok (hr.mono (by decide)) (by rfl) Gas_tuples.m Gas_tuples.kp Gas_tuples.b .nil pass0 (pa_cons (pv 1) pa_nil))))))) pss_nil)
    (pss_one (ps_ret (pv 0))), ?_⟩
  refine ⟨_, rfl, le_line (n := 2) (by decide), fun t ht => ?_⟩
  have st := same_new ht (.tup [.ty "list", .ty "tuple"])
  refine ⟨_, t, _, _, _, true, rfl, upd_same, .cons (.ty "list") (.cons (.ty "tuple") .nil), .base (.lst (st _ _ ea)), kitAny_cons (b := true) (kit_ty (by decide +kernel)) (fun z => nomatch z) (fun _ => rfl), true, rfl, iteT ?_⟩
  refine ⟨_, rfl, a, rfl, ⟨_, SqL.of (st _ _ ea)⟩, fun D hD => ?_⟩
  refine lc_list (xs := rs.map V.ref) (fun i H' => Same H H' ∧ ∃ ts : List Addr, H' D = some (.lst (ts.map V.ref)) ∧ Paired (fun t xs => t ≠ D ∧ H' t = some (.tup (xs.map V.int))) ts (xss.take i)) ⟨st.trans (same_new hD _), [], upd_same, .nil⟩ (fun i H' _ z => SqL.of (z.1 _ _ ea)) ?_ ?_
  · rintro i x H1 hx ⟨sm, ts, eD, pt⟩
    obtain ⟨r, hr', rfl⟩ := map_atV hx
    obtain ⟨xs, hxs, er⟩ := pr_get pr hr'
    have li := lt_of_at hxs
    have lt : ts.length = i := by rw [pt.length, List.length_take, Nat.min_eq_left (Nat.le_of_lt li)]
    refine ⟨rfl, tYI ?_⟩
    refine ⟨_, rfl, r, xs, rfl, sm _ _ er, hls xs (List.mem_of_getElem? hxs), fun p H2 s2 hp e2 => ⟨_, s2 _ _ eD, ?_, same_upd (sm.trans s2) (st.free hD) _, ts ++ [p], ?_, ?_⟩⟩
    · rw [List.length_map, lt]; exact lt_line (by have := lt_of_at hr'; omega)
    · rw [upd_same, List.map_append]; rfl
    · have hpD : p ≠ D := fun z => by rw [z, eD] at hp; cases hp
      rw [tk1 hxs]
      exact (L2.Paired.mapP pt fun b ys z => ⟨z.1, by rw [upd_ne z.1]; exact s2 _ _ z.2⟩).snoc ⟨hpD, by rw [upd_ne hpD]; exact e2⟩
  · rintro H1 ⟨sm, ts, eD, pt⟩
    rw [List.length_map, pr.length, List.take_length] at pt
    refine .inl ⟨D, _, rfl, SqL.of eD, fun u hu => ?_⟩
    have su := same_new hu (.tup (ts.map V.ref))
    exact q u ts _ (sm.trans su) (sm.free hu) upd_same (L2.Paired.mapP pt fun b ys z => su _ _ z.2)
end
end GM
set_option Elab.async false
set_option linter.all false
set_option maxRecDepth 100000
set_option maxHeartbeats 4000000
set_option pp.maxSteps 150
set_option pp.deepTerms false
namespace GM
open PySem PySem.Spec PyProof.Rows L2
/-! ### games -/
/-- what the walk asks of the class Game as the top has made it -/
structure GTxt (K : PySem.W.Frag) (mg : Str → Option Value) (C : Addr) : Prop where
  cl : Cls K C
  nO : NoAttr K C "owners"
  nP : NoAttr K C "priorities"
  nS : NoAttr K C "successors"
  nT : NoAttr K C "top"
  nH : NoAttr K C "height"
  nC : NoAttr K C "ceiling"
  mgC : mg "Game" = some (.ref C)
  gp : ∃ t, mg "GREATEST_PRIORITY" = some (.int 30 t)
def fl1 (a : Addr) : List (Str × V) := putF "owners" (.ref a) []
def fl2 (a b : Addr) : List (Str × V) := putF "priorities" (.ref b) (fl1 a)
def fl3 (a b c : Addr) : List (Str × V) := putF "successors" (.ref c) (fl2 a b)
def fl4 (a b c : Addr) (m : Int) : List (Str × V) := putF "top" (.int m) (fl3 a b c)
def fl5 (a b c : Addr) (m : Int) : List (Str × V) := putF "height" (.int ((m + 1) / 2)) (fl4 a b c m)
def flds (a b c : Addr) (m : Int) : List (Str × V) := putF "ceiling" (.int (m + 2 - m % 2)) (fl5 a b c m)
theorem putF_len (f : Str) (v : V) : ∀ l : List (Str × V), (putF f v l).length ≤ l.length + 1
  | [] => Nat.le_refl _
  | (g, x) :: r => by
    show (if g = f then (g, v) :: r else (g, x) :: putF f v r).length ≤ _
    by_cases h : g = f
    · rw [if_pos h]; exact Nat.le_succ _
    · rw [if_neg h]; exact Nat.succ_le_succ (putF_len f v r)
theorem fl1_len (a : Addr) : (fl1 a).length ≤ 1 := putF_len _ _ _
theorem fl2_len (a b : Addr) : (fl2 a b).length ≤ 2 := Nat.le_trans (putF_len _ _ _) (Nat.succ_le_succ (fl1_len a))
theorem fl3_len (a b c : Addr) : (fl3 a b c).length ≤ 3 := Nat.le_trans (putF_len _ _ _) (Nat.succ_le_succ (fl2_len a b))
theorem fl4_len (a b c : Addr) (m : Int) : (fl4 a b c m).length ≤ 4 := Nat.le_trans (putF_len _ _ _) (Nat.succ_le_succ (fl3_len a b c))
theorem fl5_len (a b c : Addr) (m : Int) : (fl5 a b c m).length ≤ 5 := Nat.le_trans (putF_len _ _ _) (Nat.succ_le_succ (fl4_len a b c m))
theorem fl3_pri (a b c : Addr) : (fl3 a b c).lookup ("priorities" : Str) = some (.ref b) := by
  unfold fl3 fl2
  rw [lookup_putF, if_neg (by decide +kernel), lookup_putF, if_pos rfl]
theorem fl4_top (a b c : Addr) (m : Int) : (fl4 a b c m).lookup ("top" : Str) = some (.int m) := by
  unfold fl4
  rw [lookup_putF, if_pos rfl]
theorem fl5_top (a b c : Addr) (m : Int) : (fl5 a b c m).lookup ("top" : Str) = some (.int m) := by
  unfold fl5
  rw [lookup_putF, if_neg (by decide +kernel), fl4_top]
theorem fld_own (a b c : Addr) (m : Int) : (flds a b c m).lookup ("owners" : Str) = some (.ref a) := by
  unfold flds fl5 fl4 fl3 fl2 fl1
  rw [lookup_putF, if_neg (by decide +kernel), lookup_putF, if_neg (by decide +kernel), lookup_putF, if_neg (by decide +kernel), lookup_putF, if_neg (by decide +kernel), lookup_putF, if_neg (by decide +kernel), lookup_putF, if_pos rfl]
theorem fld_pri (a b c : Addr) (m : Int) : (flds a b c m).lookup ("priorities" : Str) = some (.ref b) := by
  unfold flds fl5 fl4
  rw [lookup_putF, if_neg (by decide +kernel), lookup_putF, if_neg (by decide +kernel), lookup_putF, if_neg (by decide +kernel), fl3_pri]
theorem fld_suc (a b c : Addr) (m : Int) : (flds a b c m).lookup ("successors" : Str) = some (.ref c) := by
  unfold flds fl5 fl4 fl3
  rw [lookup_putF, if_neg (by decide +kernel), lookup_putF, if_neg (by decide +kernel), lookup_putF, if_neg (by decide +kernel), lookup_putF, if_pos rfl]
theorem fld_top (a b c : Addr) (m : Int) : (flds a b c m).lookup ("top" : Str) = some (.int m) := by
  unfold flds
  rw [lookup_putF, if_neg (by decide +kernel), fl5_top]
theorem fld_hei (a b c : Addr) (m : Int) : (flds a b c m).lookup ("height" : Str) = some (.int ((m + 1) / 2)) := by
  unfold flds fl5
  rw [lookup_putF, if_neg (by decide +kernel), lookup_putF, if_pos rfl]
theorem fld_cei (a b c : Addr) (m : Int) : (flds a b c m).lookup ("ceiling" : Str) = some (.int (m + 2 - m % 2)) := by
  unfold flds
  rw [lookup_putF, if_pos rfl]
theorem fld_no (a b c : Addr) (m : Int) {g : Str} (h1 : ¬ g = "ceiling") (h2 : ¬ g = "height") (h3 : ¬ g = "top") (h4 : ¬ g = "successors") (h5 : ¬ g = "priorities") (h6 : ¬ g = "owners") : (flds a b c m).lookup g = none := by
  unfold flds fl5 fl4 fl3 fl2 fl1
  rw [lookup_putF, if_neg h1, lookup_putF, if_neg h2, lookup_putF, if_neg h3, lookup_putF, if_neg h4, lookup_putF, if_neg h5, lookup_putF, if_neg h6]
  rfl
/-- the greatest of these, 0 if there is none -/
def IsTop (m : Int) (ps : List Int) : Prop := (ps = [] ∧ m = 0) ∨ (m ∈ ps ∧ ∀ y ∈ ps, y ≤ m)
/-- a game stands at p -/
structure GameAt (C : Addr) (H : Hp) (p : Addr) (os ps : List Int) (rows : List (List Int)) (dx a b c : Addr) (ts : List Addr) (m : Int) : Prop where
  ob : H p = some (.ins C dx (flds a b c m))
  oa : H a = some (.tup (os.map V.int))
  ob2 : H b = some (.tup (ps.map V.int))
  oc : H c = some (.tup (ts.map V.ref))
  or : Paired (fun t xs => H t = some (.tup (xs.map V.int))) ts rows
  top : IsTop m ps
theorem GameAt.same {C : Addr} {H H' : Hp} {p : Addr} {os ps : List Int} {rows : List (List Int)} {dx a b c : Addr} {ts : List Addr} {m : Int} (g : GameAt C H p os ps rows dx a b c ts m) (s : Same H H') : GameAt C H' p os ps rows dx a b c ts m :=
  ⟨s _ _ g.ob, s _ _ g.oa, s _ _ g.ob2, s _ _ g.oc, L2.Paired.mapP g.or fun _ _ e => s _ _ e, g.top⟩
/-- what makes a game -/
structure Valid (os ps : List Int) (rows : List (List Int)) : Prop where
  l1 : ps.length = os.length
  l2 : rows.length = os.length
  n : os.length ≤ 1000
  o : ∀ x ∈ os, 0 ≤ x ∧ x ≤ 1
  p : ∀ x ∈ ps, 0 ≤ x ∧ x ≤ 30
  r : ∀ x ∈ rows, Asc (os.length : Nat) x
/-- all but the object at p is kept -/
def Kp (H H' : Hp) (p : Addr) : Prop := ∀ q o, H q = some o → q ≠ p → H' q = some o
theorem Kp.new {H H' : Hp} {p x : Addr} (k : Kp H H' p) (h : H' x = none) (o : HO) : Kp H (upd H' x o) p := fun q u e n => by
  have := k q u e n
  rw [upd_ne (ne_of_none this h)]; exact this
theorem Kp.upd {H H' : Hp} {p : Addr} (k : Kp H H' p) (o : HO) : Kp H (upd H' p o) p := fun q u e n => by
  rw [upd_ne n]; exact k q u e n
theorem Kp.same {H H' H2 : Hp} {p : Addr} (k : Kp H H' p) (s : Same H' H2) : Kp H H2 p := fun q u e n => s _ _ (k q u e n)
theorem pr_kp {H H' : Hp} {p C dx : Addr} {fs : List (Str × V)} {rs : List Addr} {rows : List (List Int)} (er : Paired (fun r xs => H r = some (.lst (xs.map V.int))) rs rows) (k : Kp H H' p) (hp : H p = some (.ins C dx fs)) :
    Paired (fun r xs => H' r = some (.lst (xs.map V.int))) rs rows := L2.Paired.mapP er fun r xs e => k _ _ e (ne_of e hp (fun z => nomatch z))
def spInit (C : Addr) : Sp := fun vs H Q _ => ∃ (p dx a b c : Addr) (os ps : List Int) (rs : List Addr) (rows : List (List Int)), vs = [.ref p, .ref a, .ref b, .ref c] ∧ H p = some (.ins C dx []) ∧ H a = some (.lst (os.map V.int)) ∧ H b = some (.lst (ps.map V.int)) ∧ H c = some (.lst (rs.map V.ref)) ∧
  Paired (fun r xs => H r = some (.lst (xs.map V.int))) rs rows ∧ Valid os ps rows ∧
  ∀ H' a' b' c' ts m, GameAt C H' p os ps rows dx a' b' c' ts m → (∀ q o, H q = some o → q ≠ p → H' q = some o) → Q .non H'
section
variable {P : Program} {w : World} {K : PySem.W.Frag} {mg : Str → Option Value} {base : Heap} {C : Addr} (M : Blt mg) (T : GTxt K mg C)
include M T
theorem ok_init {f : Addr} {fd : FuncData} (F : Fun K "__init__" "Game.__init__" s_Game___init__ f fd) (Gis_number_to : Kn P w K mg base 2 "is_number_to" ["value", "most"] spNumTo) (Gare_successors : Kn P w K mg base 2 "are_successors" ["value", "count"] spSucc)
    (Gas_tuples : Kn P w K mg base 3 "as_tuples" ["value"] spAs2) :
    FnOk P w K mg base CX0 4 f fd ["self", "owners", "priorities", "successors"] (spInit C) := by
  refine F.ok sc_Game___init__ (fun vs H Q E h => ?_) (fun cdv A outer s H vs Q E hr h => ?_)
  · obtain ⟨p, dx, a, b, c, os, ps, rs, rows, rfl, _⟩ := h
    rfl
  obtain ⟨p, dx, a, b, c, os, ps, rs, rows, rfl, hp, ea, eb, ec, er, V0, q⟩ := h
  obtain ⟨tg, egp⟩ := T.gp
  have hu := hr.units
  have nd := sc_Game___init__.nd
  refine ⟨_, pss_cons (ps_for PassesOwn.never rfl (pi_range1 rfl M.range (pa_cons (pe_callB call_len_seq (by rfl) M.len PySem.boot_len (pa_cons (pv 1) pa_nil)) pa_nil)) (pg_name (i := 4) nd rfl (.inl rfl)) (pss_one (ps_if (pt_not (PW.pt (pw_and (pt_val (pe_call Gis_number_to.ok (hr.mono (by decide)) (by rfl) Gis_number_to.m Gis_number_to.kp Gis_number_to.b .nil pass0 (pa_cons (pe_ix ix_list (pv 1) (pv 4) (fun _ _ => rfl)) (pa_cons pe_int pa_nil)))) (pw_and (pt_val (pe_call Gis_number_to.ok (hr.mono (by decide)) (by rfl) Gis_number_to.m Gis_number_to.kp Gis_number_to.b .nil pass0 (pa_cons (pe_ix ix_list (pv 2) (pv 4) (fun _ _ => rfl)) (pa_cons (pe_glob (v := .int 30) (by rfl) egp ⟨_, rfl⟩) pa_nil)))) (pw_and1 (pt_val (pe_call Gare_successors.ok (hr.mono (by decide)) (by rfl) Gare_successors.m Gare_successors.kp Gare_successors.b .nil pass0 (pa_cons (pe_ix ix_list (pv 3) (pv 4) (fun _ _ => rfl)) (pa_cons (pe_callB call_len_seq (by rfl) M.len PySem.boot_len (pa_cons (pv 1) pa_nil)) pa_nil))))))))) (pss_one ps_never) pss_nil)))
    (pss_cons (ps_fld (pv 0) (pe_tupleOf (by rfl) M.tuple (pv 1)) rfl)
    (pss_cons (ps_fld (pv 0) (pe_tupleOf (by rfl) M.tuple (pv 2)) rfl)
    (pss_cons (ps_fld (pv 0) (pe_call Gas_tuples.ok (hr.mono (by decide)) (by rfl) Gas_tuples.m Gas_tuples.kp Gas_tuples.b .nil pass0 (pa_cons (pv 3) pa_nil)) rfl)
    (pss_cons (ps_fld (pv 0) (pe_callBK (cr_maxDef rfl (Nat.lt_of_le_of_lt (Nat.add_le_add_left (by decide) _) hu)) (by rfl) M.max (by decide +kernel) (pa_cons (pe_fld (pv 0) rfl) pa_nil) (pk_cons pe_int pk_nil)) rfl)
    (pss_cons (ps_fld (pv 0) (pe_op op_fdiv (pe_op op_add (pe_fld (pv 0) rfl) pe_int) pe_int) rfl)
    (pss_one (ps_fld (pv 0) (pe_op op_sub (pe_op op_add (pe_fld (pv 0) rfl) pe_int) (pe_op op_mod (pe_fld (pv 0) rfl) pe_int)) rfl))))))), ?_⟩
  have n1 := V0.n
  refine ⟨_, rfl, a, _, rfl, .inl (SqL.of ea), _, rfl, (by rw [List.length_map]; omega), (by rw [List.length_map]; omega), ?_⟩
  have hn : (((os.map V.int).length : Nat) : Int).toNat = os.length := by rw [List.length_map]; rfl
  rw [hn]
  refine for_range (n := os.length) (fun i σ H' => Same H H' ∧ ∃ y : Option V, σ = [some (.ref p), some (.ref a), some (.ref b), some (.ref c), y]) ⟨fun _ _ e => e, Option.none, rfl⟩ ?_ ?_
  · rintro i σ H' hi ⟨sm, y, rfl⟩
    have eo : os[i]? = some os[i] := List.getElem?_eq_getElem hi
    have hip : i < ps.length := by rw [V0.l1]; exact hi
    have hir : i < rows.length := by rw [V0.l2]; exact hi
    have ep : ps[i]? = some ps[i] := List.getElem?_eq_getElem hip
    have erw : rows[i]? = some rows[i] := List.getElem?_eq_getElem hir
    obtain ⟨r, hr', ex⟩ := pr_getR er erw
    have b1 := V0.o _ (List.getElem_mem hi)
    have b2 := V0.p _ (List.getElem_mem hip)
    have b3 := V0.r _ (List.getElem_mem hir)
    refine ⟨_, rfl, _, rfl, a, _, _, _, rfl, rfl, SqL.of (sm _ _ ea), (by rw [Int.zero_add]; exact atI_nat (at_map eo)), os[i], 1, rfl, b1.1, b1.2, true, rfl, iteT ?_⟩
    refine ⟨_, rfl, _, rfl, b, _, _, _, rfl, rfl, SqL.of (sm _ _ eb), (by rw [Int.zero_add]; exact atI_nat (at_map ep)), ps[i], 30, rfl, b2.1, b2.2, true, rfl, iteT ?_⟩
    refine ⟨_, rfl, _, rfl, c, _, _, _, rfl, rfl, SqL.of (sm _ _ ec), (by rw [Int.zero_add]; exact atI_nat (at_map hr')), _, rfl, a, _, rfl, .inl (SqL.of (sm _ _ ea)), r, rows[i], _, rfl, sm _ _ ex, (by rw [List.length_map]; exact b3), fun H2 s2 => ⟨true, rfl, iteF ?_⟩⟩
    exact ⟨sm.trans s2, _, rfl⟩
  · rintro σ H0 ⟨sm0, y, rfl⟩
    have hp0 := sm0 _ _ hp
    have kp0 : Kp H H0 p := fun q o e _ => sm0 _ _ e
    have npa : ∀ {x : Addr} {l : List V}, H x = some (.lst l) → x ≠ p := fun e => ne_of e hp (fun z => nomatch z)
    refine ⟨_, rfl, .inl ⟨a, _, rfl, SqL.of (kp0 _ _ ea (npa ea)), fun a' ha' => ?_⟩⟩
    have s1 := same_new ha' (.tup (os.map V.int))
    refine ⟨_, rfl, p, C, dx, _, rfl, s1 _ _ hp0, T.cl, T.nO, by decide, ?_⟩
    have pa : a' ≠ p := (ne_of_none hp0 ha').symm
    have kp1 : Kp H (upd (upd H0 a' (.tup (os.map V.int))) p (.ins C dx (fl1 a'))) p := (kp0.new ha' _).upd _
    have ga1 : (upd (upd H0 a' (.tup (os.map V.int))) p (.ins C dx (fl1 a'))) a' = some (.tup (os.map V.int)) := by rw [upd_ne pa, upd_same]
    have gp1 : (upd (upd H0 a' (.tup (os.map V.int))) p (.ins C dx (fl1 a'))) p = some (.ins C dx (fl1 a')) := upd_same
    show tSeq _ _ _ [some (.ref p), some (.ref a), some (.ref b), some (.ref c), y] (upd (upd H0 a' (.tup (os.map V.int))) p (.ins C dx (fl1 a')))
    generalize (upd (upd H0 a' (.tup (os.map V.int))) p (.ins C dx (fl1 a'))) = G1 at kp1 ga1 gp1 ⊢
    refine ⟨_, rfl, .inl ⟨b, _, rfl, SqL.of (kp1 _ _ eb (npa eb)), fun b' hb' => ?_⟩⟩
    have s2 := same_new hb' (.tup (ps.map V.int))
    refine ⟨_, rfl, p, C, dx, _, rfl, s2 _ _ gp1, T.cl, T.nP, Nat.lt_of_le_of_lt (fl1_len a') (by decide), ?_⟩
    have pb : b' ≠ p := (ne_of_none gp1 hb').symm
    have kp2 : Kp H (upd (upd G1 b' (.tup (ps.map V.int))) p (.ins C dx (fl2 a' b'))) p := (kp1.new hb' _).upd _
    have ga2 : (upd (upd G1 b' (.tup (ps.map V.int))) p (.ins C dx (fl2 a' b'))) a' = some (.tup (os.map V.int)) := by rw [upd_ne pa]; exact s2 _ _ ga1
    have gb2 : (upd (upd G1 b' (.tup (ps.map V.int))) p (.ins C dx (fl2 a' b'))) b' = some (.tup (ps.map V.int)) := by rw [upd_ne pb, upd_same]
    have gp2 : (upd (upd G1 b' (.tup (ps.map V.int))) p (.ins C dx (fl2 a' b'))) p = some (.ins C dx (fl2 a' b')) := upd_same
    show tSeq _ _ _ [some (.ref p), some (.ref a), some (.ref b), some (.ref c), y] (upd (upd G1 b' (.tup (ps.map V.int))) p (.ins C dx (fl2 a' b')))
    generalize (upd (upd G1 b' (.tup (ps.map V.int))) p (.ins C dx (fl2 a' b'))) = G2 at kp2 ga2 gb2 gp2 ⊢
    refine ⟨_, rfl, c, rs, rows, rfl, kp2 _ _ ec (npa ec), pr_kp er kp2 hp, ?_, fun xs hx => (V0.r xs hx).2.2.2, fun c' ts G3 s3 hc' gc3 gr3 => ?_⟩
    · rw [er.length, V0.l2]; exact V0.n
    refine ⟨_, rfl, p, C, dx, _, rfl, s3 _ _ gp2, T.cl, T.nS, Nat.lt_of_le_of_lt (fl2_len a' b') (by decide), ?_⟩
    have pc : c' ≠ p := (ne_of_none gp2 hc').symm
    have pt : ∀ {x : Addr} {l : List V}, G3 x = some (.tup l) → x ≠ p := fun e => ne_of e (s3 _ _ gp2) (fun z => nomatch z)
    have kp4 : Kp H (upd G3 p (.ins C dx (fl3 a' b' c'))) p := (kp2.same s3).upd _
    have ga4 : (upd G3 p (.ins C dx (fl3 a' b' c'))) a' = some (.tup (os.map V.int)) := by rw [upd_ne pa]; exact s3 _ _ ga2
    have gb4 : (upd G3 p (.ins C dx (fl3 a' b' c'))) b' = some (.tup (ps.map V.int)) := by rw [upd_ne pb]; exact s3 _ _ gb2
    have gc4 : (upd G3 p (.ins C dx (fl3 a' b' c'))) c' = some (.tup (ts.map V.ref)) := by rw [upd_ne pc]; exact gc3
    have gr4 : Paired (fun t xs => (upd G3 p (.ins C dx (fl3 a' b' c'))) t = some (.tup (xs.map V.int))) ts rows := L2.Paired.mapP gr3 fun t xs e => by rw [upd_ne (pt e)]; exact e
    have gp4 : (upd G3 p (.ins C dx (fl3 a' b' c'))) p = some (.ins C dx (fl3 a' b' c')) := upd_same
    show tSeq _ _ _ [some (.ref p), some (.ref a), some (.ref b), some (.ref c), y] (upd G3 p (.ins C dx (fl3 a' b' c')))
    generalize (upd G3 p (.ins C dx (fl3 a' b' c'))) = G4 at kp4 ga4 gb4 gc4 gr4 gp4 ⊢
    -- top
    have fin : ∀ m : Int, IsTop m ps → ∀ (D : Ends), D = { nx := fun x H' => Q V.non H', rt := Q } → sFld K (tVar 0) (tC (.int m)) "top" { D with nx := tSeq (sFld K (tVar 0) (tOp (rI CDiv fun i j => .int (i / j)) (tOp (rI0 fun i j => .int (i + j)) (tFld K (tVar 0) "top") (tC (.int 1))) (tC (.int 2))) "height") (sFld K (tVar 0) (tOp (rI0 fun i j => .int (i - j)) (tOp (rI0 fun i j => .int (i + j)) (tFld K (tVar 0) "top") (tC (.int 2))) (tOp (rI (fun _ j => 0 < j) fun i j => .int (i % j)) (tFld K (tVar 0) "top") (tC (.int 2)))) "ceiling") D } [some (.ref p), some (.ref a), some (.ref b), some (.ref c), y] G4 := by
      rintro m hm D rfl
      refine ⟨_, rfl, p, C, dx, _, rfl, gp4, T.cl, T.nT, Nat.lt_of_le_of_lt (fl3_len a' b' c') (by decide), ?_⟩
      refine ⟨_, rfl, p, C, dx, _, _, rfl, upd_same, T.cl, T.nT, fl4_top a' b' c' m, _, _, rfl, rfl, _, _, rfl, rfl, ⟨by decide, by decide⟩, _, rfl, p, C, dx, _, rfl, upd_same, T.cl, T.nH, Nat.lt_of_le_of_lt (fl4_len a' b' c' m) (by decide), ?_⟩
      refine ⟨_, rfl, p, C, dx, _, _, rfl, upd_same, T.cl, T.nT, fl5_top a' b' c' m, _, _, rfl, rfl, _, rfl, p, C, dx, _, _, rfl, upd_same, T.cl, T.nT, fl5_top a' b' c' m, _, _, rfl, rfl, (by show (0 : Int) < 2; decide), _, _, rfl, rfl, _, rfl, p, C, dx, _, rfl, upd_same, T.cl, T.nC, Nat.lt_of_le_of_lt (fl5_len a' b' c' m) (by decide), ?_⟩
      have pt4 : ∀ {x : Addr} {l : List V}, G4 x = some (.tup l) → x ≠ p := fun e => ne_of e gp4 (fun z => nomatch z)
      refine q _ a' b' c' ts m ⟨upd_same, ?_, ?_, ?_, ?_, hm⟩ (((kp4.upd _).upd _).upd _)
      · rw [upd_ne pa, upd_ne pa, upd_ne pa]; exact ga4
      · rw [upd_ne pb, upd_ne pb, upd_ne pb]; exact gb4
      · rw [upd_ne pc, upd_ne pc, upd_ne pc]; exact gc4
      · exact L2.Paired.mapP gr4 fun t xs e => by rw [upd_ne (pt4 e), upd_ne (pt4 e), upd_ne (pt4 e)]; exact e
    refine ⟨_, rfl, p, C, dx, _, _, rfl, gp4, T.cl, T.nP, fl3_pri a' b' c', b', ps, 0, rfl, rfl, sqT gb4, fun e => ?_, fun m h1 h2 => ?_⟩
    · exact fin 0 (.inl ⟨e, rfl⟩) _ rfl
    · exact fin m (.inr ⟨h1, h2⟩) _ rfl
end
end GM
set_option Elab.async false
set_option linter.all false
set_option maxRecDepth 100000
set_option maxHeartbeats 4000000
set_option pp.maxSteps 150
set_option pp.deepTerms false
namespace GM
open PySem PySem.Spec PyProof.Rows L2
/-! ### _law_graph -/
theorem Dg.all : ∀ {ds ss : List Int}, Dg ds ss → ∀ {m : Int}, (∀ s ∈ ss, s ≤ m) → ∀ d ∈ ds, 0 ≤ d ∧ d < m
  | [], [], _, _, _, d, h => nomatch h
  | d :: ds, s :: ss, h, m, k, e, he => by
    rcases List.mem_cons.mp he with rfl | he
    · have := k s List.mem_cons_self
      have h2 := h.1.2
      exact ⟨h.1.1, by omega⟩
    · exact Dg.all h.2 (fun s hs => k s (List.mem_cons_of_mem _ hs)) e he
  | [], _ :: _, h, _, _, _, _ => h.elim
  | _ :: _, [], h, _, _, _, _ => h.elim
/-- a drawn game: three lists -/
structure GraphAt (H : Hp) (g : Addr) (os ps : List Int) (rows : List (List Int)) (o p s : Addr) (rs : List Addr) : Prop where
  g0 : H g = some (.lst [.ref o, .ref p, .ref s])
  o0 : H o = some (.lst (os.map V.int))
  p0 : H p = some (.lst (ps.map V.int))
  s0 : H s = some (.lst (rs.map V.ref))
  r0 : Paired (fun r xs => H r = some (.lst (xs.map V.int))) rs rows
theorem GraphAt.same {H H' : Hp} {g : Addr} {os ps : List Int} {rows : List (List Int)} {o p s : Addr} {rs : List Addr} (h : GraphAt H g os ps rows o p s rs) (k : Same H H') : GraphAt H' g os ps rows o p s rs :=
  ⟨k _ _ h.g0, k _ _ h.o0, k _ _ h.p0, k _ _ h.s0, L2.Paired.mapP h.r0 fun _ _ e => k _ _ e⟩
def spGraph (K : PySem.W.Frag) : Sp := fun vs H Q _ => ∃ (a : Addr) (ns : List Int) (at' n : Nat) (top : Int), vs = [.ref a, .int (at' : Int), .int (n : Int), .int top] ∧ SqL K H a (ns.map V.int) ∧ ns.length ≤ 63 ∧ at' ≤ 900 ∧ n ≤ 60 ∧ 2 ≤ top ∧ top ≤ 30 ∧
  ∀ H' g os ps rows o p s rs, Same H H' → H g = none → GraphAt H' g os ps rows o p s rs → Valid os ps rows → os.length = n → (∀ x ∈ ps, x ≤ top) → Q (.ref g) H'
theorem dInt (a b : Int) : decide (V.int a = V.int b) = decide (a = b) := decide_eq_decide.mpr ⟨V.int.inj, fun h => congrArg V.int h⟩
theorem asc_map {l : List Nat} (h : l.Pairwise (· < ·)) : (l.map fun i : Nat => (i : Int)).Pairwise (· < ·) := by
  rw [List.pairwise_map]
  exact h.imp fun z => by omega
theorem asc_filter (p : Nat → Bool) (n : Nat) : ((List.range n).filter p).Pairwise (· < ·) := List.pairwise_lt_range.filter p
section
variable {P : Program} {w : World} {K : PySem.W.Frag} {mg : Str → Option Value} {base : Heap} (M : Blt mg)
include M
theorem ok_graph {f : Addr} {fd : FuncData} (F : Fun K "_law_graph" "_law_graph" s__law_graph f fd) (G_law_cell : Kn P w K mg base 1 "_law_cell" ["script", "k"] (spCell K)) (G_law_digits : Kn P w K mg base 1 "_law_digits" ["cell", "sizes"] (spDigits K)) :
    FnOk P w K mg base CX0 2 f fd ["script", "at", "count", "top"] (spGraph K) := by
  refine F.ok sc__law_graph (fun vs H Q E h => ?_) (fun cdv A outer s H vs Q E hr h => ?_)
  · obtain ⟨a, ns, at', n, top, rfl, _⟩ := h
    rfl
  obtain ⟨a, ns, at', n, top, rfl, hS, hl, hat, hn, ht0, ht, q⟩ := h
  have nd := sc__law_graph.nd
  refine ⟨_, pss_cons (ps_set (i := 4) nd rfl (.inr rfl) (pe_call G_law_digits.ok (hr.mono (by decide)) (by rfl) G_law_digits.m G_law_digits.kp G_law_digits.b .nil pass0 (pa_cons (pe_call G_law_cell.ok (hr.mono (by decide)) (by rfl) G_law_cell.m G_law_cell.kp G_law_cell.b .nil pass0 (pa_cons (pv 0) (pa_cons (pv 1) pa_nil))) (pa_cons (pe_lst (pa_cons pe_int (pa_cons pe_int (pa_cons pe_int (pa_cons pe_int pa_nil))))) pa_nil))))
    (pss_cons (ps_set (i := 5) nd rfl (.inr rfl) (pe_ix ix_list (pe_lst (pa_cons pe_int (pa_cons pe_int (pa_cons pe_int (pa_cons pe_int pa_nil))))) (pe_ix ix_list (pv 4) pe_int (fun _ _ => rfl)) (fun _ _ => rfl)))
    (C8.pss_cut (ps_if (PW.pt (pw_and (pt_cmpR op_gt (pv 2) pe_int (nomark _)) (pw_and1 (pt_cmpR op_eq (pe_ix ix_list (pv 4) pe_int (fun _ _ => rfl)) pe_int (nomark _))))) (pss_one (ps_set (i := 5) nd rfl (.inr rfl) (pe_op op_mul pe_int (pv 2)))) pss_nil)
    (pss_cons (ps_set (i := 6) nd rfl (.inl rfl) (pe_lst pa_nil))
    (pss_cons (ps_set (i := 7) nd rfl (.inl rfl) (pe_lst pa_nil))
    (pss_cons (ps_set (i := 8) nd rfl (.inl rfl) (pe_lst pa_nil))
    (pss_cons (ps_for PassesOwn.never rfl (pi_range1 rfl M.range (pa_cons (pv 2) pa_nil)) (pg_name (i := 9) nd rfl (.inr rfl)) (pss_cons (ps_set (i := 10) nd rfl (.inr rfl) (pe_call G_law_digits.ok (hr.mono (by decide)) (by rfl) G_law_digits.m G_law_digits.kp G_law_digits.b .nil pass0 (pa_cons (pe_call G_law_cell.ok (hr.mono (by decide)) (by rfl) G_law_cell.m G_law_cell.kp G_law_cell.b .nil pass0 (pa_cons (pv 0) (pa_cons (pe_op op_add (pe_op op_add (pv 1) pe_int) (pv 9)) pa_nil))) (pa_cons (pe_op op_cat (pe_lst (pa_cons pe_int (pa_cons (pe_op op_add (pv 3) pe_int) (pa_cons (pv 2) pa_nil)))) (pe_lc (own := [("u", 12)]) (g := gName 12) (tt := tYes) rfl nd (pi_range1 rfl M.range (pa_cons (pv 2) pa_nil)) (blkOk_by (N := n__law_graph) (sc := defScope s__law_graph) (by decide +kernel)) (fun _ _ _ _ _ => pg_name (i := 12) nd rfl (Or.inl rfl)) (fun _ _ _ _ _ => pts_nil) (fun _ _ _ _ _ => (pv 5)))) pa_nil))))
      (pss_cons (ps_setLc (i := 11) (own := [("u", 12)]) (g := gName 12) (tt := _) rfl nd rfl rfl (sw_true rfl rfl rfl (by decide +kernel)) (pi_range1 rfl M.range (pa_cons (pv 2) pa_nil)) (blkOk_by (N := n__law_graph) (sc := defScope s__law_graph) (by decide +kernel)) (fun _ _ _ _ _ => pg_name (i := 12) nd rfl (Or.inl rfl)) (fun _ _ _ _ _ => pts_one (PW.pt (pw_or (pt_cmpR op_eq (pe_ix (show IxR _ (rIxL K) from ix_list) (pv 10) (pe_op op_add pe_int (pv 12)) (fun _ _ => rfl)) pe_int (nomark _)) (pw_or1 (PW.pt (pw_and (pt_cmpR op_eq (pe_ix (show IxR _ (rIxL K) from ix_list) (pv 4) pe_int (fun _ _ => rfl)) pe_int (nomark _)) (pw_and1 (pt_cmpR op_eq (pv 12) (pe_op op_add (pv 9) pe_int) (nomark _))))))))) (fun _ _ _ _ _ => (pv 12)))
      (C8.pss_cut (ps_if (pt_cmpR op_eq (pe_callB call_len_seq (by rfl) M.len PySem.boot_len (pa_cons (pv 11) pa_nil)) pe_int (nomark _)) (pss_one (ps_set (i := 11) nd rfl (.inl rfl) (pe_lst (pa_cons (pe_ix ix_list (pv 10) pe_int (fun _ _ => rfl)) pa_nil)))) pss_nil)
      (pss_cons (ps_expr (pe_bm PySem.F.plainAttrs_list PySem.F.slot_list_append PySem.F.type_list_append mt_append (pv 6) (pa_cons (pe_ix ix_list (pv 10) pe_int (fun _ _ => rfl)) pa_nil)))
      (pss_cons (ps_expr (pe_bm PySem.F.plainAttrs_list PySem.F.slot_list_append PySem.F.type_list_append mt_append (pv 7) (pa_cons (pe_ix ix_list (pe_lst (pa_cons (pe_ix ix_list (pv 10) pe_int (fun _ _ => rfl)) (pa_cons (pe_ix ix_list (pv 10) pe_int (fun _ _ => rfl)) (pa_cons (pe_op op_mod (pe_callTy call_int1 (by rfl) M.int PyProof.Rows.boot_int (pa_cons (pe_ix ix_list (pv 10) pe_int (fun _ _ => rfl)) pa_nil)) pe_int) pa_nil)))) (pe_ix ix_list (pv 4) pe_int (fun _ _ => rfl)) (fun _ _ => rfl)) pa_nil)))
      (pss_one (ps_expr (pe_bm PySem.F.plainAttrs_list PySem.F.slot_list_append PySem.F.type_list_append mt_append (pv 8) (pa_cons (pv 11) pa_nil))))))))))
    (pss_one (ps_ret (pe_lst (pa_cons (pv 6) (pa_cons (pv 7) (pa_cons (pv 8) pa_nil)))))))))))), ?_⟩
  refine ⟨_, rfl, _, rfl, a, ns, at', rfl, hS, hl, by omega, fun z0 => ⟨le_line (n := 4) (by decide), fun l0 hl0 => ⟨z0, l0, [2, 4, 3, 2], rfl, SqL.of upd_same, by decide, by decide, fun p0 ds0 H1 s1 hp0 ep0 hd0 => ?_⟩⟩⟩
  have sm1 : Same H H1 := (same_new hl0 _).trans s1
  obtain ⟨d0, r0, rfl, b0, hd0⟩ := hd0.cons
  obtain ⟨d1, r1, rfl, b1, hd0⟩ := hd0.cons
  obtain ⟨d2, r2, rfl, b2, hd0⟩ := hd0.cons
  obtain ⟨d3, r3, rfl, b3, hd0⟩ := hd0.cons
  cases hd0.nil
  obtain ⟨c0, ec0, c1, c2⟩ : ∃ c : Int, atI [V.int 2, V.int 3, V.int 5, V.int 9] d1 = some (.int c) ∧ 0 < c ∧ c ≤ 240 := by
    rcases (show d1 = 0 ∨ d1 = 1 ∨ d1 = 2 ∨ d1 = 3 by omega) with rfl | rfl | rfl | rfl <;> exact ⟨_, rfl, by decide, by decide⟩
  refine ⟨le_line (n := 4) (by decide), fun l1 hl1 => ⟨_, rfl, p0, _, 1, .int d1, rfl, rfl, SqL.of (same_new hl1 _ _ _ ep0), rfl, l1, _, d1, _, rfl, rfl, SqL.of upd_same, ec0, ?_⟩⟩
  have s2 := same_new hl1 (.lst [V.int 2, V.int 3, V.int 5, V.int 9])
  have sm2 := sm1.trans s2
  have ep02 := s2 _ _ ep0
  refine ⟨fun σ H' => Same H H' ∧ H' p0 = some (.lst ([d0, d1, d2, d3].map V.int)) ∧ ∃ c : Int, 0 < c ∧ c ≤ 240 ∧ σ = [some (.ref a), some (.int (at' : Int)), some (.int (n : Int)), some (.int top), some (.ref p0), some (.int c), Option.none, Option.none, Option.none, Option.none, Option.none, Option.none, Option.none], ?_, ?_⟩
  · refine ⟨_, rfl, _, _, rfl, rfl, _, rfl, ite2 (fun g1 => ?_) (fun g1 => ?_)⟩
    · have g1' : (10 : Int) < n := of_decide_eq_true g1
      refine ⟨_, rfl, p0, _, 3, .int d3, rfl, rfl, SqL.of ep02, rfl, rfl, _, rfl, ite2 (fun _ => ?_) (fun _ => ?_)⟩
      · exact ⟨_, rfl, _, _, rfl, rfl, .inl ⟨by decide, by decide⟩, sm2, ep02, _, by omega, by omega, rfl⟩
      · exact ⟨sm2, ep02, _, c1, c2, rfl⟩
    · exact iteF ⟨sm2, ep02, _, c1, c2, rfl⟩
  clear c1 c2 ec0 sm2 ep02 s2 sm1 ep0 s1
  rintro σ H2 ⟨sm2, ep02, c, c1, c2, rfl⟩
  refine ⟨Nat.zero_le _, fun o no => ⟨Nat.zero_le _, fun p np => ⟨Nat.zero_le _, fun sx ns' => ?_⟩⟩⟩
  have sO := same_new no (.lst [])
  have sP := same_new np (.lst [])
  have sS := same_new ns' (.lst [])
  have nop : o ≠ p := ne_of_none upd_same np
  have nps : p ≠ sx := ne_of_none upd_same ns'
  have nos : o ≠ sx := ne_of_none (sP _ _ upd_same) ns'
  refine ⟨_, rfl, _, rfl, by omega, by omega, ?_⟩
  have hnn : ((n : Int)).toNat = n := rfl
  rw [hnn]
  refine for_range (n := n) (fun i σ H' => Same H2 H' ∧ ∃ (os ps : List Int) (rs : List Addr) (rows : List (List Int)) (y9 y10 y11 : Option V), H' o = some (.lst (os.map V.int)) ∧ H' p = some (.lst (ps.map V.int)) ∧ H' sx = some (.lst (rs.map V.ref)) ∧
      Paired (fun r xs => r ≠ o ∧ r ≠ p ∧ r ≠ sx ∧ H' r = some (.lst (xs.map V.int))) rs rows ∧ os.length = i ∧ ps.length = i ∧ rows.length = i ∧ (∀ x ∈ os, 0 ≤ x ∧ x ≤ 1) ∧ (∀ x ∈ ps, 0 ≤ x ∧ x ≤ top) ∧ (∀ x ∈ rows, Asc (n : Int) x) ∧
      σ = [some (.ref a), some (.int (at' : Int)), some (.int (n : Int)), some (.int top), some (.ref p0), some (.int c), some (.ref o), some (.ref p), some (.ref sx), y9, y10, y11, Option.none])
    ⟨((sO.trans sP).trans sS), [], [], [], [], Option.none, Option.none, Option.none, by rw [upd_ne nos, upd_ne nop]; exact upd_same, by rw [upd_ne nps]; exact upd_same, upd_same, .nil, rfl, rfl, rfl, (fun x h => nomatch h), (fun x h => nomatch h), (fun x h => nomatch h), rfl⟩ ?_ ?_
  · rintro i σ H3 hi ⟨sm3, os, ps, rs, rows, y9, y10, y11, eo, ep, es, pr, l1, l2, l3, v1, v2, v3, rfl⟩
    refine ⟨_, rfl, _, rfl, _, _, rfl, rfl, _, rfl, _, _, rfl, rfl, a, ns, at' + 1 + i, (show [V.ref a, V.int ((at' : Int) + 1 + (0 + (i : Int)))] = [V.ref a, V.int ((at' + 1 + i : Nat) : Int)] by rw [show (at' : Int) + 1 + (0 + (i : Int)) = ((at' + 1 + i : Nat) : Int) by omega]), (sm2.trans sm3).seq hS, hl, by omega, fun z1 => ?_⟩
    refine ⟨_, rfl, _, _, rfl, rfl, _, rfl, le_line (n := 3) (by decide), fun l4 hl4 => ⟨_, rfl, (n : Int), rfl, by omega, by omega, fun D1 hD1 => ?_⟩⟩
    refine lc_mapR (n := n) (fun _ => .int c) (by omega) hD1 (fun j H' k' nn hj sm h => ⟨rfl, tYI ⟨_, rfl, h⟩⟩) (fun H4 s4 eD1 => ?_)
    rw [const_range] at eD1
    refine ⟨l4, D1, _, _, rfl, rfl, s4 _ _ upd_same, eD1, le_line (by show 3 + (List.replicate n (V.int c)).length ≤ 1000; rw [List.length_replicate]; omega), fun q4 hq4 => ?_⟩
    have eq4 : upd H4 q4 (.lst ([V.int 2, V.int (top + 1), V.int (n : Int)] ++ List.replicate n (V.int c))) q4 = some (.lst (([2, top + 1, (n : Int)] ++ List.replicate n c).map V.int)) := by
      rw [upd_same, List.map_append, rep_map]; rfl
    have s34 := ((same_new hl4 (.lst [V.int 2, V.int (top + 1), V.int (n : Int)])).trans s4).trans (same_new hq4 (.lst ([V.int 2, V.int (top + 1), V.int (n : Int)] ++ List.replicate n (V.int c))))
    refine ⟨z1, q4, [2, top + 1, (n : Int)] ++ List.replicate n c, rfl, SqL.of eq4, by rw [List.length_append, List.length_replicate]; show 3 + n ≤ 1000; omega, fun s hs => ?_, fun p5 ds5 H5 s5 hp5 ep5 hd5 => ?_⟩
    · rcases List.mem_append.mp hs with hs | hs
      · simp only [List.mem_cons, List.not_mem_nil, or_false] at hs
        rcases hs with rfl | rfl | rfl <;> omega
      · rw [List.eq_of_mem_replicate hs]; omega
    obtain ⟨e0, r0, rfl, g0, hd5⟩ := hd5.cons
    obtain ⟨e1, r1, rfl, g1, hd5⟩ := hd5.cons
    obtain ⟨e2, rest, rfl, g2, hd5⟩ := hd5.cons
    have lr : rest.length = n := (Dg.len hd5).trans List.length_replicate
    have s35 := s34.trans s5
    have ep05 := s35 _ _ (sm3 _ _ ep02)
    have at5 : ∀ {j : Nat} {z : Int}, (e0 :: e1 :: e2 :: rest)[j]? = some z → atI ((e0 :: e1 :: e2 :: rest).map V.int) (j : Int) = some (.int z) := fun e => atI_nat (at_map e)
    refine ⟨_, rfl, (n : Int), rfl, by omega, by omega, fun D hD => ?_⟩
    refine lc_filterR (n := n) (fun u => decide (rest.getD u 0 = 0) || (decide (d0 = 1) && decide (u = i + 1))) (by omega) hD (fun u H' k' nn hu sm hk hno => ?_) (fun H6 s6 eD => ?_)
    · have hur : u < rest.length := by omega
      have ex : (e0 :: e1 :: e2 :: rest)[3 + u]? = some (rest.getD u 0) := by
        rw [show 3 + u = u + 3 by omega]
        show rest[u]? = _
        rw [List.getD_eq_getElem?_getD, List.getElem?_eq_getElem hur]; rfl
      refine ⟨rfl, ?_⟩
      refine ⟨_, rfl, _, rfl, _, _, rfl, rfl, p5, _, _, .int (rest.getD u 0), rfl, rfl, SqL.of (sm _ _ ep5), (show atI ((e0 :: e1 :: e2 :: rest).map V.int) ((3 : Int) + (0 + (u : Int))) = _ by rw [show (3 : Int) + (0 + (u : Int)) = ((3 + u : Nat) : Int) by omega]; exact at5 ex), rfl, _, rfl, ?_⟩
      have ep06 := sm _ _ ep05
      refine ite2 (fun c1 => ?_) (fun c1 => ?_)
      · rw [dInt] at c1
        refine iteT ⟨_, rfl, hk ?_ _ (.refl _)⟩
        rw [c1]; rfl
      · rw [dInt] at c1
        have c1' := Bool.eq_false_iff.mpr c1
        refine ⟨_, rfl, p0, _, 0, .int d0, rfl, rfl, SqL.of ep06, rfl, rfl, _, rfl, ite2 (fun c2 => ?_) (fun c2 => ?_)⟩
        · rw [dInt] at c2
          refine ⟨_, rfl, _, rfl, _, _, rfl, rfl, rfl, _, rfl, ite2 (fun c3 => ?_) (fun c3 => ?_)⟩
          · have c3' := V.int.inj (of_decide_eq_true c3)
            refine ⟨_, rfl, hk ?_ _ (.refl _)⟩
            rw [c1', c2, decide_eq_true (show u = i + 1 by omega)]; rfl
          · have c3' : ¬ u = i + 1 := fun e => c3 (decide_eq_true (congrArg V.int (by omega)))
            refine hno ?_ _ (.refl _)
            rw [c1', c2, decide_eq_false c3']; rfl
        · rw [dInt] at c2
          have c2' := Bool.eq_false_iff.mpr c2
          refine iteF (hno ?_ _ (.refl _))
          rw [c1', c2']; rfl
    · have s36 := s35.trans s6
      have nD : ∀ {x : Addr} {l : List V}, H3 x = some (.lst l) → D ≠ x := fun e z => by
        rw [z, s35 _ _ e] at hD
        cases hD
      have hsub : ∀ x ∈ (((List.range n).filter fun u => decide (rest.getD u 0 = 0) || (decide (d0 = 1) && decide (u = i + 1))).map fun i : Nat => (i : Int)), 0 ≤ x ∧ x < (n : Int) := by
        intro x hx
        obtain ⟨u, hu, rfl⟩ := List.mem_map.mp hx
        have := List.mem_range.mp (List.mem_filter.mp hu).1
        omega
      have hasc := asc_map (asc_filter (fun u => decide (rest.getD u 0 = 0) || (decide (d0 = 1) && decide (u = i + 1))) n)
      have hlen : (((List.range n).filter fun u => decide (rest.getD u 0 = 0) || (decide (d0 = 1) && decide (u = i + 1))).map fun i : Nat => (i : Int)).length ≤ n := by
        rw [List.length_map]
        exact Nat.le_trans (List.length_filter_le _ _) (by rw [List.length_range]; exact Nat.le_refl _)
      generalize (((List.range n).filter fun u => decide (rest.getD u 0 = 0) || (decide (d0 = 1) && decide (u = i + 1))).map fun i : Nat => (i : Int)) = tg at eD hsub hasc hlen
      have pr6 : Paired (fun r xs => r ≠ o ∧ r ≠ p ∧ r ≠ sx ∧ H6 r = some (.lst (xs.map V.int))) rs rows := L2.Paired.mapP pr fun r xs z => ⟨z.1, z.2.1, z.2.2.1, s36 _ _ z.2.2.2⟩
      refine ⟨fun σ H' => Same H6 H' ∧ ∃ (t : Addr) (xs : List Int), H' t = some (.lst (xs.map V.int)) ∧ Asc (n : Int) xs ∧ t ≠ o ∧ t ≠ p ∧ t ≠ sx ∧ σ = [some (.ref a), some (.int (at' : Int)), some (.int (n : Int)), some (.int top), some (.ref p0), some (.int c), some (.ref o), some (.ref p), some (.ref sx), some (.int (0 + (i : Int))), some (.ref p5), some (.ref t), Option.none], ?_, ?_⟩
      · refine ⟨_, rfl, D, _, rfl, .inl (SqL.of eD), rfl, _, rfl, ite2 (fun c1 => ?_) (fun c1 => ?_)⟩
        · refine ⟨_, rfl, p5, _, 2, .int e2, rfl, rfl, SqL.of (s6 _ _ ep5), at5 (j := 2) rfl, le_line (n := 1) (by decide), fun t ht => ?_⟩
          have nt : ∀ {x : Addr} {l : List V}, H3 x = some (.lst l) → t ≠ x := fun e z => by
            rw [z, s36 _ _ e] at ht
            cases ht
          exact ⟨same_new ht _, t, [e2], upd_same, ⟨List.pairwise_singleton _ _, fun x hx => by rw [List.mem_singleton.mp hx]; exact g2, (fun z => nomatch z), by show 1 ≤ 1000; decide⟩, nt eo, nt ep, nt es, rfl⟩
        · have hne : tg ≠ [] := fun z => by
            subst z
            exact c1 rfl
          exact ⟨.refl _, D, tg, eD, ⟨hasc, hsub, hne, by omega⟩, nD eo, nD ep, nD es, rfl⟩
      · rintro σ H7 ⟨sm7, t, xs, et, hax, nt1, nt2, nt3, rfl⟩
        have s37 := s36.trans sm7
        have eo7 := s37 _ _ eo
        have ep7 := s37 _ _ ep
        have es7 := s37 _ _ es
        have ep57 := sm7 _ _ (s6 _ _ ep5)
        have ep07 := sm7 _ _ (s6 _ _ ep05)
        have sm27 := sm3.trans s37
        have np5o : p5 ≠ o := fun z => by rw [z] at hp5; rw [s34 _ _ eo] at hp5; cases hp5
        have np5p : p5 ≠ p := fun z => by rw [z] at hp5; rw [s34 _ _ ep] at hp5; cases hp5
        have np0o : p0 ≠ o := ne_of_none ep02 no
        have np0p : p0 ≠ p := ne_of_none (sO _ _ ep02) np
        -- owners.append(row[0])
        refine ⟨_, rfl, .inl ⟨rfl, _, SqL.of eo7⟩, _, rfl, p5, _, 0, .int e0, rfl, rfl, SqL.of ep57, at5 (j := 0) rfl, o, _, _, rfl, rfl, eo7, by rw [List.length_map, l1]; exact lt_line (by omega), ?_⟩
        have a1 : upd H7 o (.lst (os.map V.int ++ [V.int e0])) o = some (.lst ((os ++ [e0]).map V.int)) := by rw [upd_same, List.map_append]; rfl
        have a2 : upd H7 o (.lst (os.map V.int ++ [V.int e0])) p = some (.lst (ps.map V.int)) := by rw [upd_ne nop.symm]; exact ep7
        have a3 : upd H7 o (.lst (os.map V.int ++ [V.int e0])) sx = some (.lst (rs.map V.ref)) := by rw [upd_ne nos.symm]; exact es7
        have a4 : upd H7 o (.lst (os.map V.int ++ [V.int e0])) p5 = some (.lst ((e0 :: e1 :: e2 :: rest).map V.int)) := by rw [upd_ne np5o]; exact ep57
        have a5 : upd H7 o (.lst (os.map V.int ++ [V.int e0])) p0 = some (.lst ([d0, d1, d2, d3].map V.int)) := by rw [upd_ne np0o]; exact ep07
        have a6 : upd H7 o (.lst (os.map V.int ++ [V.int e0])) t = some (.lst (xs.map V.int)) := by rw [upd_ne nt1]; exact et
        have a7 : Paired (fun r xs => r ≠ o ∧ r ≠ p ∧ r ≠ sx ∧ upd H7 o (.lst (os.map V.int ++ [V.int e0])) r = some (.lst (xs.map V.int))) rs rows := L2.Paired.mapP pr6 fun r xs z => ⟨z.1, z.2.1, z.2.2.1, by rw [upd_ne z.1]; exact sm7 _ _ z.2.2.2⟩
        have a8 : Same H2 (upd H7 o (.lst (os.map V.int ++ [V.int e0]))) := same_upd sm27 no _
        show tSeq _ _ _ [some (.ref a), some (.int (at' : Int)), some (.int (n : Int)), some (.int top), some (.ref p0), some (.int c), some (.ref o), some (.ref p), some (.ref sx), some (.int (0 + (i : Int))), some (.ref p5), some (.ref t), Option.none] (upd H7 o (.lst (os.map V.int ++ [V.int e0])))
        generalize upd H7 o (.lst (os.map V.int ++ [V.int e0])) = H8 at a1 a2 a3 a4 a5 a6 a7 a8 ⊢
        -- priorities.append(..)
        obtain ⟨pv0, epv, pv1, pv2⟩ : ∃ z : Int, atI [V.int e1, V.int e1, V.int (e1 % 3)] d2 = some (.int z) ∧ 0 ≤ z ∧ z ≤ top := by
          rcases (show d2 = 0 ∨ d2 = 1 ∨ d2 = 2 by omega) with rfl | rfl | rfl
          · exact ⟨_, rfl, by omega, by omega⟩
          · exact ⟨_, rfl, by omega, by omega⟩
          · exact ⟨_, rfl, by omega, by omega⟩
        refine ⟨_, rfl, .inl ⟨rfl, _, SqL.of a2⟩, _, rfl, p5, _, 1, .int e1, rfl, rfl, SqL.of a4, at5 (j := 1) rfl, _, rfl, p5, _, 1, .int e1, rfl, rfl, SqL.of a4, at5 (j := 1) rfl, _, rfl, p5, _, 1, .int e1, rfl, rfl, SqL.of a4, at5 (j := 1) rfl, .inl ⟨_, rfl, _, _, rfl, rfl, (by show (0 : Int) < 3; decide), le_line (n := 3) (by decide), fun l8 hl8 => ?_⟩⟩
        have s8 := same_new hl8 (.lst [V.int e1, V.int e1, V.int (e1 % 3)])
        refine ⟨_, rfl, p0, _, 2, .int d2, rfl, rfl, SqL.of (s8 _ _ a5), rfl, l8, _, d2, _, rfl, rfl, SqL.of upd_same, epv, p, _, _, rfl, rfl, s8 _ _ a2, by rw [List.length_map, l2]; exact lt_line (by omega), ?_⟩
        generalize upd H8 l8 (.lst [V.int e1, V.int e1, V.int (e1 % 3)]) = H9 at s8 ⊢
        have b1' : upd H9 p (.lst (ps.map V.int ++ [V.int pv0])) o = some (.lst ((os ++ [e0]).map V.int)) := by rw [upd_ne nop]; exact s8 _ _ a1
        have b2' : upd H9 p (.lst (ps.map V.int ++ [V.int pv0])) p = some (.lst ((ps ++ [pv0]).map V.int)) := by rw [upd_same, List.map_append]; rfl
        have b3' : upd H9 p (.lst (ps.map V.int ++ [V.int pv0])) sx = some (.lst (rs.map V.ref)) := by rw [upd_ne nps.symm]; exact s8 _ _ a3
        have b6' : upd H9 p (.lst (ps.map V.int ++ [V.int pv0])) t = some (.lst (xs.map V.int)) := by rw [upd_ne nt2]; exact s8 _ _ a6
        have b7' : Paired (fun r xs => r ≠ o ∧ r ≠ p ∧ r ≠ sx ∧ upd H9 p (.lst (ps.map V.int ++ [V.int pv0])) r = some (.lst (xs.map V.int))) rs rows := L2.Paired.mapP a7 fun r xs z => ⟨z.1, z.2.1, z.2.2.1, by rw [upd_ne z.2.1]; exact s8 _ _ z.2.2.2⟩
        have b8' : Same H2 (upd H9 p (.lst (ps.map V.int ++ [V.int pv0]))) := fun b u e => by
          rw [upd_ne (ne_of_none (sO _ _ e) np)]
          exact s8 _ _ (a8 _ _ e)
        generalize upd H9 p (.lst (ps.map V.int ++ [V.int pv0])) = H10 at b1' b2' b3' b6' b7' b8' ⊢
        -- successors.append(targets)
        refine ⟨_, rfl, .inl ⟨rfl, _, SqL.of b3'⟩, _, rfl, sx, _, _, rfl, rfl, b3', by rw [List.length_map, b7'.length, l3]; exact lt_line (by omega), ?_⟩
        refine ⟨fun b u e => ?_, os ++ [e0], ps ++ [pv0], rs ++ [t], rows ++ [xs], _, _, _, ?_, ?_, ?_, ?_, ?_, ?_, ?_, ?_, ?_, ?_, rfl⟩
        · rw [upd_ne (ne_of_none (sP _ _ (sO _ _ e)) ns')]; exact b8' _ _ e
        · rw [upd_ne nos]; exact b1'
        · rw [upd_ne nps]; exact b2'
        · rw [upd_same, List.map_append]; rfl
        · exact (L2.Paired.mapP b7' fun r xs z => ⟨z.1, z.2.1, z.2.2.1, by rw [upd_ne z.2.2.1]; exact z.2.2.2⟩).snoc ⟨nt1, nt2, nt3, by rw [upd_ne nt3]; exact b6'⟩
        · rw [List.length_append, l1]; rfl
        · rw [List.length_append, l2]; rfl
        · rw [List.length_append, l3]; rfl
        · intro x hx
          rcases List.mem_append.mp hx with hx | hx
          · exact v1 x hx
          · rw [List.mem_singleton.mp hx]; omega
        · intro x hx
          rcases List.mem_append.mp hx with hx | hx
          · exact v2 x hx
          · rw [List.mem_singleton.mp hx]; exact ⟨pv1, pv2⟩
        · intro x hx
          rcases List.mem_append.mp hx with hx | hx
          · exact v3 x hx
          · rw [List.mem_singleton.mp hx]; exact hax
  · rintro σ H3 ⟨sm3, os, ps, rs, rows, y9, y10, y11, eo, ep, es, pr, l1, l2, l3, v1, v2, v3, rfl⟩
    refine ⟨_, rfl, _, rfl, _, rfl, le_line (n := 3) (by decide), fun g hg => ?_⟩
    have sg := same_new hg (.lst [V.ref o, V.ref p, V.ref sx])
    refine q _ g os ps rows o p sx rs ((sm2.trans sm3).trans sg) ((sm2.trans sm3).free hg) ⟨upd_same, sg _ _ eo, sg _ _ ep, sg _ _ es, L2.Paired.mapP pr fun r xs z => sg _ _ z.2.2.2⟩ ⟨by omega, by omega, by omega, v1, fun x hx => ⟨(v2 x hx).1, Int.le_trans (v2 x hx).2 ht⟩, fun x hx => by rw [l1]; exact v3 x hx⟩ l1 (fun x hx => (v2 x hx).2)
end
end GM
set_option Elab.async false
set_option linter.all false
set_option maxRecDepth 100000
set_option maxHeartbeats 4000000
set_option pp.maxSteps 150
set_option pp.deepTerms false
namespace GM
open PySem PySem.Spec PyProof.Rows L2
/-! ### winner_of -/
def iEither (t u : TI) : TI := fun σ H R => t σ H R ∨ u σ H R
theorem pi_either {X : Cx} {tg e : Expr} {t u : TI} (h : PI X tg e t) (k : PI X tg e u) : PI X tg e (iEither t u) :=
  ⟨fun pins s σ H R I r => r.elim (h.run pins s σ H R I) (k.run pins s σ H R I)⟩
theorem gd_at {α : Type} {l : List α} {i : Nat} {d : α} (h : i < l.length) : l[i]? = some (l.getD i d) := by
  rw [List.getD_eq_getElem?_getD, List.getElem?_eq_getElem h]; rfl
def SqV (H : Hp) (a : Addr) (xs : List V) : Prop := H a = some (.lst xs) ∨ H a = some (.tup xs)
theorem SqV.same {H H' : Hp} {a : Addr} {xs : List V} (h : SqV H a xs) (s : Same H H') : SqV H' a xs := h.imp (s _ _) (s _ _)
theorem catA {K : PySem.W.Frag} {H : Hp} {a b : Addr} {xs ys : List V} {Q : VK} (ha : SqT K H a xs) (hb : SqT K H b ys) (hz : xs.length + ys.length ≤ sizeLine) (q : ∀ r H', Same H H' → SqT K H' r (xs ++ ys) → Q (.ref r) H') : rCatA K (.ref a) (.ref b) H Q := by
  refine ⟨a, b, xs, ys, rfl, rfl, ha, hb, hz, fun e => ?_, fun _ e => ?_, fun _ _ p hp => q p _ (same_new hp _) (sqT upd_same)⟩
  · subst e; exact q b H (.refl _) hb
  · subst e; exact q a H (.refl _) (by rw [List.append_nil]; exact ha)
theorem cutV_all {xs : List V} {lo hi : Option Int} (h : HT.sIx xs.length 0 lo = 0 ∧ HT.sIx xs.length xs.length hi = xs.length) : cutV xs lo hi = xs := by
  unfold cutV
  rw [h.1, h.2, List.drop_zero, Nat.sub_zero, List.take_length]
theorem cutA {K : PySem.W.Frag} {H : Hp} {a : Addr} {xs : List V} {lo hi : Option Int} {Q : VK} (ha : SqT K H a xs) (q : ∀ r H', Same H H' → SqT K H' r (cutV xs lo hi) → Q (.ref r) H') : rSlA K (.ref a) lo hi H Q := by
  refine ⟨a, xs, rfl, ha, fun e => ?_, fun _ p hp => q p _ (same_new hp _) (sqT upd_same)⟩
  exact q a H (.refl _) (by rw [cutV_all e]; exact ha)
theorem tupOf {K : PySem.W.Frag} {H : Hp} {a : Addr} {xs : List V} {Q : VK} (h : SqV H a xs) (q : ∀ r H', Same H H' → SqT K H' r xs → Q (.ref r) H') : kTup K (.ref a) H Q := by
  rcases h with h | h
  · exact .inl ⟨a, xs, rfl, SqL.of h, fun p hp => q p _ (same_new hp _) (sqT upd_same)⟩
  · exact .inr ⟨a, xs, rfl, sqT h, q a H (.refl _) (sqT h)⟩
theorem inV_int (x : Int) (l : List Int) : inV (.int x) (l.map V.int) = decide (x ∈ l) := by
  unfold inV
  rw [List.any_map]
  by_cases c : x ∈ l
  · rw [decide_eq_true c]
    exact List.any_eq_true.mpr ⟨x, c, beq_self_eq_true x⟩
  · rw [decide_eq_false c]
    exact List.any_eq_false.mpr fun y hy h => c ((beq_iff_eq.mp (show (y == x) = true from h)) ▸ hy)
theorem flat_int (l : List Int) : (l.map V.int).all flatV = true := by
  rw [List.all_map]
  exact List.all_eq_true.mpr fun _ _ => rfl
/-- the numbers, and each one's next -/
def stepsOf (lead ring : List Int) : List Int := lead ++ ring
def aheadOf (lead ring : List Int) : List Int := lead ++ ring ++ ring.take 1
def badAt (n : Nat) (rows : List (List Int)) (st ah : List Int) (k : Nat) : Bool :=
  !(decide (0 ≤ st.getD k 0) && decide (st.getD k 0 < (n : Int))) || (decide (k + 1 < ah.length) && !decide (ah.getD (k + 1) 0 ∈ rows.getD (st.getD k 0).toNat []))
def faultO (n : Nat) (rows : List (List Int)) (lead ring : List Int) : Option Nat :=
  match (List.range (stepsOf lead ring).length).find? (badAt n rows (stepsOf lead ring) (aheadOf lead ring)) with
  | some k => some k
  | none => if ring = [] then some lead.length else none
theorem fault_at {n : Nat} {rows : List (List Int)} {lead ring : List Int} {k : Nat} (hk : k < (stepsOf lead ring).length) (hb : badAt n rows (stepsOf lead ring) (aheadOf lead ring) k = true) (hs : ∀ j, j < k → badAt n rows (stepsOf lead ring) (aheadOf lead ring) j = false) :
    faultO n rows lead ring = some k := by
  unfold faultO
  have e : (List.range (stepsOf lead ring).length).find? (badAt n rows (stepsOf lead ring) (aheadOf lead ring)) = some k := by
    rw [List.find?_range_eq_some]
    exact ⟨hb, List.mem_range.mpr hk, fun j hj => by rw [hs j hj]; rfl⟩
  rw [e]
theorem fault_end {n : Nat} {rows : List (List Int)} {lead ring : List Int} (hs : ∀ j, j < (stepsOf lead ring).length → badAt n rows (stepsOf lead ring) (aheadOf lead ring) j = false) :
    faultO n rows lead ring = if ring = [] then some lead.length else none := by
  unfold faultO
  have e : (List.range (stepsOf lead ring).length).find? (badAt n rows (stepsOf lead ring) (aheadOf lead ring)) = none := by
    refine List.find?_eq_none.mpr fun j hj => ?_
    rw [hs j (List.mem_range.mp hj)]
    exact Bool.false_ne_true
  rw [e]
/-! the same over a tuple -/
section
variable {K : PySem.W.Frag} {a : Addr} {g : TG} {tt : TT} {te : TE} {vs : List Nat} {σ : L2.St} {H1 : Hp} {D : Addr} {Qd : Hp → Prop}
theorem lc_mapIT {xs : List Int} (f : Int → Int) (hlen : xs.length ≤ 1000) (hS : SqT K H1 a (xs.map V.int)) (hD : H1 D = none)
    (hs : ∀ (i : Nat) z H (k : V → Hp → Prop) (n : Hp → Prop), xs[i]? = some z → Same H1 H → k (.int (f z)) H → g (.int z) (wipe σ vs) H fun σ2 H2 => wipe σ2 vs = wipe σ vs ∧ tt σ2 H2 fun b H3 => if b = true then te σ2 H3 k else n H3)
    (hd : ∀ H', Same H1 H' → H' D = some (.lst ((xs.map f).map V.int)) → Qd H') :
    ∃ W : Nat → Nat → Hp → Prop, (∃ m, W 0 m (upd H1 D (.lst []))) ∧ ∀ i m H, W i m H →
      ((Itt K a).stop i H ∧ Qd H) ∨ ((Itt K a).go i H ∧ ∃ Nx : Hp → Prop, (∀ H', Nx H' → ∃ m', m' < m ∧ W (i + 1) m' H') ∧ ∀ x H', (Itt K a).yld i H x H' → g x (wipe σ vs) H' fun σ2 H2 => wipe σ2 vs = wipe σ vs ∧ tt σ2 H2 fun b H3 =>
        if b = true then te σ2 H3 fun y H4 => ∃ acc, H4 D = some (.lst acc) ∧ acc.length < sizeLine ∧ Nx (upd H4 D (.lst (acc ++ [y]))) else Nx H3) := by
  refine lc_tup (xs := xs.map V.int) (fun i H => Same H1 H ∧ H D = some (.lst (((xs.take i).map f).map V.int))) ⟨same_new hD _, upd_same⟩ (fun i H _ z => seqT_same z.1 hS) ?_ ?_
  · rintro i x H hx ⟨sm, eD⟩
    obtain ⟨z, hz, rfl⟩ := map_at hx
    refine hs i z H _ (fun H3 => Same H1 H3 ∧ H3 D = some (.lst (((xs.take (i + 1)).map f).map V.int))) hz sm ⟨_, eD, ?_, same_upd sm hD _, ?_⟩
    · rw [List.length_map, List.length_map]
      exact lt_line (Nat.le_trans (List.length_take_le _ _) (Nat.le_of_lt (Nat.lt_of_lt_of_le (lt_of_at hz) hlen)))
    · rw [upd_same, tk1 hz, List.map_append, List.map_append]; rfl
  · rintro H ⟨sm, eD⟩
    rw [List.length_map, List.take_length] at eD
    exact hd H sm eD
end
def prios (ps : List Int) (ring : List Int) : List Int := ring.map fun v => ps.getD v.toNat 0
def spWin (C Cn : Addr) : Sp := fun vs H Q E => ∃ (p la ra : Addr) (lead ring : List Int) (os ps : List Int) (rows : List (List Int)) (dx a b c : Addr) (ts : List Addr) (m : Int), vs = [.ref p, .ref la, .ref ra] ∧ GameAt C H p os ps rows dx a b c ts m ∧ Valid os ps rows ∧ os.length ≤ 60 ∧
  SqV H la (lead.map V.int) ∧ SqV H ra (ring.map V.int) ∧ lead.length + ring.length ≤ 900 ∧
  (∀ k, faultO os.length rows lead ring = some k → ∀ d H', Same H H' → H' d = some (.xd [(("index" : Str), .int (k : Nat))]) → E (.ref Cn) (some d) H') ∧
  (faultO os.length rows lead ring = none → ∀ t H', Same H H' → t ∈ prios ps ring → (∀ y ∈ prios ps ring, y ≤ t) → Q (.int (t % 2)) H')
theorem cut1 (xs : List V) : cutV xs (some 1) none = xs.drop 1 := cut_lo xs 1
theorem cut2 (xs : List V) : cutV xs none (some 1) = xs.take 1 := cut_hi xs 1
theorem steps_ahead (lead ring : List Int) : ((lead ++ ring).drop 1 ++ ring.take 1) = (aheadOf lead ring).drop 1 := by
  unfold aheadOf
  cases h : lead ++ ring with
  | nil =>
    have : ring = [] := (List.append_eq_nil_iff.mp h).2
    subst this; rfl
  | cons a l => rfl
structure KL (P : Program) (w : World) (K : PySem.W.Frag) (mg : Str → Option Value) (base : Heap) (C : Addr) where
  f : Addr
  fd : FuncData
  ok : FnOk P w K mg base CX0 1 f fd ["self"] (fun vs H Q _ => ∃ (p : Addr) (os ps : List Int) (rows : List (List Int)) (dx a b c : Addr) (ts : List Addr) (m : Int), vs = [.ref p] ∧ GameAt C H p os ps rows dx a b c ts m ∧ Q (.int (os.length : Nat)) H)
  b : Binds K fd ["self"] []
  ml : PySem.W.findIn K (.ref C) "__len__" = some (some (.ref f))
  fn : PySem.W.isFn K (.ref f) = true
def spLen (C : Addr) : Sp := fun vs H Q _ => ∃ (p : Addr) (os ps : List Int) (rows : List (List Int)) (dx a b c : Addr) (ts : List Addr) (m : Int), vs = [.ref p] ∧ GameAt C H p os ps rows dx a b c ts m ∧ Q (.int (os.length : Nat)) H
def spCheck (K : PySem.W.Frag) (C Cn : Addr) : Sp := fun vs H Q E => ∃ (p wk sp : Addr) (st ah : List Int) (os ps : List Int) (rows : List (List Int)) (dx a b c : Addr) (ts : List Addr) (m : Int), vs = [.ref p, .ref wk, .ref sp] ∧ GameAt C H p os ps rows dx a b c ts m ∧ Valid os ps rows ∧ os.length ≤ 60 ∧
  SqT K H wk (st.map V.int) ∧ SqT K H sp ((ah.drop 1).map V.int) ∧ st.length ≤ 900 ∧ ah.length ≤ 901 ∧
  (∀ k, k < st.length → badAt os.length rows st ah k = true → (∀ j, j < k → badAt os.length rows st ah j = false) → ∀ d H', Same H H' → H' d = some (.xd [(("index" : Str), .int (k : Nat))]) → E (.ref Cn) (some d) H') ∧
  ((∀ j, j < st.length → badAt os.length rows st ah j = false) → ∀ H', Same H H' → Q .non H')
/-- a def that may raise, called -/
structure KnE (P : Program) (w : World) (K : PySem.W.Frag) (mg : Str → Option Value) (base : Heap) (k : Nat) (x : Str) (ps : List Str) (sp : Sp) where
  f : Addr
  fd : FuncData
  ok : FnOk P w K mg base (L2N.CX P w) k f fd ps sp
  b : Binds K fd ps []
  kp : PySem.W.keepIn K (.ref f) = true
  m : mg x = some (.ref f)
section
variable {P : Program} {w : World} {K : PySem.W.Frag} {mg : Str → Option Value} {base : Heap} {C Cn fI : Addr} (M : Blt mg) (T : GTxt K mg C) (TN : PySem.NotAPlayX.Txt K mg Cn fI)
include M T TN
theorem ok_check {f : Addr} {fd : FuncData} (F : Fun K "check_walk" "check_walk" s_check_walk f fd) (GL : KL P w K mg base C) : FnOk P w K mg base (L2N.CX P w) 3 f fd ["game", "walk", "steps"] (spCheck K C Cn) := by
  refine okN F sc_check_walk (fun vs H Q E h => ?_) (fun cdv A outer s H vs Q E hr h => ?_)
  · obtain ⟨p, wk, sp, st, ah, os, ps, rows, dx, a, b, c, ts, m, rfl, _⟩ := h
    rfl
  obtain ⟨p, wk, sp, st, ah, os, ps, rows, dx, a, b, c, ts, m, rfl, G, V0, h60, qw, qs, lst, lah, qE, qQ⟩ := h
  have nd := sc_check_walk.nd
  refine ⟨_, pss_one (ps_for (passes_of rfl) rfl (pi_enumT (by rfl) M.enumerate (pa_cons (pv 1) pa_nil)) (pg_tup rfl (pgs_cons (pg_name (i := 3) nd rfl (.inl rfl)) (pgs_cons (pg_name (i := 4) nd rfl (.inl rfl)) pgs_nil))) (pss_cons (ps_if (pt_not (pt_chain op_le op_lt pe_int (pv 4) (pe_callB (show CallR _ (.builtin "len") (rLenO C (spLen C)) from cr_lenO GL.ok GL.b (hr.mono (by decide)) GL.ml GL.fn) (by rfl) M.len PySem.boot_len (pa_cons (pv 0) pa_nil)))) (pss_one (ps_raiseNotAPlay rfl TN hr (L2N.takes_of rfl rfl rfl rfl) (pa_cons (pv 3) pa_nil))) pss_nil)
      (pss_one (ps_if (PW.pt (pw_and (pt_cmpR op_lt (pv 3) (pe_callB call_len_seq (by rfl) M.len PySem.boot_len (pa_cons (pv 2) pa_nil)) (nomark _)) (pw_and1 (pt_cmpR op_notIn_seq (pe_ix ix_tup (pv 2) (pv 3) (fun _ _ => rfl)) (pe_ix ix_tup (pe_fld (pv 0) rfl) (pv 4) (fun _ _ => rfl)) rfl)))) (pss_one (ps_raiseNotAPlay rfl TN hr (L2N.takes_of rfl rfl rfl rfl) (pa_cons (pv 3) pa_nil))) pss_nil)))), ?_⟩
  have m7 := Same.refl H
  refine ⟨_, rfl, wk, st.map V.int, rfl, qw, ?_⟩
  refine for_et (xs := st.map V.int) (fun i σ H' => Same H H' ∧ (∀ j, j < i → badAt os.length rows st ah j = false) ∧ ∃ y5 y6 : Option V, σ = [some (.ref p), some (.ref wk), some (.ref sp), y5, y6]) ⟨.refl _, fun _ h => absurd h (Nat.not_lt_zero _), Option.none, Option.none, rfl⟩ (fun i σ H' _ z => seqT_same z.1 qw) ?_ ?_
  · rintro i x Tp σ H8 hx ⟨sm, hbad, y5, y6, rfl⟩ hTp
    obtain ⟨z, hz, rfl⟩ := map_at hx
    have hi := lt_of_at hz
    have ez : st.getD i 0 = z := by rw [List.getD_eq_getElem?_getD, hz]; rfl
    have sT := same_new hTp (.tup [.int (i : Nat), .int z])
    have eTp : upd H8 Tp (.tup [.int (i : Nat), .int z]) Tp = some (.tup [.int (i : Nat), .int z]) := upd_same
    have smT := sm.trans sT
    generalize upd H8 Tp (.tup [.int (i : Nat), .int z]) = H9 at sT eTp smT ⊢
    have m9 := m7.trans smT
    have G9 := G.same m9
    have bdef : badAt os.length rows st ah i = (!(decide (0 ≤ z) && decide (z < (os.length : Int))) || (decide (i + 1 < ah.length) && !decide (ah.getD (i + 1) 0 ∈ rows.getD z.toNat []))) := by unfold badAt; rw [ez]
    refine ⟨Tp, _, rfl, sqT eTp, rfl, _, _, rfl, _, _, rfl, rfl, ?_⟩
    have raised : badAt os.length rows st ah i = true → ∀ d, H9 d = Option.none → E (.ref Cn) (some d) (upd H9 d (.xd [(("index" : Str), .int (i : Nat))])) := fun hb d hd => qE i hi hb hbad d _ (m9.trans (same_new hd _)) upd_same
    have nxt : badAt os.length rows st ah i = false → ∀ j, j < i + 1 → badAt os.length rows st ah j = false := fun hb j hj => by
      by_cases h : j < i
      · exact hbad j h
      · have : j = i := by omega
        rw [this]; exact hb
    refine ⟨_, rfl, _, _, rfl, rfl, _, rfl, ?_⟩
    by_cases c1 : (0 : Int) ≤ z
    · rw [if_pos (decide_eq_true c1)]
      refine ⟨_, rfl, p, dx, _, rfl, G9.ob, p, os, ps, rows, dx, a, b, c, ts, m, rfl, G9, os.length, rfl, by omega, _, _, rfl, rfl, ?_⟩
      by_cases c2 : z < (os.length : Int)
      · refine ⟨true, congrArg V.bl (decide_eq_true c2), iteF ?_⟩
        have hzn : z.toNat < os.length := by omega
        have hz2 : ((z.toNat : Nat) : Int) = z := by omega
        have hrow : rows[z.toNat]? = some (rows.getD z.toNat []) := gd_at (by rw [V0.l2]; exact hzn)
        obtain ⟨tr, htr, etr⟩ := pr_getR G9.or hrow
        rw [decide_eq_true c1, decide_eq_true c2] at bdef
        refine ⟨_, rfl, _, rfl, sp, _, rfl, .inr (seqT_same smT qs), _, _, rfl, rfl, _, rfl, ?_⟩
        rw [List.length_map, List.length_drop]
        by_cases c3 : i + 1 < ah.length
        · rw [decide_eq_true (show ((i : Nat) : Int) < ((ah.length - 1 : Nat) : Int) by omega)]
          rw [decide_eq_true c3] at bdef
          have ea : (ah.drop 1)[i]? = some (ah.getD (i + 1) 0) := by rw [List.getElem?_drop, Nat.add_comm]; exact gd_at c3
          refine iteT ⟨_, rfl, _, rfl, sp, _, _, _, rfl, rfl, seqT_same smT qs, atI_nat (at_map ea), _, rfl, p, C, dx, _, _, rfl, G9.ob, T.cl, T.nS, fld_suc a b c m, _, rfl, c, _, _, _, rfl, rfl, sqT G9.oc, (by rw [← hz2]; exact atI_nat (at_map htr)), tr, _, rfl, .inr (sqT etr), rfl, flat_int _, _, rfl, ?_⟩
          rw [inV_int]
          by_cases c4 : ah.getD (i + 1) 0 ∈ rows.getD z.toNat []
          · rw [decide_eq_true c4] at bdef ⊢
            exact iteF ⟨smT, nxt bdef, _, _, rfl⟩
          · rw [decide_eq_false c4] at bdef ⊢
            exact iteT ⟨_, rfl, _, rfl, fun d hd => raised bdef d hd⟩
        · rw [decide_eq_false (show ¬ ((i : Nat) : Int) < ((ah.length - 1 : Nat) : Int) by omega)]
          rw [decide_eq_false c3] at bdef
          exact iteF ⟨smT, nxt bdef, _, _, rfl⟩
      · rw [decide_eq_true c1, decide_eq_false c2] at bdef
        exact ⟨false, congrArg V.bl (decide_eq_false c2), iteT ⟨_, rfl, _, rfl, fun d hd => raised bdef d hd⟩⟩
    · rw [if_neg (by rw [decide_eq_false c1]; exact Bool.false_ne_true)]
      rw [decide_eq_false c1] at bdef
      exact ⟨_, rfl, iteT ⟨_, rfl, _, rfl, fun d hd => raised bdef d hd⟩⟩
  · rintro σ H8 ⟨sm, hbad, y5, y6, rfl⟩
    rw [List.length_map] at hbad
    exact qQ hbad _ sm
theorem ok_win {f : Addr} {fd : FuncData} (F : Fun K "winner_of" "winner_of" s_winner_of f fd) (Gcheck_walk : KnE P w K mg base 3 "check_walk" ["game", "walk", "steps"] (spCheck K C Cn)) : FnOk P w K mg base (L2N.CX P w) 4 f fd ["game", "lead", "ring"] (spWin C Cn) := by
  refine okN F sc_winner_of (fun vs H Q E h => ?_) (fun cdv A outer s H vs Q E hr h => ?_)
  · obtain ⟨p, la, ra, lead, ring, os, ps, rows, dx, a, b, c, ts, m, rfl, _⟩ := h
    rfl
  obtain ⟨p, la, ra, lead, ring, os, ps, rows, dx, a, b, c, ts, m, rfl, G, V0, h60, el, er, hl, qE, qQ⟩ := h
  have nd := sc_winner_of.nd
  refine ⟨_, pss_cons (ps_set (i := 3) nd rfl (.inl rfl) (pe_op op_catA (pe_tupleOf (by rfl) M.tuple (pv 1)) (pe_tupleOf (by rfl) M.tuple (pv 2))))
    (pss_cons (ps_expr (pe_callS Gcheck_walk.ok (hr.mono (by decide)) (by rfl) Gcheck_walk.m Gcheck_walk.kp Gcheck_walk.b (fun σ => L2N.passAt (L2N.takes_of rfl rfl rfl rfl) σ) (pa_cons (pv 0) (pa_cons (pv 3) (pa_cons (pe_op op_catA (pe_slice sl_tupA (pv 3) (po_some pe_int) po_none) (pe_slice sl_tupA (pe_tupleOf (by rfl) M.tuple (pv 2)) po_none (po_some pe_int))) pa_nil)))))
    (pss_cons (ps_if (pt_not (pt_truth (pv 2) (by intro _; rfl))) (pss_one (ps_raiseNotAPlay rfl TN hr (L2N.takes_of rfl rfl rfl rfl) (pa_cons (pe_callB call_len_seq (by rfl) M.len PySem.boot_len (pa_cons (pv 3) pa_nil)) pa_nil))) pss_nil)
    (pss_one (ps_ret (pe_op op_mod (pe_callB (cr_max rfl) (by rfl) M.max (by decide +kernel) (pa_cons (pe_lc (own := [("vertex", 4)]) (g := gName 4) (tt := tYes) rfl nd (pi_either (pi_list (pv 2)) (pi_tup (pv 2))) (blkOk_by (N := n_winner_of) (sc := defScope s_winner_of) (by decide +kernel)) (fun _ _ _ _ _ => pg_name (i := 4) nd rfl (Or.inl rfl)) (fun _ _ _ _ _ => pts_nil) (fun _ _ _ _ _ => (pe_ix (show IxR _ (rIxT K) from ix_tup) (show PE _ _ (tFld K (tVar 0) "priorities") from pe_fld (pv 0) rfl) (pv 4) (fun _ _ => rfl)))) pa_nil)) pe_int))))), ?_⟩
  have l900 : lead.length + ring.length ≤ sizeLine := le_line (by omega)
  refine ⟨_, rfl, ?_⟩
  refine tupOf el fun r1 H1 s1 q1 => ⟨_, rfl, ?_⟩
  refine tupOf (er.same s1) fun r2 H2 s2 q2 => ?_
  refine catA (seqT_same s2 q1) q2 (by rw [List.length_map, List.length_map]; exact l900) fun wk H3 s3 qw => ?_
  rw [← List.map_append] at qw
  have m3 := (s1.trans s2).trans s3
  refine ⟨_, rfl, _, rfl, _, rfl, _, rfl, ?_⟩
  unfold tNoPart
  refine cutA qw fun r4 H4 s4 q4 => ⟨_, rfl, ?_⟩
  refine tupOf ((er.same m3).same s4) fun r5 H5 s5 q5 => ?_
  refine ⟨_, rfl, ?_⟩
  refine cutA q5 fun r6 H6 s6 q6 => ?_
  refine catA (seqT_same (s5.trans s6) q4) q6 ?_ fun sp H7 s7 qs => ?_
  · rw [cut1, cut2, List.length_drop, List.length_take, List.length_map, List.length_map, List.length_append]; exact le_line (by omega)
  rw [cut1, cut2, ← List.map_drop, ← List.map_take, ← List.map_append, steps_ahead] at qs
  have m47 := ((s4.trans s5).trans s6).trans s7
  have m7 := m3.trans m47
  have qw7 := seqT_same m47 qw
  clear q1 q2 q4 q5 q6 qw s1 s2 s3 s4 s5 s6 s7 m3 m47
  have hst : (stepsOf lead ring) = lead ++ ring := rfl
  rw [← hst] at qw7
  have lst : (stepsOf lead ring).length = lead.length + ring.length := by rw [hst, List.length_append]
  generalize hS : stepsOf lead ring = st at *
  generalize hA : aheadOf lead ring = ah at *
  have lah : ah.length ≤ 901 := by
    rw [← hA]; unfold aheadOf; rw [List.length_append, List.length_append, List.length_take]; omega
  refine ⟨p, wk, sp, st, ah, os, ps, rows, dx, a, b, c, ts, m, rfl, G.same m7, V0, h60, qw7, qs, by omega, lah, fun k hk hb hs d H8 s8 ed => ?_, fun hbad H8 sm => ?_⟩
  · exact qE k (fault_at (n := os.length) (rows := rows) (lead := lead) (ring := ring) (by rw [hS]; exact hk) (by rw [hS, hA]; exact hb) (by rw [hS, hA]; exact hs)) d _ (m7.trans s8) ed
  · have hend := fault_end (n := os.length) (rows := rows) (lead := lead) (ring := ring) (by rw [hS, hA]; exact hbad)
    have m8 := m7.trans sm
    have G8 := G.same m8
    have er8 := er.same m8
    have tru : TruV K (.ref ra) H8 (!ring.isEmpty) := by
      have e : (ring.map V.int).isEmpty = ring.isEmpty := by cases ring <;> rfl
      rcases er8 with h | h
      · exact .inl ⟨_, SqL.of h, by rw [e]⟩
      · exact .inr (.inl ⟨_, sqT h, by rw [e]⟩)
    refine ⟨_, rfl, _, tru, ?_⟩
    cases hr0 : ring with
    | nil =>
      subst hr0
      rw [if_pos rfl] at hend
      refine iteT ⟨_, rfl, wk, _, rfl, .inr (seqT_same sm qw7), _, rfl, fun d hd => ?_⟩
      refine qE _ hend d _ (m8.trans (same_new hd _)) ?_
      rw [upd_same, List.length_map, lst]; rfl
    | cons r0 rs0 =>
      rw [← hr0]
      rw [if_neg (by rw [hr0]; exact List.cons_ne_nil _ _)] at hend
      have e0 : ring.isEmpty = false := by rw [hr0]; rfl
      rw [e0]
      refine iteF ?_
      have inr : ∀ z ∈ ring, 0 ≤ z ∧ z < (os.length : Int) := fun z hz => by
        obtain ⟨j, hj, ej⟩ := List.getElem_of_mem hz
        have hb := hbad (lead.length + j) (by omega)
        have e1 : st.getD (lead.length + j) 0 = z := by
          rw [← hS, List.getD_eq_getElem?_getD]
          unfold stepsOf
          rw [List.getElem?_append_right (by omega), Nat.add_sub_cancel_left, List.getElem?_eq_getElem hj, ej]; rfl
        unfold badAt at hb
        rw [e1] at hb
        have h2 := (Bool.or_eq_false_iff.mp hb).1
        have h3 : (decide (0 ≤ z) && decide (z < (os.length : Int))) = true := by
          cases h4 : (decide (0 ≤ z) && decide (z < (os.length : Int))) with
          | true => rfl
          | false => rw [h4] at h2; exact nomatch h2
        have h5 := Bool.and_eq_true_iff.mp h3
        exact ⟨of_decide_eq_true h5.1, of_decide_eq_true h5.2⟩
      have fin : ∀ (D : Addr) (H9 : Hp), Same H8 H9 → H9 D = some (.lst ((prios ps ring).map V.int)) → rMax K [.ref D] H9 (fun x H10 => rI (fun _ j => 0 < j) (fun i j => V.int (i % j)) x (.int 2) H10 Q) := fun D H9 s9 eD => by
        refine ⟨D, prios ps ring, rfl, SqL.of eD, ?_, fun mx h1 h2 => ⟨_, _, rfl, rfl, (by show (0 : Int) < 2; decide), qQ hend mx H9 (m8.trans s9) h1 h2⟩⟩
        unfold prios
        rw [List.length_map, hr0]; exact Nat.succ_pos _
      have turn : ∀ (i : Nat) (z : Int) (H9 : Hp) (k : V → Hp → Prop) (nn : Hp → Prop) (σ : L2.St), σ[0]? = some (some (.ref p)) → σ[4]? = some (some (.int z)) → z ∈ ring → Same H8 H9 → k (.int (ps.getD z.toNat 0)) H9 → tOp (rIxT K) (tFld K (tVar 0) "priorities") (tVar 4) σ H9 k := by
        intro i z H9 k nn σ e0 e6 hz s9 hk
        have h3 := inr z hz
        have ep : ps[z.toNat]? = some (ps.getD z.toNat 0) := gd_at (by rw [V0.l1]; omega)
        have G9 := G8.same s9
        exact ⟨_, e0, p, C, dx, _, _, rfl, G9.ob, T.cl, T.nP, fld_pri a b c m, _, e6, b, _, _, _, rfl, rfl, sqT G9.ob2, (by rw [show z = ((z.toNat : Nat) : Int) by omega]; exact atI_nat (at_map (by rw [Int.toNat_natCast]; exact ep))), hk⟩
      rcases er8 with h | h
      · refine .inl ⟨_, rfl, ra, rfl, ⟨_, SqL.of h⟩, fun D hD => ?_⟩
        refine lc_mapI (fun v => ps.getD v.toNat 0) (by omega) (SqL.of h) hD (fun i z H9 k nn hz sm9 hk => ⟨rfl, tYI (turn i z H9 k nn _ rfl rfl (List.mem_of_getElem? hz) sm9 hk)⟩) (fun H9 s9 eD => fin D H9 s9 eD)
      · refine .inr ⟨_, rfl, ra, rfl, ⟨_, sqT h⟩, fun D hD => ?_⟩
        refine lc_mapIT (fun v => ps.getD v.toNat 0) (by omega) (sqT h) hD (fun i z H9 k nn hz sm9 hk => ⟨rfl, tYI (turn i z H9 k nn _ rfl rfl (List.mem_of_getElem? hz) sm9 hk)⟩) (fun H9 s9 eD => fin D H9 s9 eD)
end
end GM
set_option Elab.async false
set_option linter.all false
set_option maxRecDepth 100000
set_option maxHeartbeats 4000000
set_option pp.maxSteps 150
set_option pp.deepTerms false
namespace GM
open PySem PySem.Spec PyProof.Rows L2
/-! ### _law_same of nested tuples -/
inductive DT where
  | non
  | int (i : Int)
  | tup (ds : List DT)
/-- v stands for d, tuples nested at most n deep -/
def rep : Nat → Hp → V → DT → Prop
  | 0, _, v, d => (d = .non ∧ v = .non) ∨ ∃ i, d = .int i ∧ v = .int i
  | n + 1, H, v, d => ((d = .non ∧ v = .non) ∨ ∃ i, d = .int i ∧ v = .int i) ∨ ∃ a xs ds, d = .tup ds ∧ v = .ref a ∧ H a = some (.tup xs) ∧ xs.length ≤ 1000 ∧ Paired (fun x e => rep n H x e) xs ds
def spSameD (n : Nat) : Sp := fun vs H Q _ => ∃ (t u : V) (d : DT), vs = [t, u] ∧ rep n H t d ∧ rep n H u d ∧ Q (.bl true) H
section
variable {P : Program} {w : World} {K : PySem.W.Frag} {mg : Str → Option Value} {base : Heap} (M : Blt mg)
include M
theorem ok_sameD {f : Addr} {fd : FuncData} (F : Fun K "_law_same" "_law_same" s__law_same f fd) (bA : Binds K fd ["told", "due"] []) (mA : mg "_law_same" = some (.ref f)) (G_law_whole : Kn P w K mg base 1 "_law_whole" ["value"] spWhole) :
    ∀ n, FnOk P w K mg base CX0 (n + 2) f fd ["told", "due"] (spSameD n) := by
  have flat : ∀ (G_law_same : Kn P w K mg base 0 "_law_same" ["told", "due"] (fun _ _ _ _ => False)) (cdv : Value) (A : Around) (outer : List Env) (s : Shared) (H : Hp) (x : V) (Q : VK) (E : XK), Room 1 (A.deeper (envOfC "_law_same" (defScope s__law_same) s.heap.objs.size f cdv)) → ((x = .non) ∨ ∃ i, x = .int i) → Q (.bl true) H →
      ∃ t, PSs (cxOf CX0 P w K mg base n__law_same "_law_same" (defScope s__law_same) f cdv A outer s H E).nox (defBody s__law_same) t ∧ t { nx := fun _ H' => Q .non H', rt := Q } (start n__law_same [x, x]) H := by
    intro G_law_same cdv A outer s H x Q E hr hx q
    have nd := sc__law_same.nd
    refine ⟨_, pss_cons (ps_if (pt_val (pe_callB call_isi (by rfl) M.isinstance boot_isinstance (pa_cons (pv 1) (pa_cons (pe_bltn (v := .ty "tuple") (by rfl) M.tuple PyProof.Rows.boot_tuple rfl) pa_nil)))) (pss_cons (ps_if (PW.pt (pw_or (pt_not (pt_val (pe_callB call_isi (by rfl) M.isinstance boot_isinstance (pa_cons (pv 0) (pa_cons (pe_bltn (v := .ty "tuple") (by rfl) M.tuple PyProof.Rows.boot_tuple rfl) pa_nil))))) (pw_or1 (pt_cmpR op_ne (pe_callB call_len_seq (by rfl) M.len PySem.boot_len (pa_cons (pv 0) pa_nil)) (pe_callB call_len_seq (by rfl) M.len PySem.boot_len (pa_cons (pv 1) pa_nil)) (nomark _))))) (pss_one (ps_ret pe_bl)) pss_nil)
      (pss_cons (ps_for PassesOwn.never rfl (pi_range1 rfl M.range (pa_cons (pe_callB call_len_seq (by rfl) M.len PySem.boot_len (pa_cons (pv 1) pa_nil)) pa_nil)) (pg_name (i := 2) nd rfl (.inl rfl)) (pss_one (ps_if (pt_not (pt_val (pe_call G_law_same.ok (hr.mono (by decide)) (by rfl) G_law_same.m G_law_same.kp G_law_same.b .nil pass0 (pa_cons (pe_ix ix_tup (pv 0) (pv 2) (fun _ _ => rfl)) (pa_cons (pe_ix ix_tup (pv 1) (pv 2) (fun _ _ => rfl)) pa_nil))))) (pss_one (ps_ret pe_bl)) pss_nil)))
      (pss_one (ps_ret pe_bl)))) pss_nil)
    (pss_cons (ps_if (pt_cmpR op_isN (pv 1) pe_non (nomark _)) (pss_one (ps_ret (pe_cmpR op_isN (pv 0) pe_non (nomark _)))) pss_nil)
    (pss_one (ps_ret (pe_and (pe_call G_law_whole.ok (hr.mono (by decide)) (by rfl) G_law_whole.m G_law_whole.kp G_law_whole.b .nil pass0 (pa_cons (pv 0) pa_nil)) (pe_one (pe_cmpR op_eq (pv 0) (pv 1) (nomark _))))))), ?_⟩
    rcases hx with rfl | ⟨i, rfl⟩
    · refine ⟨_, rfl, _, _, _, _, false, rfl, .ty "tuple", .base .non, kit_ty (by decide +kernel), false, rfl, iteF ?_⟩
      exact ⟨_, rfl, rfl, _, rfl, iteT ⟨_, rfl, rfl, q⟩⟩
    · refine ⟨_, rfl, _, _, _, _, false, rfl, .ty "tuple", .base (.int i), kit_ty (by decide +kernel), false, rfl, iteF ?_⟩
      refine ⟨_, rfl, rfl, _, rfl, iteF ?_⟩
      refine ⟨_, rfl, i, rfl, true, rfl, iteT ⟨_, rfl, _, rfl, rfl, ?_⟩⟩
      show Q (.bl (decide (V.int i = V.int i))) H
      rw [decide_eq_true rfl]
      exact q
  have eqx : ∀ {t u : V} {d : DT}, ((d = .non ∧ t = .non) ∨ ∃ i, d = .int i ∧ t = .int i) → ((d = .non ∧ u = .non) ∨ ∃ i, d = .int i ∧ u = .int i) → t = u ∧ (t = .non ∨ ∃ i, t = .int i) := by
    rintro t u d (⟨h1, h2⟩ | ⟨i, h1, h2⟩) (⟨h3, h4⟩ | ⟨j, h3, h4⟩)
    · exact ⟨by rw [h2, h4], .inl h2⟩
    · rw [h1] at h3; exact nomatch h3
    · rw [h1] at h3; exact nomatch h3
    · rw [h1] at h3
      cases h3
      exact ⟨by rw [h2, h4], .inr ⟨i, h2⟩⟩
  have GN : Kn P w K mg base 0 "_law_same" ["told", "due"] (fun _ _ _ _ => False) := ⟨f, fd, neverOk fun _ _ _ _ h => h, bA, F.kp, mA⟩
  intro n
  induction n with
  | zero =>
    refine F.ok sc__law_same (fun vs H Q E h => ?_) (fun cdv A outer s H vs Q E hr h => ?_)
    · obtain ⟨t, u, d, rfl, _⟩ := h
      rfl
    obtain ⟨t, u, d, rfl, h1, h2, q⟩ := h
    obtain ⟨rfl, hx⟩ := eqx h1 h2
    exact flat GN cdv A outer s H t Q E hr hx q
  | succ n ih =>
    refine F.ok sc__law_same (fun vs H Q E h => ?_) (fun cdv A outer s H vs Q E hr h => ?_)
    · obtain ⟨t, u, d, rfl, _⟩ := h
      rfl
    obtain ⟨t, u, d, rfl, h1, h2, q⟩ := h
    rcases h1 with h1 | ⟨a, xs, ds, rfl, rfl, ea, la, pa⟩
    · rcases h2 with h2 | ⟨b, ys, ds, rfl, rfl, eb, lb, pb⟩
      · obtain ⟨rfl, hx⟩ := eqx h1 h2
        exact flat GN cdv A outer s H t Q E (hr.mono (by omega)) hx q
      · rcases h1 with ⟨h, _⟩ | ⟨_, h, _⟩ <;> exact nomatch h
    · rcases h2 with h2 | ⟨b, ys, ds2, hds, rfl, eb, lb, pb⟩
      · rcases h2 with ⟨h, _⟩ | ⟨_, h, _⟩ <;> exact nomatch h
      cases hds
      have G_law_same : Kn P w K mg base (n + 2) "_law_same" ["told", "due"] (spSameD n) := ⟨f, fd, ih, bA, F.kp, mA⟩
      have lab : ys.length = xs.length := by rw [pa.length, pb.length]
      have nd := sc__law_same.nd
      refine ⟨_, pss_cons (ps_if (pt_val (pe_callB call_isi (by rfl) M.isinstance boot_isinstance (pa_cons (pv 1) (pa_cons (pe_bltn (v := .ty "tuple") (by rfl) M.tuple PyProof.Rows.boot_tuple rfl) pa_nil)))) (pss_cons (ps_if (PW.pt (pw_or (pt_not (pt_val (pe_callB call_isi (by rfl) M.isinstance boot_isinstance (pa_cons (pv 0) (pa_cons (pe_bltn (v := .ty "tuple") (by rfl) M.tuple PyProof.Rows.boot_tuple rfl) pa_nil))))) (pw_or1 (pt_cmpR op_ne (pe_callB call_len_seq (by rfl) M.len PySem.boot_len (pa_cons (pv 0) pa_nil)) (pe_callB call_len_seq (by rfl) M.len PySem.boot_len (pa_cons (pv 1) pa_nil)) (nomark _))))) (pss_one (ps_ret pe_bl)) pss_nil)
      (pss_cons (ps_for PassesOwn.never rfl (pi_range1 rfl M.range (pa_cons (pe_callB call_len_seq (by rfl) M.len PySem.boot_len (pa_cons (pv 1) pa_nil)) pa_nil)) (pg_name (i := 2) nd rfl (.inl rfl)) (pss_one (ps_if (pt_not (pt_val (pe_call G_law_same.ok (hr.mono (by omega)) (by rfl) G_law_same.m G_law_same.kp G_law_same.b .nil pass0 (pa_cons (pe_ix ix_tup (pv 0) (pv 2) (fun _ _ => rfl)) (pa_cons (pe_ix ix_tup (pv 1) (pv 2) (fun _ _ => rfl)) pa_nil))))) (pss_one (ps_ret pe_bl)) pss_nil)))
      (pss_one (ps_ret pe_bl)))) pss_nil)
    (pss_cons (ps_if (pt_cmpR op_isN (pv 1) pe_non (nomark _)) (pss_one (ps_ret (pe_cmpR op_isN (pv 0) pe_non (nomark _)))) pss_nil)
    (pss_one (ps_ret (pe_and (pe_call G_law_whole.ok (hr.mono (by omega)) (by rfl) G_law_whole.m G_law_whole.kp G_law_whole.b .nil pass0 (pa_cons (pv 0) pa_nil)) (pe_one (pe_cmpR op_eq (pv 0) (pv 1) (nomark _))))))), ?_⟩
      refine ⟨_, rfl, _, _, _, _, true, rfl, .ty "tuple", .base (.tup eb), kit_ty (by decide +kernel), true, rfl, iteT ?_⟩
      refine ⟨_, rfl, _, _, _, _, true, rfl, .ty "tuple", .base (.tup ea), kit_ty (by decide +kernel), true, rfl, iteF ?_⟩
      refine ⟨_, rfl, a, _, rfl, .inr (sqT ea), _, rfl, b, _, rfl, .inr (sqT eb), rfl, _, rfl, iteNS (by rw [lab]) ?_⟩
      refine ⟨_, rfl, b, _, rfl, .inr (sqT eb), _, rfl, by omega, by omega, ?_⟩
      rw [show (((ys.length : Nat) : Int)).toNat = ys.length from rfl]
      refine for_range (n := ys.length) (fun i σ H' => H' = H ∧ ∃ y : Option V, σ = [some (.ref a), some (.ref b), y]) ⟨rfl, Option.none, rfl⟩ ?_ ?_
      · rintro i σ H' hi ⟨rfl, y, rfl⟩
        have ey : ys[i]? = some ys[i] := List.getElem?_eq_getElem hi
        have ex : xs[i]? = some (xs[i]'(by omega)) := List.getElem?_eq_getElem (by omega)
        obtain ⟨d1, hd1, r1⟩ := pr_get pa ex
        obtain ⟨d2, hd2, r2⟩ := pr_get pb ey
        rw [hd1] at hd2
        cases hd2
        refine ⟨_, rfl, _, rfl, a, _, _, _, rfl, rfl, sqT ea, (by rw [Int.zero_add]; exact atI_nat ex), _, rfl, _, rfl, b, _, _, _, rfl, rfl, sqT eb, (by rw [Int.zero_add]; exact atI_nat ey), _, _, d1, rfl, r1, r2, true, rfl, iteF ?_⟩
        exact ⟨rfl, _, rfl⟩
      · rintro σ H' ⟨rfl, y, rfl⟩
        exact q
end
end GM
set_option Elab.async false
set_option linter.all false
set_option maxRecDepth 100000
set_option maxHeartbeats 4000000
set_option pp.maxSteps 150
set_option pp.deepTerms false
namespace GM
open PySem PySem.Spec PyProof.Rows L2
/-! ### the same of tuples -/
section
variable {P : Program} {w : World} {K : PySem.W.Frag} {mg : Str → Option Value} {base : Heap} (M : Blt mg)
include M
def spSuccT : Sp := fun vs H Q _ => ∃ (a : Addr) (xs : List Int) (n : Int), vs = [.ref a, .int n] ∧ H a = some (.tup (xs.map V.int)) ∧ Asc n xs ∧ ∀ H', Same H H' → Q (.bl true) H'
theorem ok_succT {f : Addr} {fd : FuncData} (F : Fun K "are_successors" "are_successors" s_are_successors f fd) (Gis_whole : Kn P w K mg base 1 "is_whole" ["value"] spWhole) :
    FnOk P w K mg base CX0 2 f fd ["value", "count"] spSuccT := by
  refine F.ok sc_are_successors (fun vs H Q E h => ?_) (fun cdv A outer s H vs Q E hr h => ?_)
  · obtain ⟨a, xs, n, rfl, _⟩ := h
    rfl
  obtain ⟨a, xs, n, rfl, ea, ha, q⟩ := h
  have nd := sc_are_successors.nd
  refine ⟨_, pss_cons (ps_if (pt_not (pt_val (pe_callB call_isiT (by rfl) M.isinstance boot_isinstance (pa_cons (pv 0) (pa_cons (pe_tup (pa_cons (pe_bltn (v := .ty "list") (by rfl) M.list PyProof.Rows.boot_list rfl) (pa_cons (pe_bltn (v := .ty "tuple") (by rfl) M.tuple PyProof.Rows.boot_tuple rfl) pa_nil))) pa_nil))))) (pss_one (ps_ret pe_bl)) pss_nil)
    (pss_cons (ps_set (i := 2) nd rfl (.inl rfl) pe_int)
    (pss_cons (ps_for PassesOwn.never rfl (pi_tup (pv 0)) (pg_name (i := 3) nd rfl (.inl rfl)) (pss_cons (ps_if (PW.pt (pw_or (pt_not (pt_val (pe_call Gis_whole.ok (hr.mono (by decide)) (by rfl) Gis_whole.m Gis_whole.kp Gis_whole.b .nil pass0 (pa_cons (pv 3) pa_nil)))) (pw_or1 (pt_not (pt_chain op_le op_lt (pv 2) (pv 3) (pv 1)))))) (pss_one (ps_ret pe_bl)) pss_nil)
      (pss_one (ps_set (i := 2) nd rfl (.inl rfl) (pe_op op_add (pv 3) pe_int)))))
    (pss_one (ps_ret (pe_cmpR op_gt (pe_callB call_len_seq (by rfl) M.len PySem.boot_len (pa_cons (pv 0) pa_nil)) pe_int (nomark _)))))), ?_⟩
  refine ⟨_, rfl, le_line (n := 2) (by decide), fun t ht => ?_⟩
  have st := same_new ht (.tup [.ty "list", .ty "tuple"])
  refine ⟨_, t, _, _, _, true, rfl, upd_same, .cons (.ty "list") (.cons (.ty "tuple") .nil), .base (.tup (st _ _ ea)), kitAny_cons (b := false) (kit_ty (by decide +kernel)) (fun _ => kitAny_cons (b := true) (kit_ty (by decide +kernel)) (fun z => nomatch z) (fun _ => rfl)) (fun z => nomatch z), true, rfl, iteF ?_⟩
  have hlen : xs.length ≤ 1000 := ha.2.2.2
  refine ⟨_, rfl, a, rfl, ⟨_, sqT (st _ _ ea)⟩, for_tup (xs := xs.map V.int) (fun i σ H' => Same H H' ∧ ∃ (l : Int) (y : Option V), (l = 0 ∨ ∃ j z, j < i ∧ xs[j]? = some z ∧ l = z + 1) ∧ σ = [some (.ref a), some (.int n), some (.int l), y]) ⟨st, 0, Option.none, .inl rfl, rfl⟩ (fun i σ H' _ z => sqT (z.1 _ _ ea)) ?_ ?_⟩
  · rintro i x σ H' hx ⟨sm, l, y, hl, rfl⟩
    obtain ⟨z, hz, rfl⟩ := map_at hx
    obtain ⟨h1, h2⟩ := asc_step ha hz l hl
    refine ⟨_, rfl, _, rfl, true, rfl, iteF ?_⟩
    refine ⟨_, rfl, _, rfl, _, _, rfl, rfl, _, rfl, ?_⟩
    rw [if_pos (decide_eq_true h1)]
    refine ⟨_, rfl, _, _, rfl, rfl, true, congrArg V.bl (decide_eq_true h2), iteF ?_⟩
    refine ⟨_, rfl, _, _, rfl, rfl, ?_⟩
    exact ⟨sm, z + 1, _, .inr ⟨i, z, Nat.lt_succ_self _, hz, rfl⟩, rfl⟩
  · rintro σ H' ⟨sm, l, y, hl, rfl⟩
    refine ⟨_, rfl, a, _, rfl, .inr (sqT (sm _ _ ea)), _, _, rfl, rfl, ?_⟩
    have e : decide ((0 : Int) < (((xs.map V.int).length : Nat) : Int)) = true := decide_eq_true (by
      rw [List.length_map]
      have := List.length_pos_iff.mpr ha.2.2.1
      omega)
    show Q (.bl (decide ((0 : Int) < (((xs.map V.int).length : Nat) : Int)))) H'
    rw [e]
    exact q H' sm
def spAs1T : Sp := fun vs H Q _ => ∃ (a : Addr) (xs : List Int), vs = [.ref a] ∧ H a = some (.tup (xs.map V.int)) ∧ xs.length ≤ 1000 ∧ ∀ p H', Same H H' → H p = none → H' p = some (.tup (xs.map V.int)) → Q (.ref p) H'
def spAs2T : Sp := fun vs H Q _ => ∃ (a : Addr) (rs : List Addr) (xss : List (List Int)), vs = [.ref a] ∧ H a = some (.tup (rs.map V.ref)) ∧ Paired (fun r xs => H r = some (.tup (xs.map V.int))) rs xss ∧ rs.length ≤ 1000 ∧ (∀ xs ∈ xss, xs.length ≤ 1000) ∧
  ∀ p ts H', Same H H' → H p = none → H' p = some (.tup (ts.map V.ref)) → Paired (fun t xs => H' t = some (.tup (xs.map V.int))) ts xss → Q (.ref p) H'
theorem ok_as1T {f : Addr} {fd : FuncData} (F : Fun K "as_tuples" "as_tuples" s_as_tuples f fd) (Gas_tuples : Kn P w K mg base 1 "as_tuples" ["value"] spAs0) : FnOk P w K mg base CX0 2 f fd ["value"] spAs1T := by
  refine F.ok sc_as_tuples (fun vs H Q E h => ?_) (fun cdv A outer s H vs Q E hr h => ?_)
  · obtain ⟨a, xs, rfl, _⟩ := h
    rfl
  obtain ⟨a, xs, rfl, ea, hl, q⟩ := h
  have nd := sc_as_tuples.nd
  refine ⟨_, pss_cons (ps_if (pt_val (pe_callB call_isiT (by rfl) M.isinstance boot_isinstance (pa_cons (pv 0) (pa_cons (pe_tup (pa_cons (pe_bltn (v := .ty "list") (by rfl) M.list PyProof.Rows.boot_list rfl) (pa_cons (pe_bltn (v := .ty "tuple") (by rfl) M.tuple PyProof.Rows.boot_tuple rfl) pa_nil))) pa_nil)))) (pss_one (ps_ret (pe_tupleOf (by rfl) M.tuple (pe_lc (own := [("item", 1)]) (g := gName 1) (tt := tYes) rfl nd (pi_tup (pv 0)) (blkOk_by (N := n_as_tuples) (sc := defScope s_as_tuples) (by decide +kernel)) (fun _ _ _ _ _ => pg_name (i := 1) nd rfl (Or.inl rfl)) (fun _ _ _ _ _ => pts_nil) (fun _ _ _ _ _ => (pe_call Gas_tuples.ok (hr.mono (by decide)) (by rfl) Gas_tuples.m Gas_tuples.kp Gas_tuples.b .nil pass0 (pa_cons (pv 1) pa_nil))))))) pss_nil)
    (pss_one (ps_ret (pv 0))), ?_⟩
  refine ⟨_, rfl, le_line (n := 2) (by decide), fun t ht => ?_⟩
  have st := same_new ht (.tup [.ty "list", .ty "tuple"])
  refine ⟨_, t, _, _, _, true, rfl, upd_same, .cons (.ty "list") (.cons (.ty "tuple") .nil), .base (.tup (st _ _ ea)), kitAny_cons (b := false) (kit_ty (by decide +kernel)) (fun _ => kitAny_cons (b := true) (kit_ty (by decide +kernel)) (fun z => nomatch z) (fun _ => rfl)) (fun z => nomatch z), true, rfl, iteT ?_⟩
  refine ⟨_, rfl, a, rfl, ⟨_, sqT (st _ _ ea)⟩, fun D hD => ?_⟩
  refine lc_tup (xs := xs.map V.int) (fun i H' => Same H H' ∧ H' D = some (.lst ((xs.take i).map V.int))) ⟨st.trans (same_new hD _), upd_same⟩ (fun i H' _ z => sqT (z.1 _ _ ea)) ?_ ?_
  · rintro i x H1 hx ⟨sm, eD⟩
    obtain ⟨z, hz, rfl⟩ := map_at hx
    refine ⟨rfl, tYI ?_⟩
    refine ⟨_, rfl, z, rfl, fun H2 s2 => ⟨_, s2 _ _ eD, ?_, same_upd (sm.trans s2) (st.free hD) _, ?_⟩⟩
    · rw [List.length_map]; exact lt_line (Nat.le_trans (List.length_take_le' _ _) hl)
    · rw [upd_same, tk1 hz, List.map_append]; rfl
  · rintro H1 ⟨sm, eD⟩
    rw [List.length_map, List.take_length] at eD
    refine .inl ⟨D, _, rfl, SqL.of eD, fun u hu => ?_⟩
    exact q u _ (sm.trans (same_new hu _)) (sm.free hu) upd_same
theorem ok_as2T {f : Addr} {fd : FuncData} (F : Fun K "as_tuples" "as_tuples" s_as_tuples f fd) (Gas_tuples : Kn P w K mg base 2 "as_tuples" ["value"] spAs1T) : FnOk P w K mg base CX0 3 f fd ["value"] spAs2T := by
  refine F.ok sc_as_tuples (fun vs H Q E h => ?_) (fun cdv A outer s H vs Q E hr h => ?_)
  · obtain ⟨a, rs, xss, rfl, _⟩ := h
    rfl
  obtain ⟨a, rs, xss, rfl, ea, pr, hl, hls, q⟩ := h
  have nd := sc_as_tuples.nd
  refine ⟨_, pss_cons (ps_if (pt_val (pe_callB call_isiT (by rfl) M.isinstance boot_isinstance (pa_cons (pv 0) (pa_cons (pe_tup (pa_cons (pe_bltn (v := .ty "list") (by rfl) M.list PyProof.Rows.boot_list rfl) (pa_cons (pe_bltn (v := .ty "tuple") (by rfl) M.tuple PyProof.Rows.boot_tuple rfl) pa_nil))) pa_nil)))) (pss_one (ps_ret (pe_tupleOf (by rfl) M.tuple (pe_lc (own := [("item", 1)]) (g := gName 1) (tt := tYes) rfl nd (pi_tup (pv 0)) (blkOk_by (N := n_as_tuples) (sc := defScope s_as_tuples) (by decide +kernel)) (fun _ _ _ _ _ => pg_name (i := 1) nd rfl (Or.inl rfl)) (fun _ _ _ _ _ => pts_nil) (fun _ _ _ _ _ => (pe_call Gas_tuples.ok (hr.mono (by decide)) (by rfl) Gas_tuples.m Gas_tuples.kp Gas_tuples.b .nil pass0 (pa_cons (pv 1) pa_nil))))))) pss_nil)
    (pss_one (ps_ret (pv 0))), ?_⟩
  refine ⟨_, rfl, le_line (n := 2) (by decide), fun t ht => ?_⟩
  have st := same_new ht (.tup [.ty "list", .ty "tuple"])
  refine ⟨_, t, _, _, _, true, rfl, upd_same, .cons (.ty "list") (.cons (.ty "tuple") .nil), .base (.tup (st _ _ ea)), kitAny_cons (b := false) (kit_ty (by decide +kernel)) (fun _ => kitAny_cons (b := true) (kit_ty (by decide +kernel)) (fun z => nomatch z) (fun _ => rfl)) (fun z => nomatch z), true, rfl, iteT ?_⟩
  refine ⟨_, rfl, a, rfl, ⟨_, sqT (st _ _ ea)⟩, fun D hD => ?_⟩
  refine lc_tup (xs := rs.map V.ref) (fun i H' => Same H H' ∧ ∃ ts : List Addr, H' D = some (.lst (ts.map V.ref)) ∧ Paired (fun t xs => t ≠ D ∧ H' t = some (.tup (xs.map V.int))) ts (xss.take i)) ⟨st.trans (same_new hD _), [], upd_same, .nil⟩ (fun i H' _ z => sqT (z.1 _ _ ea)) ?_ ?_
  · rintro i x H1 hx ⟨sm, ts, eD, pt⟩
    obtain ⟨r, hr', rfl⟩ := map_atV hx
    obtain ⟨xs, hxs, er⟩ := pr_get pr hr'
    have li := lt_of_at hxs
    have lt : ts.length = i := by rw [pt.length, List.length_take, Nat.min_eq_left (Nat.le_of_lt li)]
    refine ⟨rfl, tYI ?_⟩
    refine ⟨_, rfl, r, xs, rfl, sm _ _ er, hls xs (List.mem_of_getElem? hxs), fun p H2 s2 hp e2 => ⟨_, s2 _ _ eD, ?_, same_upd (sm.trans s2) (st.free hD) _, ts ++ [p], ?_, ?_⟩⟩
    · rw [List.length_map, lt]; exact lt_line (by have := lt_of_at hr'; omega)
    · rw [upd_same, List.map_append]; rfl
    · have hpD : p ≠ D := fun z => by rw [z, eD] at hp; cases hp
      rw [tk1 hxs]
      exact (L2.Paired.mapP pt fun b ys z => ⟨z.1, by rw [upd_ne z.1]; exact s2 _ _ z.2⟩).snoc ⟨hpD, by rw [upd_ne hpD]; exact e2⟩
  · rintro H1 ⟨sm, ts, eD, pt⟩
    rw [List.length_map, pr.length, List.take_length] at pt
    refine .inl ⟨D, _, rfl, SqL.of eD, fun u hu => ?_⟩
    have su := same_new hu (.tup (ts.map V.ref))
    exact q u ts _ (sm.trans su) (sm.free hu) upd_same (L2.Paired.mapP pt fun b ys z => su _ _ z.2)
end
def spInitT (C : Addr) : Sp := fun vs H Q _ => ∃ (p dx a b c : Addr) (os ps : List Int) (rs : List Addr) (rows : List (List Int)), vs = [.ref p, .ref a, .ref b, .ref c] ∧ H p = some (.ins C dx []) ∧ H a = some (.lst (os.map V.int)) ∧ H b = some (.lst (ps.map V.int)) ∧ H c = some (.tup (rs.map V.ref)) ∧
  Paired (fun r xs => H r = some (.tup (xs.map V.int))) rs rows ∧ Valid os ps rows ∧
  ∀ H' a' b' c' ts m, GameAt C H' p os ps rows dx a' b' c' ts m → (∀ q o, H q = some o → q ≠ p → H' q = some o) → Q .non H'
section
variable {P : Program} {w : World} {K : PySem.W.Frag} {mg : Str → Option Value} {base : Heap} {C : Addr} (M : Blt mg) (T : GTxt K mg C)
include M T
theorem ok_initT {f : Addr} {fd : FuncData} (F : Fun K "__init__" "Game.__init__" s_Game___init__ f fd) (Gis_number_to : Kn P w K mg base 2 "is_number_to" ["value", "most"] spNumTo) (Gare_successors : Kn P w K mg base 2 "are_successors" ["value", "count"] spSuccT)
    (Gas_tuples : Kn P w K mg base 3 "as_tuples" ["value"] spAs2T) :
    FnOk P w K mg base CX0 4 f fd ["self", "owners", "priorities", "successors"] (spInitT C) := by
  refine F.ok sc_Game___init__ (fun vs H Q E h => ?_) (fun cdv A outer s H vs Q E hr h => ?_)
  · obtain ⟨p, dx, a, b, c, os, ps, rs, rows, rfl, _⟩ := h
    rfl
  obtain ⟨p, dx, a, b, c, os, ps, rs, rows, rfl, hp, ea, eb, ec, er, V0, q⟩ := h
  obtain ⟨tg, egp⟩ := T.gp
  have hu := hr.units
  have nd := sc_Game___init__.nd
  refine ⟨_, pss_cons (ps_for PassesOwn.never rfl (pi_range1 rfl M.range (pa_cons (pe_callB call_len_seq (by rfl) M.len PySem.boot_len (pa_cons (pv 1) pa_nil)) pa_nil)) (pg_name (i := 4) nd rfl (.inl rfl)) (pss_one (ps_if (pt_not (PW.pt (pw_and (pt_val (pe_call Gis_number_to.ok (hr.mono (by decide)) (by rfl) Gis_number_to.m Gis_number_to.kp Gis_number_to.b .nil pass0 (pa_cons (pe_ix ix_list (pv 1) (pv 4) (fun _ _ => rfl)) (pa_cons pe_int pa_nil)))) (pw_and (pt_val (pe_call Gis_number_to.ok (hr.mono (by decide)) (by rfl) Gis_number_to.m Gis_number_to.kp Gis_number_to.b .nil pass0 (pa_cons (pe_ix ix_list (pv 2) (pv 4) (fun _ _ => rfl)) (pa_cons (pe_glob (v := .int 30) (by rfl) egp ⟨_, rfl⟩) pa_nil)))) (pw_and1 (pt_val (pe_call Gare_successors.ok (hr.mono (by decide)) (by rfl) Gare_successors.m Gare_successors.kp Gare_successors.b .nil pass0 (pa_cons (pe_ix ix_tup (pv 3) (pv 4) (fun _ _ => rfl)) (pa_cons (pe_callB call_len_seq (by rfl) M.len PySem.boot_len (pa_cons (pv 1) pa_nil)) pa_nil))))))))) (pss_one ps_never) pss_nil)))
    (pss_cons (ps_fld (pv 0) (pe_tupleOf (by rfl) M.tuple (pv 1)) rfl)
    (pss_cons (ps_fld (pv 0) (pe_tupleOf (by rfl) M.tuple (pv 2)) rfl)
    (pss_cons (ps_fld (pv 0) (pe_call Gas_tuples.ok (hr.mono (by decide)) (by rfl) Gas_tuples.m Gas_tuples.kp Gas_tuples.b .nil pass0 (pa_cons (pv 3) pa_nil)) rfl)
    (pss_cons (ps_fld (pv 0) (pe_callBK (cr_maxDef rfl (Nat.lt_of_le_of_lt (Nat.add_le_add_left (by decide) _) hu)) (by rfl) M.max (by decide +kernel) (pa_cons (pe_fld (pv 0) rfl) pa_nil) (pk_cons pe_int pk_nil)) rfl)
    (pss_cons (ps_fld (pv 0) (pe_op op_fdiv (pe_op op_add (pe_fld (pv 0) rfl) pe_int) pe_int) rfl)
    (pss_one (ps_fld (pv 0) (pe_op op_sub (pe_op op_add (pe_fld (pv 0) rfl) pe_int) (pe_op op_mod (pe_fld (pv 0) rfl) pe_int)) rfl))))))), ?_⟩
  have n1 := V0.n
  refine ⟨_, rfl, a, _, rfl, .inl (SqL.of ea), _, rfl, (by rw [List.length_map]; omega), (by rw [List.length_map]; omega), ?_⟩
  have hn : (((os.map V.int).length : Nat) : Int).toNat = os.length := by rw [List.length_map]; rfl
  rw [hn]
  refine for_range (n := os.length) (fun i σ H' => Same H H' ∧ ∃ y : Option V, σ = [some (.ref p), some (.ref a), some (.ref b), some (.ref c), y]) ⟨fun _ _ e => e, Option.none, rfl⟩ ?_ ?_
  · rintro i σ H' hi ⟨sm, y, rfl⟩
    have eo : os[i]? = some os[i] := List.getElem?_eq_getElem hi
    have hip : i < ps.length := by rw [V0.l1]; exact hi
    have hir : i < rows.length := by rw [V0.l2]; exact hi
    have ep : ps[i]? = some ps[i] := List.getElem?_eq_getElem hip
    have erw : rows[i]? = some rows[i] := List.getElem?_eq_getElem hir
    obtain ⟨r, hr', ex⟩ := pr_getR er erw
    have b1 := V0.o _ (List.getElem_mem hi)
    have b2 := V0.p _ (List.getElem_mem hip)
    have b3 := V0.r _ (List.getElem_mem hir)
    refine ⟨_, rfl, _, rfl, a, _, _, _, rfl, rfl, SqL.of (sm _ _ ea), (by rw [Int.zero_add]; exact atI_nat (at_map eo)), os[i], 1, rfl, b1.1, b1.2, true, rfl, iteT ?_⟩
    refine ⟨_, rfl, _, rfl, b, _, _, _, rfl, rfl, SqL.of (sm _ _ eb), (by rw [Int.zero_add]; exact atI_nat (at_map ep)), ps[i], 30, rfl, b2.1, b2.2, true, rfl, iteT ?_⟩
    refine ⟨_, rfl, _, rfl, c, _, _, _, rfl, rfl, sqT (sm _ _ ec), (by rw [Int.zero_add]; exact atI_nat (at_map hr')), _, rfl, a, _, rfl, .inl (SqL.of (sm _ _ ea)), r, rows[i], _, rfl, sm _ _ ex, (by rw [List.length_map]; exact b3), fun H2 s2 => ⟨true, rfl, iteF ?_⟩⟩
    exact ⟨sm.trans s2, _, rfl⟩
  · rintro σ H0 ⟨sm0, y, rfl⟩
    have hp0 := sm0 _ _ hp
    have kp0 : Kp H H0 p := fun q o e _ => sm0 _ _ e
    have npa : ∀ {x : Addr} {l : List V}, H x = some (.lst l) → x ≠ p := fun e => ne_of e hp (fun z => nomatch z)
    have npaT : ∀ {x : Addr} {l : List V}, H x = some (.tup l) → x ≠ p := fun e => ne_of e hp (fun z => nomatch z)
    refine ⟨_, rfl, .inl ⟨a, _, rfl, SqL.of (kp0 _ _ ea (npa ea)), fun a' ha' => ?_⟩⟩
    have s1 := same_new ha' (.tup (os.map V.int))
    refine ⟨_, rfl, p, C, dx, _, rfl, s1 _ _ hp0, T.cl, T.nO, by decide, ?_⟩
    have pa : a' ≠ p := (ne_of_none hp0 ha').symm
    have kp1 : Kp H (upd (upd H0 a' (.tup (os.map V.int))) p (.ins C dx (fl1 a'))) p := (kp0.new ha' _).upd _
    have ga1 : (upd (upd H0 a' (.tup (os.map V.int))) p (.ins C dx (fl1 a'))) a' = some (.tup (os.map V.int)) := by rw [upd_ne pa, upd_same]
    have gp1 : (upd (upd H0 a' (.tup (os.map V.int))) p (.ins C dx (fl1 a'))) p = some (.ins C dx (fl1 a')) := upd_same
    show tSeq _ _ _ [some (.ref p), some (.ref a), some (.ref b), some (.ref c), y] (upd (upd H0 a' (.tup (os.map V.int))) p (.ins C dx (fl1 a')))
    generalize (upd (upd H0 a' (.tup (os.map V.int))) p (.ins C dx (fl1 a'))) = G1 at kp1 ga1 gp1 ⊢
    refine ⟨_, rfl, .inl ⟨b, _, rfl, SqL.of (kp1 _ _ eb (npa eb)), fun b' hb' => ?_⟩⟩
    have s2 := same_new hb' (.tup (ps.map V.int))
    refine ⟨_, rfl, p, C, dx, _, rfl, s2 _ _ gp1, T.cl, T.nP, Nat.lt_of_le_of_lt (fl1_len a') (by decide), ?_⟩
    have pb : b' ≠ p := (ne_of_none gp1 hb').symm
    have kp2 : Kp H (upd (upd G1 b' (.tup (ps.map V.int))) p (.ins C dx (fl2 a' b'))) p := (kp1.new hb' _).upd _
    have ga2 : (upd (upd G1 b' (.tup (ps.map V.int))) p (.ins C dx (fl2 a' b'))) a' = some (.tup (os.map V.int)) := by rw [upd_ne pa]; exact s2 _ _ ga1
    have gb2 : (upd (upd G1 b' (.tup (ps.map V.int))) p (.ins C dx (fl2 a' b'))) b' = some (.tup (ps.map V.int)) := by rw [upd_ne pb, upd_same]
    have gp2 : (upd (upd G1 b' (.tup (ps.map V.int))) p (.ins C dx (fl2 a' b'))) p = some (.ins C dx (fl2 a' b')) := upd_same
    show tSeq _ _ _ [some (.ref p), some (.ref a), some (.ref b), some (.ref c), y] (upd (upd G1 b' (.tup (ps.map V.int))) p (.ins C dx (fl2 a' b')))
    generalize (upd (upd G1 b' (.tup (ps.map V.int))) p (.ins C dx (fl2 a' b'))) = G2 at kp2 ga2 gb2 gp2 ⊢
    refine ⟨_, rfl, c, rs, rows, rfl, kp2 _ _ ec (npaT ec), (L2.Paired.mapP er fun _ _ e => kp2 _ _ e (npaT e)), ?_, fun xs hx => (V0.r xs hx).2.2.2, fun c' ts G3 s3 hc' gc3 gr3 => ?_⟩
    · rw [er.length, V0.l2]; exact V0.n
    refine ⟨_, rfl, p, C, dx, _, rfl, s3 _ _ gp2, T.cl, T.nS, Nat.lt_of_le_of_lt (fl2_len a' b') (by decide), ?_⟩
    have pc : c' ≠ p := (ne_of_none gp2 hc').symm
    have pt : ∀ {x : Addr} {l : List V}, G3 x = some (.tup l) → x ≠ p := fun e => ne_of e (s3 _ _ gp2) (fun z => nomatch z)
    have kp4 : Kp H (upd G3 p (.ins C dx (fl3 a' b' c'))) p := (kp2.same s3).upd _
    have ga4 : (upd G3 p (.ins C dx (fl3 a' b' c'))) a' = some (.tup (os.map V.int)) := by rw [upd_ne pa]; exact s3 _ _ ga2
    have gb4 : (upd G3 p (.ins C dx (fl3 a' b' c'))) b' = some (.tup (ps.map V.int)) := by rw [upd_ne pb]; exact s3 _ _ gb2
    have gc4 : (upd G3 p (.ins C dx (fl3 a' b' c'))) c' = some (.tup (ts.map V.ref)) := by rw [upd_ne pc]; exact gc3
    have gr4 : Paired (fun t xs => (upd G3 p (.ins C dx (fl3 a' b' c'))) t = some (.tup (xs.map V.int))) ts rows := L2.Paired.mapP gr3 fun t xs e => by rw [upd_ne (pt e)]; exact e
    have gp4 : (upd G3 p (.ins C dx (fl3 a' b' c'))) p = some (.ins C dx (fl3 a' b' c')) := upd_same
    show tSeq _ _ _ [some (.ref p), some (.ref a), some (.ref b), some (.ref c), y] (upd G3 p (.ins C dx (fl3 a' b' c')))
    generalize (upd G3 p (.ins C dx (fl3 a' b' c'))) = G4 at kp4 ga4 gb4 gc4 gr4 gp4 ⊢
    -- top
    have fin : ∀ m : Int, IsTop m ps → ∀ (D : Ends), D = { nx := fun x H' => Q V.non H', rt := Q } → sFld K (tVar 0) (tC (.int m)) "top" { D with nx := tSeq (sFld K (tVar 0) (tOp (rI CDiv fun i j => .int (i / j)) (tOp (rI0 fun i j => .int (i + j)) (tFld K (tVar 0) "top") (tC (.int 1))) (tC (.int 2))) "height") (sFld K (tVar 0) (tOp (rI0 fun i j => .int (i - j)) (tOp (rI0 fun i j => .int (i + j)) (tFld K (tVar 0) "top") (tC (.int 2))) (tOp (rI (fun _ j => 0 < j) fun i j => .int (i % j)) (tFld K (tVar 0) "top") (tC (.int 2)))) "ceiling") D } [some (.ref p), some (.ref a), some (.ref b), some (.ref c), y] G4 := by
      rintro m hm D rfl
      refine ⟨_, rfl, p, C, dx, _, rfl, gp4, T.cl, T.nT, Nat.lt_of_le_of_lt (fl3_len a' b' c') (by decide), ?_⟩
      refine ⟨_, rfl, p, C, dx, _, _, rfl, upd_same, T.cl, T.nT, fl4_top a' b' c' m, _, _, rfl, rfl, _, _, rfl, rfl, ⟨by decide, by decide⟩, _, rfl, p, C, dx, _, rfl, upd_same, T.cl, T.nH, Nat.lt_of_le_of_lt (fl4_len a' b' c' m) (by decide), ?_⟩
      refine ⟨_, rfl, p, C, dx, _, _, rfl, upd_same, T.cl, T.nT, fl5_top a' b' c' m, _, _, rfl, rfl, _, rfl, p, C, dx, _, _, rfl, upd_same, T.cl, T.nT, fl5_top a' b' c' m, _, _, rfl, rfl, (by show (0 : Int) < 2; decide), _, _, rfl, rfl, _, rfl, p, C, dx, _, rfl, upd_same, T.cl, T.nC, Nat.lt_of_le_of_lt (fl5_len a' b' c' m) (by decide), ?_⟩
      have pt4 : ∀ {x : Addr} {l : List V}, G4 x = some (.tup l) → x ≠ p := fun e => ne_of e gp4 (fun z => nomatch z)
      refine q _ a' b' c' ts m ⟨upd_same, ?_, ?_, ?_, ?_, hm⟩ (((kp4.upd _).upd _).upd _)
      · rw [upd_ne pa, upd_ne pa, upd_ne pa]; exact ga4
      · rw [upd_ne pb, upd_ne pb, upd_ne pb]; exact gb4
      · rw [upd_ne pc, upd_ne pc, upd_ne pc]; exact gc4
      · exact L2.Paired.mapP gr4 fun t xs e => by rw [upd_ne (pt4 e), upd_ne (pt4 e), upd_ne (pt4 e)]; exact e
    refine ⟨_, rfl, p, C, dx, _, _, rfl, gp4, T.cl, T.nP, fl3_pri a' b' c', b', ps, 0, rfl, rfl, sqT gb4, fun e => ?_, fun m h1 h2 => ?_⟩
    · exact fin 0 (.inl ⟨e, rfl⟩) _ rfl
    · exact fin m (.inr ⟨h1, h2⟩) _ rfl
end
end GM
set_option Elab.async false
set_option linter.all false
set_option maxRecDepth 100000
set_option maxHeartbeats 4000000
set_option pp.maxSteps 150
set_option pp.deepTerms false
namespace GM
open PySem PySem.Spec PyProof.Rows L2
/-! ### turned; _law_reads -/
def mI (g : Int → Int) : V → V
  | .int z => .int (g z)
  | x => x
theorem mapIdx_mI (g : Int → Int) (xs : List Int) : (xs.map V.int).mapIdx (fun _ x => mI g x) = (xs.map g).map V.int := by
  apply List.ext_getElem?
  intro i
  rw [List.getElem?_mapIdx, List.getElem?_map, List.getElem?_map, List.getElem?_map]
  cases xs[i]? <;> rfl
/-- the class Game, made of successors in tuples -/
structure KGT (P : Program) (w : World) (K : PySem.W.Frag) (mg : Str → Option Value) (base : Heap) (C : Addr) where
  f : Addr
  fd : FuncData
  cm : Mk K C f
  ok : FnOk P w K mg base CX0 4 f fd ["self", "owners", "priorities", "successors"] (spInitT C)
  b : Binds K fd ["self", "owners", "priorities", "successors"] []
structure KG (P : Program) (w : World) (K : PySem.W.Frag) (mg : Str → Option Value) (base : Heap) (C : Addr) where
  f : Addr
  fd : FuncData
  cm : Mk K C f
  ok : FnOk P w K mg base CX0 4 f fd ["self", "owners", "priorities", "successors"] (spInit C)
  b : Binds K fd ["self", "owners", "priorities", "successors"] []
def spTurned (C : Addr) : Sp := fun vs H Q _ => ∃ (p dx a b c : Addr) (os ps : List Int) (rows : List (List Int)) (ts : List Addr) (m : Int), vs = [.ref p] ∧ GameAt C H p os ps rows dx a b c ts m ∧ Valid os ps rows ∧ (∀ x ∈ ps, x ≤ 29) ∧
  ∀ H' r dy ya yb yc yts ym, Same H H' → GameAt C H' r (os.map fun z => 1 - z) (ps.map fun z => z + 1) rows dy ya yb yc yts ym → Q (.ref r) H'
section
variable {P : Program} {w : World} {K : PySem.W.Frag} {mg : Str → Option Value} {base : Heap} {C : Addr} (M : Blt mg) (T : GTxt K mg C)
include M T
theorem ok_turned {f : Addr} {fd : FuncData} (F : Fun K "turned" "Game.turned" s_Game_turned f fd) (GG : KGT P w K mg base C) : FnOk P w K mg base CX0 6 f fd ["self"] (spTurned C) := by
  refine F.ok sc_Game_turned (fun vs H Q E h => ?_) (fun cdv A outer s H vs Q E hr h => ?_)
  · obtain ⟨p, dx, a, b, c, os, ps, rows, ts, m, rfl, _⟩ := h
    rfl
  obtain ⟨p, dx, a, b, c, os, ps, rows, ts, m, rfl, G, V0, h29, q⟩ := h
  have nd := sc_Game_turned.nd
  refine ⟨_, pss_cons (ps_setLc (i := 1) (own := [("owner", 3)]) (g := gName 3) (tt := tYes) rfl nd rfl rfl (sw_true rfl rfl rfl (by decide +kernel)) (pi_tup (pe_fld (pv 0) rfl)) (blkOk_by (N := n_Game_turned) (sc := defScope s_Game_turned) (by decide +kernel)) (fun _ _ _ _ _ => pg_name (i := 3) nd rfl (Or.inl rfl)) (fun _ _ _ _ _ => pts_nil) (fun _ _ _ _ _ => (pe_op op_sub pe_int (pv 3))))
    (pss_cons (ps_setLc (i := 2) (own := [("priority", 4)]) (g := gName 4) (tt := tYes) rfl nd rfl rfl (sw_true rfl rfl rfl (by decide +kernel)) (pi_tup (pe_fld (pv 0) rfl)) (blkOk_by (N := n_Game_turned) (sc := defScope s_Game_turned) (by decide +kernel)) (fun _ _ _ _ _ => pg_name (i := 4) nd rfl (Or.inl rfl)) (fun _ _ _ _ _ => pts_nil) (fun _ _ _ _ _ => (pe_op op_add (pv 4) pe_int)))
    (pss_one (ps_ret (pe_make GG.cm GG.ok (hr.mono (by decide)) (by rfl) T.mgC GG.b .nil pass0 (pa_cons (pv 1) (pa_cons (pv 2) (pa_cons (pe_fld (pv 0) rfl) pa_nil))))))), ?_⟩
  have h60 : os.length ≤ 1000 := V0.n
  refine ⟨_, rfl, p, C, dx, _, _, rfl, G.ob, T.cl, T.nO, fld_own a b c m, a, rfl, ⟨_, sqT G.oa⟩, fun D1 hD1 => ?_⟩
  refine lc_mapT (xs := os.map V.int) (fun _ x => mI (fun z => 1 - z) x) (by rw [List.length_map]; exact h60) (sqT G.oa) hD1 (fun i x H' k nn hx sm h => ⟨rfl, tYI ?_⟩) (fun H1 s1 eD1 => ?_)
  · obtain ⟨z, hz, rfl⟩ := map_at hx
    exact ⟨_, rfl, _, _, rfl, rfl, h⟩
  rw [mapIdx_mI] at eD1
  have G1 := G.same s1
  refine ⟨_, rfl, p, C, dx, _, _, rfl, G1.ob, T.cl, T.nP, fld_pri a b c m, b, rfl, ⟨_, sqT G1.ob2⟩, fun D2 hD2 => ?_⟩
  refine lc_mapT (xs := ps.map V.int) (fun _ x => mI (fun z => z + 1) x) (by rw [List.length_map, V0.l1]; exact h60) (sqT G1.ob2) hD2 (fun i x H' k nn hx sm h => ⟨rfl, tYI ?_⟩) (fun H2 s2 eD2 => ?_)
  · obtain ⟨z, hz, rfl⟩ := map_at hx
    exact ⟨_, rfl, _, _, rfl, rfl, h⟩
  rw [mapIdx_mI] at eD2
  have G2 := G1.same s2
  have V1 : Valid (os.map fun z => 1 - z) (ps.map fun z => z + 1) rows := ⟨by rw [List.length_map, List.length_map]; exact V0.l1, by rw [List.length_map]; exact V0.l2, by rw [List.length_map]; exact V0.n, fun x hx => by
    obtain ⟨z, hz, rfl⟩ := List.mem_map.mp hx
    have := V0.o z hz
    omega, fun x hx => by
    obtain ⟨z, hz, rfl⟩ := List.mem_map.mp hx
    have := V0.p z hz
    have := h29 z hz
    omega, fun x hx => by rw [List.length_map]; exact V0.r x hx⟩
  refine ⟨_, rfl, _, rfl, _, rfl, p, C, dx, _, _, rfl, G2.ob, T.cl, T.nS, fld_suc a b c m, ?_⟩
  intro x dz nx ndz nez
  have mx : Same H2 (upd (upd H2 dz (.own x)) x (.ins C dz [])) := fun b' o e => by
    rw [upd_ne (ne_of_none e nx), upd_ne (ne_of_none e ndz)]
    exact e
  refine ⟨x, dz, D1, D2, c, _, _, ts, rows, rfl, upd_same, mx _ _ (s2 _ _ eD1), mx _ _ eD2, mx _ _ G2.oc, L2.Paired.mapP G2.or fun _ _ e => mx _ _ e, V1, fun H3 ya yb yc yts ym gy kp => ⟨rfl, ?_⟩⟩
  have s3 : Same H2 H3 := fun b' o e => kp b' o (mx _ _ e) (ne_of_none e nx)
  exact q H3 x dz ya yb yc yts ym ((s1.trans s2).trans s3) gy
end
end GM
set_option Elab.async false
set_option linter.all false
set_option maxRecDepth 100000
set_option maxHeartbeats 4000000
namespace GM
open PySem PySem.Spec PyProof.Rows L2
/-! ### a method that may raise, called; == by an own __eq__ -/
section
variable {X : Cx} {CX : CXT} {k : Nat} {f C : Addr} {fd : FuncData} {ps : List Str} {sp : Sp} {E : L2.St → XK} {m : Str} {pos apos : Pos} {e o : Expr} {es : List Expr} {ta : TE} {t : TA}
def tMethE (C : Addr) (m : Str) (sp : Sp) (E : L2.St → XK) (ta : TE) (t : TA) : TE := fun σ H Q => ta σ H fun x H1 => ∃ a dx fs, x = .ref a ∧ H1 a = some (.ins C dx fs) ∧ fs.lookup m = none ∧ t σ H1 fun vs H2 => sp (x :: vs) H2 Q (E σ)
theorem pe_methE {pl : Sem Bool} (he : PE X o ta) (c : Cls X.K C) (hm : Meth X.K C m f) (F : FnOk X.prog X.w X.K X.mg X.base CX k f fd ps sp) (hr : Room k X.A) (hb : Binds X.K fd ps []) (hx : ∀ σ, PassesAt CX X σ (E σ)) (ha : PA X (e :: es) t)
    (hst : starEach (e :: es) X.env = (false, eval e X.env) :: starEach es X.env := by rfl) (hpl : (backTo pos (starEach es X.env)).any (·.1) = false := by rfl)
    (ht : eval (.Call (.Attribute o m apos) (e :: es) [] pos) X.env = (do
      let ov ← eval o X.env
      standAt apos.atName
      let (f, first) ← holding [ov] (getMethod ov m pl)
      callWith pos f first (backTo pos (starEach (e :: es) X.env)) (backToKw pos (keywordEach [] X.env))) := by rfl) :
    PE X (.Call (.Attribute o m apos) (e :: es) [] pos) (tMethE C m sp E ta t) := by
  refine ⟨fun pins s σ H Q I h => ?_⟩
  refine PySem.W.methodCall_KW (pl := pl) (thn (he.run pins s σ H _ I h) fun u s1 ⟨x, H1, I1, rx, a, dx, fs, ex, ea, l, q⟩ => ?_) ht
  subst ex
  obtain rfl : u = Value.ref a := rx
  refine getmeth_ok I1 ea c hm l ?_
  refine PySem.W.callWith_K (first := [.ref a]) (h₀ := X.base) I.ok.mod.kin hm.kp (thn (ha.run pos pins s1 σ H1 _ I1 q) fun us s2 ⟨vs, H2, I2, r, q2⟩ => ⟨I2.kIn, ?_⟩) hst hpl
  exact run_fnS (us := .ref a :: us) (vs := .ref a :: vs) F hr hb (hx σ) I2 (.cons rfl r) q2
theorem op_eqOwn {n : Nat} {E : XK} (F : FnOk X.prog X.w X.K X.mg X.base CX n f fd ps sp)
    (hs : PySem.W.findIn X.K (.ref C) "__eq__" = some (some (.ref f))) (hf : PySem.W.isFn X.K (.ref f) = true) (hb : Binds X.K fd ps []) (hx : Passes CX X E) (hr : Room n X.A) (hu : X.A.units < cLine) :
    OpR X (compareOp .Eq) (fun x y H Q => ∃ a b dx dy fs gs, x = .ref a ∧ y = .ref b ∧ H a = some (.ins C dx fs) ∧ H b = some (.ins C dy gs) ∧ sp [.ref a, .ref b] H (fun v H' => ∃ c, v = .bl c ∧ Q (.bl c) H') E) := by
  intro pins s σ H x y v u Q I rx ry hq
  obtain ⟨a, b, dx, dy, fs, gs, rfl, rfl, ha, hb', hsp⟩ := hq
  cases rx
  cases ry
  show wpAny (model X.prog X.w) X.A (richCompare .Eq (.ref a) (.ref b)) (EP X pins σ Q) X.xe s
  obtain ⟨mA, J, _⟩ := ins_get I.hok ha
  obtain ⟨mB, J', _⟩ := ins_get I.hok hb'
  obtain ⟨od, J, _⟩ := J.look
  obtain ⟨od', J', _⟩ := J'.look
  obtain ⟨mm, hF⟩ := I.fr
  refine PySem.W.cmp_K (op := .Eq) (tb := .ref C) hu hF I.ok.mod.kin J J'.type (by simp [PySem.W.notFirst]) hs hf ?_
  have hl := F.len _ _ _ _ hsp
  have r2 : Vals [V.ref a, V.ref b] [Value.ref a, Value.ref b] := .cons rfl (.cons rfl .nil)
  refine wpAny_call (codeAny_mono (F.run X.A X.stack s H ⟨[.ref a, .ref b], []⟩ [.ref a, .ref b] [.ref a, .ref b] _ E hr I.env0 (by
    have := hb s [.ref a, .ref b] I.kIn (by simpa using hl)
    simpa using this) r2 hsp) fun r s' hq => ?_)
  cases r with
  | error e => exact hx pins σ H s e s' I hq
  | ok fl =>
    cases fl with
    | ret w =>
      obtain ⟨z, H', I', rz, c, ez, q⟩ := I.after hq
      subst ez
      cases rz
      exact ⟨.bl c, H', I', rfl, q⟩
    | next => exact False.elim hq
    | brk => exact False.elim hq
    | cont => exact False.elim hq
end
end GM
set_option Elab.async false
set_option linter.all false
set_option maxRecDepth 100000
set_option maxHeartbeats 4000000
set_option pp.maxSteps 150
set_option pp.deepTerms false
namespace GM
open PySem PySem.Spec PyProof.Rows L2
/-! ### == of games -/
structure GIs (K : PySem.W.Frag) (C : Addr) : Prop where
  ca : PySem.W.findIn K (.ref C) "__class__" = some (some (.builtin "object.__class__"))
  sp : PySem.W.specialIn K (.builtin "object.__class__") "__get__" = some (some (.builtin "getset_descriptor.__get__"))
  tk : PySem.W.takesIn K (.builtin "object.__class__") = some true
  mo : PySem.W.mroIn K C (.type "object") = some true
  kG : PySem.W.kitOne K (.ref C) (.ref C) = some true
def spEqG (C : Addr) : Sp := fun vs H Q _ => ∃ (p p2 : Addr) (os ps : List Int) (rows : List (List Int)) (dx a b c : Addr) (ts : List Addr) (m : Int) (os2 ps2 : List Int) (rows2 : List (List Int)) (dx2 a2 b2 c2 : Addr) (ts2 : List Addr) (m2 : Int), vs = [.ref p, .ref p2] ∧ GameAt C H p os ps rows dx a b c ts m ∧ GameAt C H p2 os2 ps2 rows2 dx2 a2 b2 c2 ts2 m2 ∧
  ∃ r : Bool, ((r = true ∧ os = os2 ∧ ps = ps2 ∧ rows = rows2) ∨ (r = false ∧ os ≠ os2)) ∧ Q (.bl r) H
/-! ### places in a list -/
def posF (k : Nat) : List Int → Int → Option Nat
  | [], _ => none
  | c :: cs, u => if c = u then some k else posF (k + 1) cs u
def numFrom (k : Nat) : List Int → List (Key × V)
  | [] => []
  | c :: cs => (.inl c, .int (k : Nat)) :: numFrom (k + 1) cs
theorem numFrom_len : ∀ (cs : List Int) (k : Nat), (numFrom k cs).length = cs.length
  | [], _ => rfl
  | c :: cs, k => by rw [numFrom, List.length_cons, List.length_cons, numFrom_len cs (k + 1)]
theorem numFrom_snoc : ∀ (cs : List Int) (k : Nat) (c : Int), numFrom k (cs ++ [c]) = numFrom k cs ++ [(.inl c, .int ((k + cs.length : Nat) : Nat))]
  | [], k, c => rfl
  | x :: cs, k, c => by
    rw [List.cons_append, numFrom, numFrom, List.cons_append, numFrom_snoc cs (k + 1) c, List.length_cons, show k + 1 + cs.length = k + (cs.length + 1) by omega]
theorem val_num : ∀ (cs : List Int) (k : Nat) (u : Int), valV (numFrom k cs) (.inl u) = (posF k cs u).map fun n => V.int (n : Nat)
  | [], _, _ => rfl
  | c :: cs, k, u => by
    rw [numFrom, posF]
    by_cases e : c = u
    · rw [if_pos e]
      exact valV_pos (p := ((.inl c : Key), V.int ((k : Nat) : Int))) (by rw [e])
    · rw [if_neg e]
      rw [valV_neg (p := ((.inl c : Key), V.int ((k : Nat) : Int))) (fun z => e (Sum.inl.inj z))]
      exact val_num cs (k + 1) u
theorem posF_none : ∀ {cs : List Int} {k : Nat} {u : Int}, posF k cs u = none → u ∉ cs
  | [], _, _, _, h => nomatch h
  | c :: cs, k, u, h, hm => by
    rw [posF] at h
    by_cases e : c = u
    · rw [if_pos e] at h; exact nomatch h
    · rw [if_neg e] at h
      rcases List.mem_cons.mp hm with z | z
      · exact e z.symm
      · exact posF_none h z
theorem posF_not : ∀ {cs : List Int} {k : Nat} {u : Int}, u ∉ cs → posF k cs u = none
  | [], _, _, _ => rfl
  | c :: cs, k, u, h => by
    rw [posF, if_neg (fun z => h (by rw [z]; exact List.mem_cons_self))]
    exact posF_not fun z => h (List.mem_cons_of_mem _ z)
theorem posF_at : ∀ {cs : List Int} {k n : Nat} {u : Int}, posF k cs u = some n → k ≤ n ∧ cs[n - k]? = some u ∧ ∀ i, i < n - k → ∀ z, cs[i]? = some z → z ≠ u
  | [], _, _, _, h => nomatch h
  | c :: cs, k, n, u, h => by
    rw [posF] at h
    by_cases e : c = u
    · rw [if_pos e] at h
      cases h
      refine ⟨Nat.le_refl _, by rw [Nat.sub_self, e]; rfl, fun i hi => absurd hi (by omega)⟩
    · rw [if_neg e] at h
      obtain ⟨h1, h2, h3⟩ := posF_at h
      refine ⟨by omega, by rw [show n - k = (n - (k + 1)) + 1 by omega]; exact h2, fun i hi z hz => ?_⟩
      cases i with
      | zero =>
        simp at hz
        rw [← hz]; exact e
      | succ i => exact h3 i (by omega) z (by simpa using hz)
theorem num_asc {cs : List Int} (hc : cs.Pairwise (· < ·)) {u v : Int} {i j : Nat} (h1 : posF 0 cs u = some i) (h2 : posF 0 cs v = some j) (h : u < v) : i < j := by
  obtain ⟨_, a1, _⟩ := posF_at h1
  obtain ⟨_, a2, _⟩ := posF_at h2
  rw [Nat.sub_zero] at a1 a2
  obtain ⟨li, ei⟩ := List.getElem?_eq_some_iff.mp a1
  obtain ⟨lj, ej⟩ := List.getElem?_eq_some_iff.mp a2
  have pw := List.pairwise_iff_getElem.mp hc
  rcases Nat.lt_trichotomy i j with c | c | c
  · exact c
  · subst c
    rw [ei] at ej; omega
  · have := pw j i lj li c
    rw [ei, ej] at this; omega
/-- the row of v among these -/
def rowR (rows : List (List Int)) (cs : List Int) (v : Int) : List Int := (rows.getD v.toNat []).filterMap fun u => (posF 0 cs u).map fun n => ((n : Nat) : Int)
def deadF (rows : List (List Int)) (cs : List Int) : Option Int := cs.find? fun v => (rowR rows cs v).isEmpty
theorem rowR_asc {rows : List (List Int)} {cs : List Int} {v : Int} {n : Nat} (hc : cs.Pairwise (· < ·)) (hl : cs.length ≤ 1000) (hr : Asc (n : Nat) (rows.getD v.toNat [])) (hne : rowR rows cs v ≠ []) : Asc (cs.length : Nat) (rowR rows cs v) := by
  have hp : (rowR rows cs v).Pairwise (· < ·) := by
    unfold rowR
    refine List.Pairwise.filterMap (R := (· < ·)) _ (fun a a' h b hb b' hb' => ?_) hr.1
    obtain ⟨i, hi, rfl⟩ := Option.map_eq_some_iff.mp hb
    obtain ⟨j, hj, rfl⟩ := Option.map_eq_some_iff.mp hb'
    have := num_asc hc hi hj h
    omega
  have hb : ∀ x ∈ rowR rows cs v, 0 ≤ x ∧ x < (cs.length : Nat) := fun x hx => by
    unfold rowR at hx
    obtain ⟨u, hu, e⟩ := List.mem_filterMap.mp hx
    obtain ⟨i, hi, rfl⟩ := Option.map_eq_some_iff.mp e
    obtain ⟨_, a1, _⟩ := posF_at hi
    rw [Nat.sub_zero] at a1
    have := lt_of_at a1
    omega
  refine ⟨hp, hb, hne, ?_⟩
  have := hr.2.2.2
  exact Nat.le_trans (List.length_filterMap_le _ _) this
def spRestr (C Cd : Addr) : Sp := fun vs H Q E => ∃ (p va : Addr) (cs : List Int) (os ps : List Int) (rows : List (List Int)) (dx a b c : Addr) (ts : List Addr) (m : Int), vs = [.ref p, .ref va] ∧ GameAt C H p os ps rows dx a b c ts m ∧ Valid os ps rows ∧ os.length ≤ 60 ∧ SqV H va (cs.map V.int) ∧ cs.Pairwise (· < ·) ∧ (∀ x ∈ cs, 0 ≤ x ∧ x < (os.length : Int)) ∧ cs.length ≤ 60 ∧
  (∀ v, deadF rows cs = some v → ∀ d H', Same H H' → H' d = some (.xd [(("vertex" : Str), .int v)]) → E (.ref Cd) (some d) H') ∧
  (deadF rows cs = none → ∀ H' r dy ya yb yc yts ym, Same H H' → GameAt C H' r (cs.map fun v => os.getD v.toNat 0) (cs.map fun v => ps.getD v.toNat 0) (cs.map (rowR rows cs)) dy ya yb yc yts ym → Q (.ref r) H')
section
variable {P : Program} {w : World} {K : PySem.W.Frag} {mg : Str → Option Value} {base : Heap} {C : Addr} (M : Blt mg) (T : GTxt K mg C)
include M T
theorem ok_eqG {f : Addr} {fd : FuncData} (F : Fun K "__eq__" "Game.__eq__" s_Game___eq__ f fd) (GI : GIs K C) : FnOk P w K mg base CX0 1 f fd ["self", "other"] (spEqG C) := by
  refine F.ok sc_Game___eq__ (fun vs H Q E h => ?_) (fun cdv A outer s H vs Q E hr h => ?_)
  · obtain ⟨p, p2, os, ps, rows, dx, a, b, c, ts, m, os2, ps2, rows2, dx2, a2, b2, c2, ts2, m2, rfl, _⟩ := h
    rfl
  obtain ⟨p, p2, os, ps, rows, dx, a, b, c, ts, m, os2, ps2, rows2, dx2, a2, b2, c2, ts2, m2, rfl, g1, g2, r, hr2, q⟩ := h
  have hu := hr.units
  have nd := sc_Game___eq__.nd
  refine ⟨_, pss_one (ps_ret (pe_and (pe_callB call_isi (by rfl) M.isinstance boot_isinstance (pa_cons (pv 1) (pa_cons (pe_glob (v := .ref C) (by rfl) T.mgC rfl) pa_nil))) (pe_and (pe_cmpR (op_eqD hu) (pe_fld (pv 0) rfl) (pe_fld (pv 1) rfl) (nomark _)) (pe_and (pe_cmpR (op_eqD hu) (pe_fld (pv 0) rfl) (pe_fld (pv 1) rfl) (nomark _)) (pe_one (pe_cmpR (op_eqD hu) (pe_fld (pv 0) rfl) (pe_fld (pv 1) rfl) (nomark _))))))), ?_⟩
  refine ⟨_, rfl, _, _, _, _, true, rfl, .own C, (.base (.ins g2.ob T.cl GI.ca GI.sp GI.tk GI.mo)), GI.kG, true, rfl, iteT ?_⟩
  have sh : ∀ l : List Int, PySem.SeqAt.shaped (.tuple (l.map PyData.int)) = true := fun l => ly_shaped (ly_tup (ly_ints l)) (by decide)
  refine ⟨_, rfl, p, C, dx, _, _, rfl, g1.ob, T.cl, T.nO, fld_own a b c m, _, rfl, p2, C, dx2, _, _, rfl, g2.ob, T.cl, T.nO, fld_own a2 b2 c2 m2, .tuple (os.map PyData.int), .tuple (os2.map PyData.int), dp_tupI g1.oa, dp_tupI g2.oa, sh os, sh os2, _, rfl, ?_⟩
  have e1 : PyData.eqv (.tuple (os.map PyData.int)) (.tuple (os2.map PyData.int)) = decide (os = os2) := by rw [PyData.eqv]; exact PySem.W.ked_eqvAll os os2
  have e2 : PyData.eqv (.tuple (ps.map PyData.int)) (.tuple (ps2.map PyData.int)) = decide (ps = ps2) := by rw [PyData.eqv]; exact PySem.W.ked_eqvAll ps ps2
  rw [e1]
  rcases hr2 with ⟨rfl, h1, h2, h3⟩ | ⟨rfl, h1⟩
  · subst h1; subst h2; subst h3
    rw [decide_eq_true rfl]
    refine iteT ⟨_, rfl, p, C, dx, _, _, rfl, g1.ob, T.cl, T.nP, fld_pri a b c m, _, rfl, p2, C, dx2, _, _, rfl, g2.ob, T.cl, T.nP, fld_pri a2 b2 c2 m2, .tuple (ps.map PyData.int), .tuple (ps.map PyData.int), dp_tupI g1.ob2, dp_tupI g2.ob2, sh ps, sh ps, _, rfl, ?_⟩
    rw [e2, decide_eq_true rfl]
    have shr : Ly 2 (.tuple (rowsD rows)) := ly_tup (ly_rows rows)
    refine iteT ⟨_, rfl, p, C, dx, _, _, rfl, g1.ob, T.cl, T.nS, fld_suc a b c m, _, rfl, p2, C, dx2, _, _, rfl, g2.ob, T.cl, T.nS, fld_suc a2 b2 c2 m2, .tuple (rowsD rows), .tuple (rowsD rows), .tup (sqT g1.oc) (dp_rows g1.or), .tup (sqT g2.oc) (dp_rows g2.or), ly_shaped shr (by decide), ly_shaped shr (by decide), ?_⟩
    rw [ly_refl shr]
    exact q
  · rw [decide_eq_false h1]
    exact iteF q
end
end GM
set_option Elab.async false
set_option linter.all false
set_option maxRecDepth 100000
set_option maxHeartbeats 4000000
set_option pp.maxSteps 150
set_option pp.deepTerms false
namespace GM
open PySem PySem.Spec PyProof.Rows L2
/-! ### {x: i for i, x in enumerate(xs)} -/
section
variable {K : PySem.W.Frag} {a : Addr} {cs : List Int} {vs : List Nat} {g : TG} {tt : TT} {tk tv : TE} {σ : L2.St} {H1 : Hp} {D : Addr} {Qd : Hp → Prop}
/-- the turns of such a dict comprehension: what is asked of the walk -/
theorem dc_num (J : It) (hgo : ∀ i H, i < cs.length → Same H1 H → J.go i H) (hstop : ∀ H, Same H1 H → J.stop cs.length H)
    (hy : ∀ i H v H', i < cs.length → Same H1 H → J.yld i H v H' → ∃ T x, v = .ref T ∧ H T = Option.none ∧ H' = upd H T (.tup [.int (i : Nat), x]) ∧ (cs.map V.int)[i]? = some x)
    (hlen : cs.length ≤ 1000) (hn : cs.Nodup) (hD : H1 D = Option.none)
    (hs : ∀ (i : Nat) (c : Int) (T : Addr) H (k : V → V → Hp → Prop) (nn : Hp → Prop), cs[i]? = some c → H T = some (.tup [.int (i : Nat), .int c]) → k (.int c) (.int (i : Nat)) H → g (.ref T) (wipe σ vs) H fun σ2 H2 => wipe σ2 vs = wipe σ vs ∧ tt σ2 H2 fun b H3 => if b = true then tk σ2 H3 fun y H4 => tv σ2 H4 fun z H5 => k y z H5 else nn H3)
    (hd : ∀ H', Same H1 H' → H' D = some (.dK (numFrom 0 cs)) → Qd H') :
    ∃ W : Nat → Nat → Hp → Prop, (∃ m, W 0 m (upd H1 D (.dK []))) ∧ ∀ i m H, W i m H →
      (J.stop i H ∧ Qd H) ∨ (J.go i H ∧ ∃ Nx : Hp → Prop, (∀ H', Nx H' → ∃ m', m' < m ∧ W (i + 1) m' H') ∧ ∀ x H', J.yld i H x H' → g x (wipe σ vs) H' fun σ2 H2 => wipe σ2 vs = wipe σ vs ∧ tt σ2 H2 fun b H3 =>
        if b = true then tk σ2 H3 fun y H4 => tv σ2 H4 fun z H5 => ∃ kvs k, y = kV k ∧ H5 D = some (.dK kvs) ∧ kvs.length < sizeLine ∧ Nx (upd H5 D (.dK (putK kvs k z))) else Nx H3) := by
  refine ⟨fun i m H => i + m = cs.length ∧ Same H1 H ∧ H D = some (.dK (numFrom 0 (cs.take i))), ⟨cs.length, Nat.zero_add _, same_new hD _, upd_same⟩, ?_⟩
  rintro i m H ⟨hm, sm, eD⟩
  cases m with
  | zero =>
    have e : i = cs.length := hm
    subst e
    rw [List.take_length] at eD
    exact .inl ⟨hstop H sm, hd H sm eD⟩
  | succ m =>
    have hi : i < cs.length := by omega
    refine .inr ⟨hgo i H hi sm, fun H' => Same H1 H' ∧ H' D = some (.dK (numFrom 0 (cs.take (i + 1)))), fun H' p => ⟨m, Nat.lt_succ_self _, by omega, p.1, p.2⟩, fun x H' y => ?_⟩
    obtain ⟨T, z, rfl, hT, rfl, hz⟩ := hy i H x H' hi sm y
    obtain ⟨c, hc, rfl⟩ := map_at hz
    have nT : D ≠ T := ne_of_none eD hT
    refine hs i c T _ (fun y z H5 => ∃ kvs k, y = kV k ∧ H5 D = some (.dK kvs) ∧ kvs.length < sizeLine ∧ (Same H1 (upd H5 D (.dK (putK kvs k z))) ∧ (upd H5 D (.dK (putK kvs k z))) D = some (.dK (numFrom 0 (cs.take (i + 1)))))) _ hc upd_same ?_
    refine ⟨_, .inl c, rfl, by rw [upd_ne nT]; exact eD, by rw [numFrom_len]; exact lt_line (Nat.le_trans (List.length_take_le _ _) (by omega)), same_upd (sm.trans (same_new hT _)) hD _, ?_⟩
    have hnot : c ∉ cs.take i := fun hm => by
      obtain ⟨j, hj⟩ := List.getElem?_of_mem hm
      have hji : j < i := by
        have := lt_of_at hj
        rw [List.length_take] at this
        omega
      rw [List.getElem?_take_of_lt hji] at hj
      obtain ⟨l1, e1⟩ := List.getElem?_eq_some_iff.mp hj
      obtain ⟨l2, e2⟩ := List.getElem?_eq_some_iff.mp hc
      exact (List.pairwise_iff_getElem.mp hn) j i l1 l2 hji (e1.trans e2.symm)
    rw [upd_same, putK_new _ (by rw [val_num, posF_not hnot]; rfl), tk1 hc, numFrom_snoc, List.length_take, Nat.min_eq_left (Nat.le_of_lt hi), Nat.zero_add]
end
/-! ### [f(x) for x in xs if f(x) is there] -/
section
variable {K : PySem.W.Frag} {a : Addr} {g : TG} {tt : TT} {te : TE} {vs : List Nat} {σ : L2.St} {H1 : Hp} {D : Addr} {Qd : Hp → Prop}
theorem fm_step {xs : List Int} {i : Nat} {z : Int} (f : Int → Option Int) (h : xs[i]? = some z) : (xs.take (i + 1)).filterMap f = (xs.take i).filterMap f ++ (match f z with | some y => [y] | none => []) := by
  rw [tk1 h, List.filterMap_append]
  congr 1
  cases e : f z with
  | none => rw [List.filterMap_cons_none e]; rfl
  | some y => rw [List.filterMap_cons_some e]; rfl
theorem lc_fmapT {xs : List Int} (f : Int → Option Int) (hlen : xs.length ≤ 1000) (hS : SqT K H1 a (xs.map V.int)) (hD : H1 D = none)
    (hs : ∀ (i : Nat) z H (k : V → Hp → Prop) (n : Hp → Prop), xs[i]? = some z → Same H1 H → (∀ y, f z = some y → k (.int y) H) → (f z = none → n H) → g (.int z) (wipe σ vs) H fun σ2 H2 => wipe σ2 vs = wipe σ vs ∧ tt σ2 H2 fun b H3 => if b = true then te σ2 H3 k else n H3)
    (hd : ∀ H', Same H1 H' → H' D = some (.lst ((xs.filterMap f).map V.int)) → Qd H') :
    ∃ W : Nat → Nat → Hp → Prop, (∃ m, W 0 m (upd H1 D (.lst []))) ∧ ∀ i m H, W i m H →
      ((Itt K a).stop i H ∧ Qd H) ∨ ((Itt K a).go i H ∧ ∃ Nx : Hp → Prop, (∀ H', Nx H' → ∃ m', m' < m ∧ W (i + 1) m' H') ∧ ∀ x H', (Itt K a).yld i H x H' → g x (wipe σ vs) H' fun σ2 H2 => wipe σ2 vs = wipe σ vs ∧ tt σ2 H2 fun b H3 =>
        if b = true then te σ2 H3 fun y H4 => ∃ acc, H4 D = some (.lst acc) ∧ acc.length < sizeLine ∧ Nx (upd H4 D (.lst (acc ++ [y]))) else Nx H3) := by
  refine lc_tup (xs := xs.map V.int) (fun i H => Same H1 H ∧ H D = some (.lst (((xs.take i).filterMap f).map V.int))) ⟨same_new hD _, upd_same⟩ (fun i H _ z => seqT_same z.1 hS) ?_ ?_
  · rintro i x H hx ⟨sm, eD⟩
    obtain ⟨z, hz, rfl⟩ := map_at hx
    have st := fm_step f hz
    refine hs i z H _ (fun H3 => Same H1 H3 ∧ H3 D = some (.lst (((xs.take (i + 1)).filterMap f).map V.int))) hz sm (fun y hy => ⟨_, eD, ?_, same_upd sm hD _, ?_⟩) (fun hy => ⟨sm, ?_⟩)
    · rw [List.length_map]
      exact lt_line (Nat.le_trans (List.length_filterMap_le _ _) (Nat.le_trans (List.length_take_le _ _) (Nat.le_of_lt (Nat.lt_of_lt_of_le (lt_of_at hz) hlen))))
    · rw [upd_same, st, hy, List.map_append]; rfl
    · rw [st, hy, List.append_nil]; exact eD
  · rintro H ⟨sm, eD⟩
    rw [List.length_map, List.take_length] at eD
    exact hd H sm eD
theorem lc_fmapL {xs : List Int} (f : Int → Option Int) (hlen : xs.length ≤ 1000) (hS : SqL K H1 a (xs.map V.int)) (hD : H1 D = none)
    (hs : ∀ (i : Nat) z H (k : V → Hp → Prop) (n : Hp → Prop), xs[i]? = some z → Same H1 H → (∀ y, f z = some y → k (.int y) H) → (f z = none → n H) → g (.int z) (wipe σ vs) H fun σ2 H2 => wipe σ2 vs = wipe σ vs ∧ tt σ2 H2 fun b H3 => if b = true then te σ2 H3 k else n H3)
    (hd : ∀ H', Same H1 H' → H' D = some (.lst ((xs.filterMap f).map V.int)) → Qd H') :
    ∃ W : Nat → Nat → Hp → Prop, (∃ m, W 0 m (upd H1 D (.lst []))) ∧ ∀ i m H, W i m H →
      ((Itl K a).stop i H ∧ Qd H) ∨ ((Itl K a).go i H ∧ ∃ Nx : Hp → Prop, (∀ H', Nx H' → ∃ m', m' < m ∧ W (i + 1) m' H') ∧ ∀ x H', (Itl K a).yld i H x H' → g x (wipe σ vs) H' fun σ2 H2 => wipe σ2 vs = wipe σ vs ∧ tt σ2 H2 fun b H3 =>
        if b = true then te σ2 H3 fun y H4 => ∃ acc, H4 D = some (.lst acc) ∧ acc.length < sizeLine ∧ Nx (upd H4 D (.lst (acc ++ [y]))) else Nx H3) := by
  refine lc_list (xs := xs.map V.int) (fun i H => Same H1 H ∧ H D = some (.lst (((xs.take i).filterMap f).map V.int))) ⟨same_new hD _, upd_same⟩ (fun i H _ z => z.1.seq hS) ?_ ?_
  · rintro i x H hx ⟨sm, eD⟩
    obtain ⟨z, hz, rfl⟩ := map_at hx
    have st := fm_step f hz
    refine hs i z H _ (fun H3 => Same H1 H3 ∧ H3 D = some (.lst (((xs.take (i + 1)).filterMap f).map V.int))) hz sm (fun y hy => ⟨_, eD, ?_, same_upd sm hD _, ?_⟩) (fun hy => ⟨sm, ?_⟩)
    · rw [List.length_map]
      exact lt_line (Nat.le_trans (List.length_filterMap_le _ _) (Nat.le_trans (List.length_take_le _ _) (Nat.le_of_lt (Nat.lt_of_lt_of_le (lt_of_at hz) hlen))))
    · rw [upd_same, st, hy, List.map_append]; rfl
    · rw [st, hy, List.append_nil]; exact eD
  · rintro H ⟨sm, eD⟩
    rw [List.length_map, List.take_length] at eD
    exact hd H sm eD
end
end GM
set_option Elab.async false
set_option linter.all false
set_option maxRecDepth 100000
set_option maxHeartbeats 4000000
set_option pp.maxSteps 150
set_option pp.deepTerms false
namespace GM
open PySem PySem.Spec PyProof.Rows L2
/-! ### a walk over a list or a tuple -/
def Walk (K : PySem.W.Frag) (J : It) (H : Hp) (a : Addr) (xs : List V) : Prop := (J = Itl K a ∧ H a = some (.lst xs)) ∨ (J = Itt K a ∧ H a = some (.tup xs))
theorem either_walk {K : PySem.W.Frag} {te : TE} {σ : L2.St} {H : Hp} {a : Addr} {xs : List V} {R : It → Hp → Prop} (ht : ∀ k : VK, k (.ref a) H → te σ H k) (hS : SqV H a xs) (h : ∀ J, Walk K J H a xs → R J H) : iEither (iList K te) (iTup K te) σ H R := by
  rcases hS with e | e
  · exact .inl (ht _ ⟨a, rfl, ⟨_, SqL.of e⟩, h _ (.inl ⟨rfl, e⟩)⟩)
  · exact .inr (ht _ ⟨a, rfl, ⟨_, sqT e⟩, h _ (.inr ⟨rfl, e⟩)⟩)
theorem for_walk {K : PySem.W.Frag} {J : It} {a : Addr} {xs : List V} {g : TG} {tb : TS} {D : Ends} {σ : L2.St} {H H0 : Hp} (hw : Walk K J H0 a xs) (Pv : Nat → L2.St → Hp → Prop) (h0 : Pv 0 σ H) (hl : ∀ i σ H, i ≤ xs.length → Pv i σ H → Same H0 H)
    (hs : ∀ i x σ H, xs[i]? = some x → Pv i σ H → g x σ H fun σ2 H2 => tb { D with nx := Pv (i + 1), ct := Pv (i + 1), bk := D.nx } σ2 H2) (hd : ∀ σ H, Pv xs.length σ H → D.nx σ H) :
    ∃ W : Nat → Nat → L2.St → Hp → Prop, (∃ m, W 0 m σ H) ∧ ∀ i m σ H, W i m σ H →
      (J.stop i H ∧ D.nx σ H) ∨ (J.go i H ∧ ∃ N : L2.St → Hp → Prop, (∀ σ' H', N σ' H' → ∃ m', m' < m ∧ W (i + 1) m' σ' H') ∧ ∀ x H', J.yld i H x H' → g x σ H' fun σ2 H2 => tb { D with nx := N, ct := N, bk := D.nx } σ2 H2) := by
  rcases hw with ⟨rfl, e⟩ | ⟨rfl, e⟩
  · exact for_list (xs := xs) Pv h0 (fun i σ H hi z => SqL.of (hl i σ H hi z _ _ e)) hs hd
  · exact for_tup (xs := xs) Pv h0 (fun i σ H hi z => sqT (hl i σ H hi z _ _ e)) hs hd
section
variable {K : PySem.W.Frag} {J : It} {a : Addr} {g : TG} {tt : TT} {te : TE} {vs : List Nat} {σ : L2.St} {H1 : Hp} {D : Addr} {Qd : Hp → Prop}
theorem lc_mapW {xs : List Int} (hw : Walk K J H1 a (xs.map V.int)) (f : Int → Int) (hlen : xs.length ≤ 1000) (hD : H1 D = none)
    (hs : ∀ (i : Nat) z H (k : V → Hp → Prop) (n : Hp → Prop), xs[i]? = some z → Same H1 H → k (.int (f z)) H → g (.int z) (wipe σ vs) H fun σ2 H2 => wipe σ2 vs = wipe σ vs ∧ tt σ2 H2 fun b H3 => if b = true then te σ2 H3 k else n H3)
    (hd : ∀ H', Same H1 H' → H' D = some (.lst ((xs.map f).map V.int)) → Qd H') :
    ∃ W : Nat → Nat → Hp → Prop, (∃ m, W 0 m (upd H1 D (.lst []))) ∧ ∀ i m H, W i m H →
      (J.stop i H ∧ Qd H) ∨ (J.go i H ∧ ∃ Nx : Hp → Prop, (∀ H', Nx H' → ∃ m', m' < m ∧ W (i + 1) m' H') ∧ ∀ x H', J.yld i H x H' → g x (wipe σ vs) H' fun σ2 H2 => wipe σ2 vs = wipe σ vs ∧ tt σ2 H2 fun b H3 =>
        if b = true then te σ2 H3 fun y H4 => ∃ acc, H4 D = some (.lst acc) ∧ acc.length < sizeLine ∧ Nx (upd H4 D (.lst (acc ++ [y]))) else Nx H3) := by
  rcases hw with ⟨rfl, e⟩ | ⟨rfl, e⟩
  · exact lc_mapI f hlen (SqL.of e) hD hs hd
  · exact lc_mapIT f hlen (sqT e) hD hs hd
end
end GM
set_option Elab.async false
set_option linter.all false
set_option maxRecDepth 100000
set_option maxHeartbeats 4000000
set_option pp.maxSteps 150
set_option pp.deepTerms false
namespace GM
open PySem PySem.Spec PyProof.Rows L2
theorem dead_at {rows : List (List Int)} {cs : List Int} {i : Nat} {v : Int} (h : cs[i]? = some v) (hs : ∀ u ∈ cs.take i, rowR rows cs u ≠ []) (hv : rowR rows cs v = []) : deadF rows cs = some v := by
  unfold deadF
  have e : cs = cs.take i ++ v :: cs.drop (i + 1) := by
    obtain ⟨l, e⟩ := List.getElem?_eq_some_iff.mp h
    have := List.take_append_drop i cs
    rw [List.drop_eq_getElem_cons l, e] at this
    exact this.symm
  have key : ∀ (pre post : List Int) (f : Int → Bool), (∀ u ∈ pre, f u = false) → f v = true → (pre ++ v :: post).find? f = some v := by
    intro pre post f h1 h2
    rw [List.find?_append, List.find?_eq_none.mpr (fun u hu => by rw [h1 u hu]; exact Bool.false_ne_true), List.find?_cons_of_pos h2]; rfl
  have := key (cs.take i) (cs.drop (i + 1)) (fun v => (rowR rows cs v).isEmpty) (fun u hu => by
    have := hs u hu
    cases hh : rowR rows cs u with
    | nil => exact absurd hh this
    | cons a l => rfl) (by rw [hv]; rfl)
  rw [← e] at this
  exact this
theorem dead_none {rows : List (List Int)} {cs : List Int} (hs : ∀ u ∈ cs, rowR rows cs u ≠ []) : deadF rows cs = none := by
  unfold deadF
  refine List.find?_eq_none.mpr fun u hu h => ?_
  cases hh : rowR rows cs u with
  | nil => exact hs u hu hh
  | cons a l => rw [hh] at h; exact nomatch h
section
variable {P : Program} {w : World} {K : PySem.W.Frag} {mg : Str → Option Value} {base : Heap} {C : Addr} (M : Blt mg) (T : GTxt K mg C)
include M T
theorem ok_restr {Cd fId : Addr} (TD : PySem.DeadEndX.Txt K mg Cd fId) {f : Addr} {fd : FuncData} (F : Fun K "restricted" "Game.restricted" s_Game_restricted f fd) (GG : KG P w K mg base C) : FnOk P w K mg base (L2N.CX P w) 6 f fd ["self", "vertices"] (spRestr C Cd) := by
  refine okN F sc_Game_restricted (fun vs H Q E h => ?_) (fun cdv A outer s H vs Q E hr h => ?_)
  · obtain ⟨p, va, cs, os, ps, rows, dx, a, b, c, ts, m, rfl, _⟩ := h
    rfl
  obtain ⟨p, va, cs, os, ps, rows, dx, a, b, c, ts, m, rfl, G, V0, h60, ev, hasc, hin, hl, qE, qQ⟩ := h
  have hu := hr.units
  have hu1 : (A.deeper (envOfC "Game.restricted" (defScope s_Game_restricted) s.heap.objs.size f cdv)).units + 1 < cLine := Nat.lt_of_le_of_lt (Nat.add_le_add_left (by decide) _) hu
  have nd := sc_Game_restricted.nd
  refine ⟨_, C8.pss_cut (ps_set (i := 2) nd rfl (.inr rfl) (pe_dc (own := [("number", 8), ("vertex", 4)]) rfl nd (pi_either (pi_enum (by rfl) M.enumerate (pa_cons (pv 1) pa_nil)) (pi_enumT (by rfl) M.enumerate (pa_cons (pv 1) pa_nil))) (blkOk_by (N := n_Game_restricted) (sc := defScope s_Game_restricted) (by decide +kernel)) (fun _ _ _ _ _ => (show PG _ _ (gTup K 2 (gCons (gName 8) (gCons (gName 4) gNil))) from (pg_tup rfl (pgs_cons (pg_name (i := 8) nd rfl (.inl rfl)) (pgs_cons (pg_name (i := 4) nd rfl (.inl rfl)) pgs_nil))))) (fun _ _ _ _ _ => pts_nil) (fun _ _ _ _ _ => (pv 4)) (fun _ _ _ _ _ => (pv 8))))
    (pss_cons (ps_set (i := 3) nd rfl (.inl rfl) (pe_lst pa_nil))
    (pss_cons (ps_for (passes_of rfl) rfl (pi_either (pi_list (pv 1)) (pi_tup (pv 1))) (pg_name (i := 4) nd rfl (.inl rfl)) (pss_cons (ps_setLc (i := 5) (own := [("goal", 9)]) (g := gName 9) (tt := _) rfl nd rfl rfl (sw_true rfl rfl rfl (by decide +kernel)) (pi_tup (pe_ix ix_tup (pe_fld (pv 0) rfl) (pv 4) (fun _ _ => rfl))) (blkOk_by (N := n_Game_restricted) (sc := defScope s_Game_restricted) (by decide +kernel)) (fun _ _ _ _ _ => pg_name (i := 9) nd rfl (Or.inl rfl)) (fun _ _ _ _ _ => pts_one (pt_cmp (pc_din hu1 (pv 9) (pv 2)))) (fun _ _ _ _ _ => (pe_dget hu1 (pv 2) (pv 9) (fun _ _ => rfl))))
      (pss_cons (ps_if (pt_not (pt_truth (pv 5) (by intro _; rfl))) (pss_one (ps_raiseDeadEnd rfl TD hr (L2N.takes_of rfl rfl rfl rfl) (pa_cons (pv 4) pa_nil))) pss_nil)
      (pss_one (ps_expr (pe_bm PySem.F.plainAttrs_list PySem.F.slot_list_append PySem.F.type_list_append mt_append (pv 3) (pa_cons (pv 5) pa_nil)))))))
    (pss_cons (ps_setLc (i := 6) (own := [("vertex", 4)]) (g := gName 4) (tt := tYes) rfl nd rfl rfl (sw_true rfl rfl rfl (by decide +kernel)) (pi_either (pi_list (pv 1)) (pi_tup (pv 1))) (blkOk_by (N := n_Game_restricted) (sc := defScope s_Game_restricted) (by decide +kernel)) (fun _ _ _ _ _ => pg_name (i := 4) nd rfl (Or.inl rfl)) (fun _ _ _ _ _ => pts_nil) (fun _ _ _ _ _ => (pe_ix (show IxR _ (rIxT K) from ix_tup) (show PE _ _ (tFld K (tVar 0) "owners") from pe_fld (pv 0) rfl) (pv 4) (fun _ _ => rfl))))
    (pss_cons (ps_setLc (i := 7) (own := [("vertex", 4)]) (g := gName 4) (tt := tYes) rfl nd rfl rfl (sw_true rfl rfl rfl (by decide +kernel)) (pi_either (pi_list (pv 1)) (pi_tup (pv 1))) (blkOk_by (N := n_Game_restricted) (sc := defScope s_Game_restricted) (by decide +kernel)) (fun _ _ _ _ _ => pg_name (i := 4) nd rfl (Or.inl rfl)) (fun _ _ _ _ _ => pts_nil) (fun _ _ _ _ _ => (pe_ix (show IxR _ (rIxT K) from ix_tup) (show PE _ _ (tFld K (tVar 0) "priorities") from pe_fld (pv 0) rfl) (pv 4) (fun _ _ => rfl))))
    (pss_one (ps_ret (pe_make GG.cm GG.ok (hr.mono (by decide)) (by rfl) T.mgC GG.b .nil pass0 (pa_cons (pv 6) (pa_cons (pv 7) (pa_cons (pv 3) pa_nil)))))))))), ?_⟩
  have n1000 : cs.length ≤ 1000 := by omega
  have nd' : cs.Nodup := hasc.imp fun h => by omega
  refine ⟨fun σ H' => Same H H' ∧ ∃ D : Addr, H' D = some (.dK (numFrom 0 cs)) ∧ σ = [some (.ref p), some (.ref va), some (.ref D), Option.none, Option.none, Option.none, Option.none, Option.none, Option.none, Option.none], ?_, ?_⟩
  · have gen : ∀ D : Addr, H D = Option.none → ∀ H', Same H H' → H' D = some (.dK (numFrom 0 cs)) → (gName 2 (.ref D) [some (.ref p), some (.ref va), Option.none, Option.none, Option.none, Option.none, Option.none, Option.none, Option.none, Option.none] H' fun σ H' => Same H H' ∧ ∃ D : Addr, H' D = some (.dK (numFrom 0 cs)) ∧ σ = [some (.ref p), some (.ref va), some (.ref D), Option.none, Option.none, Option.none, Option.none, Option.none, Option.none, Option.none]) := fun D hD H' s e => ⟨s, D, e, rfl⟩
    rcases ev with ev | ev
    · refine .inl ⟨_, rfl, va, _, rfl, SqL.of ev, fun D hD => ?_⟩
      refine dc_num (Ite K va) (fun i H' hi s => ⟨_, _, SqL.of (s _ _ ev), List.getElem?_eq_getElem (by rw [List.length_map]; exact hi)⟩) (fun H' s => ⟨_, SqL.of (s _ _ ev), by rw [List.length_map]; exact Nat.le_refl _⟩) ?_ n1000 nd' hD ?_ (gen D hD)
      · rintro i H' v H2 hi s ⟨T0, x, rfl, hT, rfl, hx⟩
        exact ⟨T0, x, rfl, hT, rfl, hx _ (SqL.of (s _ _ ev))⟩
      · intro i c T0 H' k nn hc eT hk
        exact ⟨T0, _, rfl, sqT eT, rfl, _, _, rfl, _, _, rfl, rfl, rfl, tYI ⟨_, rfl, _, rfl, hk⟩⟩
    · refine .inr ⟨_, rfl, va, _, rfl, sqT ev, fun D hD => ?_⟩
      refine dc_num (Iet K va (cs.map V.int)) (fun i H' hi s => ⟨sqT (s _ _ ev), by rw [List.length_map]; exact hi⟩) (fun H' s => ⟨sqT (s _ _ ev), by rw [List.length_map]; exact Nat.le_refl _⟩) ?_ n1000 nd' hD ?_ (gen D hD)
      · rintro i H' v H2 hi s ⟨T0, x, rfl, hT, rfl, hx⟩
        exact ⟨T0, x, rfl, hT, rfl, hx⟩
      · intro i c T0 H' k nn hc eT hk
        exact ⟨T0, _, rfl, sqT eT, rfl, _, _, rfl, _, _, rfl, rfl, rfl, tYI ⟨_, rfl, _, rfl, hk⟩⟩
  rintro σ H1 ⟨s1, N, eN, rfl⟩
  have ev1 : SqV H1 va (cs.map V.int) := ev.same s1
  refine ⟨Nat.zero_le _, fun rw' hrw => ?_⟩
  have s2 := same_new hrw (.lst [])
  refine either_walk (fun k hk => ⟨_, rfl, hk⟩) (ev1.same s2) fun J hw => ?_
  have nva : va ≠ rw' := fun z => by
    rcases ev1 with h | h <;> (rw [z, hrw] at h; exact nomatch h)
  have hw1 : Walk K J H1 va (cs.map V.int) := hw.imp (fun h => ⟨h.1, by rw [← h.2, upd_ne nva]⟩) fun h => ⟨h.1, by rw [← h.2, upd_ne nva]⟩
  have G1 := G.same s1
  have hrl : rows.length = os.length := V0.l2
  refine for_walk hw1 (fun i σ H' => Same H1 H' ∧ ∃ (ts' : List Addr) (y4 y5 : Option V), H' rw' = some (.lst (ts'.map V.ref)) ∧ Paired (fun r xs => r ≠ rw' ∧ H' r = some (.lst (xs.map V.int))) ts' ((cs.take i).map (rowR rows cs)) ∧ (∀ v ∈ cs.take i, rowR rows cs v ≠ []) ∧ σ = [some (.ref p), some (.ref va), some (.ref N), some (.ref rw'), y4, y5, Option.none, Option.none, Option.none, Option.none])
    ⟨s2, [], Option.none, Option.none, upd_same, .nil, (fun v h => nomatch h), rfl⟩ (fun i σ H' hi z => z.1) ?_ ?_
  · rintro i x σ H3 hx ⟨s3, ts', y4, y5, er, pr, hne, rfl⟩
    obtain ⟨v, hv, rfl⟩ := map_at hx
    have hvb := hin v (List.mem_of_getElem? hv)
    have erw : rows[v.toNat]? = some (rows.getD v.toNat []) := gd_at (by omega)
    have G3 := G1.same s3
    obtain ⟨r, hr', er'⟩ := pr_getR G3.or erw
    have hasr := V0.r _ (List.mem_of_getElem? erw)
    have hz2 : ((v.toNat : Nat) : Int) = v := by omega
    have eN3 := s3 _ _ eN
    refine ⟨_, rfl, p, C, dx, _, _, rfl, G3.ob, T.cl, T.nS, fld_suc a b c m, _, rfl, c, _, _, _, rfl, rfl, sqT G3.oc, (by rw [← hz2]; exact atI_nat (at_map hr')), r, rfl, ⟨_, sqT er'⟩, fun D1 hD1 => ?_⟩
    refine lc_fmapT (fun u => (posF 0 cs u).map fun n => ((n : Nat) : Int)) hasr.2.2.2 (sqT er') hD1 (fun j z H' k nn hz sm hk hno => ⟨rfl, ?_⟩) (fun H4 s4 eD1 => ?_)
    · have eN4 := sm _ _ eN3
      have dg : DGet H' N (.int z) ((posF 0 cs z).map fun n => V.int ((n : Nat) : Int)) := by
        have := DGet.k (k := (.inl z : Key)) eN4
        rw [val_num] at this
        exact this
      refine ⟨_, rfl, _, rfl, N, _, rfl, dg, _, rfl, ?_⟩
      cases hpos : posF 0 cs z with
      | none =>
        refine iteF (hno ?_)
        show Option.map _ (posF 0 cs z) = _
        rw [hpos]; rfl
      | some n =>
        rw [hpos] at dg
        refine iteT ⟨_, rfl, _, rfl, N, _, rfl, dg, hk _ ?_⟩
        show Option.map _ (posF 0 cs z) = _
        rw [hpos]; rfl
    · have eR : ((rows.getD v.toNat []).filterMap fun u => (posF 0 cs u).map fun n => ((n : Nat) : Int)) = rowR rows cs v := rfl
      rw [eR] at eD1
      have tru : TruV K (.ref D1) H4 (!(rowR rows cs v).isEmpty) := by
        have e : ((rowR rows cs v).map V.int).isEmpty = (rowR rows cs v).isEmpty := by cases rowR rows cs v <;> rfl
        exact .inl ⟨_, SqL.of eD1, by rw [e]⟩
      refine ⟨_, rfl, _, tru, ?_⟩
      have s34 := s3.trans s4
      cases hrr : rowR rows cs v with
      | nil =>
        refine iteT ⟨_, rfl, _, rfl, fun d hd => ?_⟩
        exact qE v (dead_at hv hne hrr) d _ ((s1.trans s34).trans (same_new hd _)) upd_same
      | cons x0 xs0 =>
        rw [← hrr]
        have nv : rowR rows cs v ≠ [] := by rw [hrr]; exact List.cons_ne_nil _ _
        have e0 : (rowR rows cs v).isEmpty = false := by rw [hrr]; rfl
        rw [e0]
        have er4 := s4 _ _ er
        have nD : D1 ≠ rw' := fun z => by rw [z, er] at hD1; exact nomatch hD1
        have ltk : (cs.take i).length = i := by rw [List.length_take]; have := lt_of_at hv; omega
        have lts : ts'.length = i := by rw [pr.length, List.length_map, ltk]
        refine iteF ⟨_, rfl, .inl ⟨rfl, _, SqL.of er4⟩, _, rfl, rw', _, _, rfl, rfl, er4, ?_, ?_⟩
        · rw [List.length_map, lts]; exact lt_line (by have := lt_of_at hv; omega)
        · refine ⟨same_upd s34 hrw _, ts' ++ [D1], _, _, ?_, ?_, ?_, rfl⟩
          · rw [upd_same, List.map_append]; rfl
          · rw [tk1 hv, List.map_append]
            exact (L2.Paired.mapP pr fun r xs z => ⟨z.1, by rw [upd_ne z.1]; exact s4 _ _ z.2⟩).snoc ⟨nD, by rw [upd_ne nD]; exact eD1⟩
          · intro u hu
            rw [tk1 hv] at hu
            rcases List.mem_append.mp hu with hu | hu
            · exact hne u hu
            · rw [List.mem_singleton.mp hu]; exact nv
  · rintro σ H3 ⟨s3, ts', y4, y5, er, pr, hne, rfl⟩
    rw [List.length_map, List.take_length] at pr hne
    have G3 := G1.same s3
    have ev3 := ev1.same s3
    have hdn := dead_none hne
    refine either_walk (fun k hk => ⟨_, rfl, hk⟩) ev3 fun J2 hw2 => fun D1 hD1 => ?_
    refine lc_mapW hw2 (fun v => os.getD v.toNat 0) n1000 hD1 (fun j z H' k nn hz sm hk => ⟨rfl, tYI ?_⟩) (fun H4 s4 eO => ?_)
    · have hb := hin z (List.mem_of_getElem? hz)
      have G' := G3.same sm
      exact ⟨_, rfl, p, C, dx, _, _, rfl, G'.ob, T.cl, T.nO, fld_own a b c m, _, rfl, a, _, _, _, rfl, rfl, sqT G'.oa, (by rw [show z = ((z.toNat : Nat) : Int) by omega]; exact atI_nat (at_map (by rw [Int.toNat_natCast]; exact gd_at (d := 0) (by omega)))), hk⟩
    have G4 := G3.same s4
    refine either_walk (fun k hk => ⟨_, rfl, hk⟩) (ev3.same s4) fun J3 hw3 => fun D2 hD2 => ?_
    refine lc_mapW hw3 (fun v => ps.getD v.toNat 0) n1000 hD2 (fun j z H' k nn hz sm hk => ⟨rfl, tYI ?_⟩) (fun H5 s5 eP => ?_)
    · have hb := hin z (List.mem_of_getElem? hz)
      have G' := G4.same sm
      exact ⟨_, rfl, p, C, dx, _, _, rfl, G'.ob, T.cl, T.nP, fld_pri a b c m, _, rfl, b, _, _, _, rfl, rfl, sqT G'.ob2, (by rw [show z = ((z.toNat : Nat) : Int) by omega]; exact atI_nat (at_map (by rw [Int.toNat_natCast]; exact gd_at (d := 0) (by rw [V0.l1]; omega)))), hk⟩
    have VV : Valid (cs.map fun v => os.getD v.toNat 0) (cs.map fun v => ps.getD v.toNat 0) (cs.map (rowR rows cs)) := by
      refine ⟨by rw [List.length_map, List.length_map], by rw [List.length_map, List.length_map], by rw [List.length_map]; omega, fun x hx => ?_, fun x hx => ?_, fun x hx => ?_⟩
      · obtain ⟨v, hv, rfl⟩ := List.mem_map.mp hx
        have hb := hin v hv
        exact V0.o _ (List.mem_of_getElem? (gd_at (d := (0 : Int)) (show v.toNat < os.length by omega)))
      · obtain ⟨v, hv, rfl⟩ := List.mem_map.mp hx
        have hb := hin v hv
        exact V0.p _ (List.mem_of_getElem? (gd_at (d := (0 : Int)) (show v.toNat < ps.length by rw [V0.l1]; omega)))
      · obtain ⟨v, hv, rfl⟩ := List.mem_map.mp hx
        have hb := hin v hv
        rw [List.length_map]
        exact rowR_asc hasc n1000 (V0.r _ (List.mem_of_getElem? (gd_at (d := ([] : List Int)) (show v.toNat < rows.length by omega)))) (hne v hv)
    have m5 := (s3.trans s4).trans s5
    refine ⟨_, rfl, _, rfl, _, rfl, ?_⟩
    intro x dz nx ndz nez
    have mx : Same H5 (upd (upd H5 dz (.own x)) x (.ins C dz [])) := fun b' o e => by
      rw [upd_ne (ne_of_none e nx), upd_ne (ne_of_none e ndz)]
      exact e
    refine ⟨x, dz, D1, D2, rw', _, _, ts', _, rfl, upd_same, mx _ _ (s5 _ _ eO), mx _ _ eP, mx _ _ ((s4.trans s5) _ _ er), L2.Paired.mapP pr fun _ _ e => mx _ _ ((s4.trans s5) _ _ e.2), VV, fun H6 ya yb yc yts ym gy kp => ⟨rfl, ?_⟩⟩
    have s6 : Same H5 H6 := fun b' o e => kp b' o (mx _ _ e) (ne_of_none e nx)
    exact qQ hdn H6 x dz ya yb yc yts ym ((s1.trans m5).trans s6) gy
end
end GM
set_option Elab.async false
set_option linter.all false
set_option maxRecDepth 100000
set_option maxHeartbeats 4000000
set_option pp.maxSteps 150
set_option pp.deepTerms false
namespace GM
open PySem PySem.Spec PyProof.Rows L2
/-! ### _law_reads -/
theorem pr_of {α β : Type} {R : α → β → Prop} : ∀ {as : List α} {bs : List β}, as.length = bs.length → (∀ (i : Nat) a b, as[i]? = some a → bs[i]? = some b → R a b) → Paired R as bs
  | [], [], _, _ => .nil
  | [], _ :: _, h, _ => by simp at h
  | _ :: _, [], h, _ => by simp at h
  | a :: as, b :: bs, h, f => .cons (f 0 a b rfl rfl) (pr_of (by simpa using h) fun i x y h1 h2 => f (i + 1) x y (by simpa using h1) (by simpa using h2))
def dtI (l : List Int) : DT := .tup (l.map DT.int)
def dtG (os ps : List Int) (rows : List (List Int)) (n : Nat) (m : Int) : DT := .tup [dtI os, dtI ps, .tup (rows.map dtI), .int (n : Int), .int m, .int ((m + 1) / 2), .int (m + 2 - m % 2)]
theorem rep_int {n : Nat} {H : Hp} (i : Int) : rep n H (.int i) (.int i) := by
  cases n with
  | zero => exact .inr ⟨i, rfl, rfl⟩
  | succ n => exact .inl (.inr ⟨i, rfl, rfl⟩)
theorem rep_dtI {n : Nat} {H : Hp} {a : Addr} {l : List Int} (e : H a = some (.tup (l.map V.int))) (hl : l.length ≤ 1000) : rep (n + 1) H (.ref a) (dtI l) := by
  refine .inr ⟨a, _, _, rfl, rfl, e, by rw [List.length_map]; exact hl, ?_⟩
  have : ∀ l : List Int, Paired (fun x e => rep n H x e) (l.map V.int) (l.map DT.int) := by
    intro l
    induction l with
    | nil => exact .nil
    | cons x l ih => exact .cons (rep_int x) ih
  exact this l
theorem rep_rows {n : Nat} {H : Hp} : ∀ {ts : List Addr} {rows : List (List Int)}, Paired (fun t xs => H t = some (.tup (xs.map V.int))) ts rows → (∀ x ∈ rows, x.length ≤ 1000) → Paired (fun x e => rep (n + 1) H x e) (ts.map V.ref) (rows.map dtI)
  | _, _, .nil, _ => .nil
  | _, _, .cons h t, hl => .cons (rep_dtI h (hl _ List.mem_cons_self)) (rep_rows t fun x hx => hl x (List.mem_cons_of_mem _ hx))
theorem rep_dtG {H : Hp} {u oa pa sa : Addr} {os ps : List Int} {rows : List (List Int)} {ts : List Addr} {n : Nat} {m : Int} (eu : H u = some (.tup [.ref oa, .ref pa, .ref sa, .int (n : Int), .int m, .int ((m + 1) / 2), .int (m + 2 - m % 2)])) (eo : H oa = some (.tup (os.map V.int))) (ep : H pa = some (.tup (ps.map V.int)))
    (es : H sa = some (.tup (ts.map V.ref))) (pr : Paired (fun t xs => H t = some (.tup (xs.map V.int))) ts rows) (ho : os.length ≤ 1000) (hp : ps.length ≤ 1000) (hr : rows.length ≤ 1000) (hx : ∀ x ∈ rows, x.length ≤ 1000) : rep 3 H (.ref u) (dtG os ps rows n m) := by
  refine .inr ⟨u, _, _, rfl, rfl, eu, by show 7 ≤ 1000; decide, ?_⟩
  refine .cons (rep_dtI eo ho) (.cons (rep_dtI ep hp) (.cons (.inr ⟨sa, _, _, rfl, rfl, es, by rw [List.length_map, pr.length]; exact hr, rep_rows pr hx⟩) (.cons (rep_int _) (.cons (rep_int _) (.cons (rep_int _) (.cons (rep_int _) .nil))))))
def spReads (C : Addr) : Sp := fun vs H Q _ => ∃ (md g : Addr) (os ps : List Int) (rows : List (List Int)) (dx a b c : Addr) (ts : List Addr) (m : Int) (o p sx : Addr) (rs : List Addr), vs = [.ref md, .ref g] ∧ GameAt C H md os ps rows dx a b c ts m ∧ GraphAt H g os ps rows o p sx rs ∧ Valid os ps rows ∧ os.length ≤ 60 ∧ ∀ H', Same H H' → Q (.bl true) H'
section
variable {P : Program} {w : World} {K : PySem.W.Frag} {mg : Str → Option Value} {base : Heap} {C : Addr} (M : Blt mg) (T : GTxt K mg C)
include M T
theorem ok_reads {f : Addr} {fd : FuncData} (F : Fun K "_law_reads" "_law_reads" s__law_reads f fd) (GI : GIs K C) (GL : KL P w K mg base C) (G_law_same : Kn P w K mg base 5 "_law_same" ["told", "due"] (spSameD 3)) : FnOk P w K mg base CX0 6 f fd ["made", "game"] (spReads C) := by
  refine F.ok sc__law_reads (fun vs H Q E h => ?_) (fun cdv A outer s H vs Q E hr h => ?_)
  · obtain ⟨md, g, os, ps, rows, dx, a, b, c, ts, m, o, p, sx, rs, rfl, _⟩ := h
    rfl
  obtain ⟨md, g, os, ps, rows, dx, a, b, c, ts, m, o, p, sx, rs, rfl, G, GR, V0, h60, q⟩ := h
  have nd := sc__law_reads.nd
  refine ⟨_, pss_cons (ps_if (pt_not (pt_val (pe_callB call_isi (by rfl) M.isinstance boot_isinstance (pa_cons (pv 0) (pa_cons (pe_glob (v := .ref C) (by rfl) T.mgC rfl) pa_nil))))) (pss_one (ps_ret pe_bl)) pss_nil)
    (pss_cons (ps_set (i := 2) nd rfl (.inl rfl) (pe_callB (cr_max rfl) (by rfl) M.max (by decide +kernel) (pa_cons (pe_op op_cat (pe_lst (pa_cons pe_int pa_nil)) (pe_callTy call_list_of (by rfl) M.list PyProof.Rows.boot_list (pa_cons (pe_ix ix_list (pv 1) pe_int (fun _ _ => rfl)) pa_nil))) pa_nil)))
    (pss_cons (ps_set (i := 3) nd rfl (.inl rfl) (pe_tup (pa_cons (pe_fld (pv 0) rfl) (pa_cons (pe_fld (pv 0) rfl) (pa_cons (pe_fld (pv 0) rfl) (pa_cons (pe_callB (show CallR _ (.builtin "len") (rLenO C (spLen C)) from cr_lenO GL.ok GL.b (hr.mono (by decide)) GL.ml GL.fn) (by rfl) M.len PySem.boot_len (pa_cons (pv 0) pa_nil)) (pa_cons (pe_fld (pv 0) rfl) (pa_cons (pe_fld (pv 0) rfl) (pa_cons (pe_fld (pv 0) rfl) pa_nil)))))))))
    (pss_cons (ps_set (i := 4) nd rfl (.inl rfl) (pe_tupleOf (by rfl) M.tuple (pe_lc (own := [("row", 5)]) (g := gName 5) (tt := tYes) rfl nd (pi_list (pe_ix ix_list (pv 1) pe_int (fun _ _ => rfl))) (blkOk_by (N := n__law_reads) (sc := defScope s__law_reads) (by decide +kernel)) (fun _ _ _ _ _ => pg_name (i := 5) nd rfl (Or.inl rfl)) (fun _ _ _ _ _ => pts_nil) (fun _ _ _ _ _ => (show PE _ _ (tThen _ (kTup K)) from pe_tupleOf (by rfl) M.tuple (pv 5))))))
    (pss_one (ps_ret (pe_call G_law_same.ok (hr.mono (by decide)) (by rfl) G_law_same.m G_law_same.kp G_law_same.b .nil pass0 (pa_cons (pv 3) (pa_cons (pe_tup (pa_cons (pe_tupleOf (by rfl) M.tuple (pe_ix ix_list (pv 1) pe_int (fun _ _ => rfl))) (pa_cons (pe_tupleOf (by rfl) M.tuple (pe_ix ix_list (pv 1) pe_int (fun _ _ => rfl))) (pa_cons (pv 4) (pa_cons (pe_callB call_len_seq (by rfl) M.len PySem.boot_len (pa_cons (pe_ix ix_list (pv 1) pe_int (fun _ _ => rfl)) pa_nil)) (pa_cons (pv 2) (pa_cons (pe_op op_fdiv (pe_op op_add (pv 2) pe_int) pe_int) (pa_cons (pe_op op_sub (pe_op op_add (pv 2) pe_int) (pe_op op_mod (pe_callTy call_int1 (by rfl) M.int PyProof.Rows.boot_int (pa_cons (pv 2) pa_nil)) pe_int)) pa_nil)))))))) pa_nil)))))))), ?_⟩
  have lrs : rs.length = os.length := by rw [GR.r0.length, V0.l2]
  refine ⟨_, rfl, _, _, _, _, true, rfl, .own C, .base (.ins G.ob T.cl GI.ca GI.sp GI.tk GI.mo), GI.kG, true, rfl, iteF ?_⟩
  refine ⟨le_line (n := 1) (by decide), fun z1 hz1 => ?_⟩
  have u1 := same_new hz1 (.lst [V.int 0])
  have GR1 := GR.same u1
  refine ⟨_, rfl, g, _, 1, .ref p, rfl, rfl, SqL.of GR1.g0, rfl, p, _, rfl, .inl (SqL.of GR1.p0), fun z2 hz2 => ?_⟩
  have u2 := same_new hz2 (.lst (ps.map V.int))
  refine ⟨z1, z2, _, _, rfl, rfl, u2 _ _ upd_same, upd_same, le_line (by rw [List.length_map, V0.l1]; show 1 + os.length ≤ 1000; omega), fun z3 hz3 => ?_⟩
  have u3 := same_new hz3 (.lst ([V.int 0] ++ ps.map V.int))
  have e3 : upd (upd (upd H z1 (.lst [V.int 0])) z2 (.lst (ps.map V.int))) z3 (.lst ([V.int 0] ++ ps.map V.int)) z3 = some (.lst ((0 :: ps).map V.int)) := upd_same
  have m3 := (u1.trans u2).trans u3
  generalize upd (upd (upd H z1 (.lst [V.int 0])) z2 (.lst (ps.map V.int))) z3 (.lst ([V.int 0] ++ ps.map V.int)) = H3 at e3 m3 ⊢
  refine ⟨z3, 0 :: ps, rfl, SqL.of e3, Nat.succ_pos _, fun mx h1 h2 => ?_⟩
  have emx : mx = m := by
    rcases G.top with ⟨h3, h4⟩ | ⟨h3, h4⟩
    · rw [h3] at h1
      rw [List.mem_singleton.mp h1, h4]
    · have hm0 := (V0.p m h3).1
      have hle := h2 m (List.mem_cons_of_mem _ h3)
      rcases List.mem_cons.mp h1 with z | z
      · omega
      · have := h4 mx z
        omega
  subst emx
  have G3 := G.same m3
  refine ⟨_, rfl, md, C, dx, _, _, rfl, G3.ob, T.cl, T.nO, fld_own a b c mx, _, rfl, md, C, dx, _, _, rfl, G3.ob, T.cl, T.nP, fld_pri a b c mx, _, rfl, md, C, dx, _, _, rfl, G3.ob, T.cl, T.nS, fld_suc a b c mx, _, rfl, md, dx, _, rfl, G3.ob, md, os, ps, rows, dx, a, b, c, ts, mx, rfl, G3, os.length, rfl, by omega, _, rfl, md, C, dx, _, _, rfl, G3.ob, T.cl, T.nT, fld_top a b c mx, _, rfl, md, C, dx, _, _, rfl, G3.ob, T.cl, T.nH, fld_hei a b c mx, _, rfl, md, C, dx, _, _, rfl, G3.ob, T.cl, T.nC, fld_cei a b c mx, le_line (n := 7) (by decide), fun tu htu => ?_⟩
  have t1 := same_new htu (.tup [.ref a, .ref b, .ref c, .int (os.length : Nat), .int mx, .int ((mx + 1) / 2), .int (mx + 2 - mx % 2)])
  have etu : upd H3 tu (.tup [.ref a, .ref b, .ref c, .int (os.length : Nat), .int mx, .int ((mx + 1) / 2), .int (mx + 2 - mx % 2)]) tu = some (.tup [.ref a, .ref b, .ref c, .int (os.length : Nat), .int mx, .int ((mx + 1) / 2), .int (mx + 2 - mx % 2)]) := upd_same
  have m4 := m3.trans t1
  have G4 := G3.same t1
  generalize upd H3 tu (.tup [.ref a, .ref b, .ref c, .int (os.length : Nat), .int mx, .int ((mx + 1) / 2), .int (mx + 2 - mx % 2)]) = H4 at etu m4 G4 ⊢
  have GR4 := GR.same m4
  refine ⟨_, rfl, g, _, 2, .ref sx, rfl, rfl, SqL.of GR4.g0, rfl, sx, rfl, ⟨_, SqL.of GR4.s0⟩, fun D4 hD4 => ?_⟩
  refine lc_newL (xs := rs.map V.ref) (fun i _ ob => ∃ xs, rows[i]? = some xs ∧ ob = .tup (xs.map V.int)) (by rw [List.length_map]; omega) (SqL.of GR4.s0) hD4 (fun i x H' k nn hx sm hk => ⟨rfl, tYI ?_⟩) (fun H5 rs3 t5 eD4 lrs3 pw3 => ?_)
  · obtain ⟨r, hr1, rfl⟩ := map_atV hx
    obtain ⟨xs, hxs, er⟩ := pr_get GR4.r0 hr1
    exact ⟨_, rfl, .inl ⟨r, _, rfl, SqL.of (sm _ _ er), fun l hl' => hk l _ _ (same_new hl' _) hl' upd_same ⟨xs, hxs, rfl⟩⟩⟩
  have pr3 : Paired (fun r xs => H5 r = some (.tup (xs.map V.int))) rs3 rows := pr_of (by rw [lrs3, List.length_map, lrs, V0.l2]) fun i r xs h1 h2 => by
    obtain ⟨ob, _, _, eo, ys, hy, rfl⟩ := pw3 i r (.ref (rs.getD i 0)) h1 (at_map (gd_at (by have := lt_of_at h2; rw [lrs]; rw [V0.l2] at this; exact this)))
    rw [h2] at hy
    cases hy
    exact eo
  clear pw3
  refine .inl ⟨D4, _, rfl, SqL.of eD4, fun tr htr => ?_⟩
  have t6 := same_new htr (.tup (rs3.map V.ref))
  have etr : upd H5 tr (.tup (rs3.map V.ref)) tr = some (.tup (rs3.map V.ref)) := upd_same
  have pr4 := L2.Paired.mapP pr3 fun _ _ e => t6 _ _ e
  have m6 := t5.trans t6
  generalize upd H5 tr (.tup (rs3.map V.ref)) = H6 at etr pr4 m6 ⊢
  have GR6 := GR4.same m6
  refine ⟨_, rfl, _, rfl, g, _, 0, .ref o, rfl, rfl, SqL.of GR6.g0, rfl, .inl ⟨o, _, rfl, SqL.of GR6.o0, fun v1 hv1 => ?_⟩⟩
  have t7 := same_new hv1 (.tup (os.map V.int))
  have ev1 : upd H6 v1 (.tup (os.map V.int)) v1 = some (.tup (os.map V.int)) := upd_same
  generalize upd H6 v1 (.tup (os.map V.int)) = H7 at t7 ev1 ⊢
  have GR7 := GR6.same t7
  refine ⟨_, rfl, g, _, 1, .ref p, rfl, rfl, SqL.of GR7.g0, rfl, .inl ⟨p, _, rfl, SqL.of GR7.p0, fun v2 hv2 => ?_⟩⟩
  have t8 := same_new hv2 (.tup (ps.map V.int))
  have ev2 : upd H7 v2 (.tup (ps.map V.int)) v2 = some (.tup (ps.map V.int)) := upd_same
  generalize upd H7 v2 (.tup (ps.map V.int)) = H8 at t8 ev2 ⊢
  have GR8 := GR7.same t8
  refine ⟨_, rfl, _, rfl, g, _, 0, .ref o, rfl, rfl, SqL.of GR8.g0, rfl, o, _, rfl, .inl (SqL.of GR8.o0), _, rfl, _, rfl, _, _, rfl, rfl, _, _, rfl, rfl, ⟨by decide, by decide⟩, _, rfl, _, _, rfl, rfl, _, rfl, .inl ⟨_, rfl, _, _, rfl, rfl, (by show (0 : Int) < 2; decide), _, _, rfl, rfl, le_line (n := 7) (by decide), fun v3 hv3 => ?_⟩⟩
  rw [List.length_map]
  have t9 := same_new hv3 (.tup [.ref v1, .ref v2, .ref tr, .int (os.length : Nat), .int mx, .int ((mx + 1) / 2), .int (mx + 2 - mx % 2)])
  have m9 := ((m6.trans t7).trans t8).trans t9
  have G9 := G4.same m9
  have hro : ∀ x ∈ rows, x.length ≤ 1000 := fun x hx => (V0.r x hx).2.2.2
  refine ⟨.ref tu, .ref v3, dtG os ps rows os.length mx, rfl, ?_, ?_, q _ (m4.trans m9)⟩
  · exact rep_dtG (m9 _ _ etu) G9.oa G9.ob2 G9.oc G9.or (by omega) (by rw [V0.l1]; omega) (by rw [V0.l2]; omega) hro
  · exact rep_dtG upd_same (t9 _ _ (t8 _ _ ev1)) (t9 _ _ ev2) ((((t7.trans t8).trans t9)) _ _ etr) (L2.Paired.mapP pr4 fun _ _ e => ((t7.trans t8).trans t9) _ _ e) (by omega) (by rw [V0.l1]; omega) (by rw [V0.l2]; omega) hro
end
end GM
set_option Elab.async false
set_option linter.all false
set_option maxRecDepth 100000
set_option maxHeartbeats 4000000
set_option pp.maxSteps 150
set_option pp.deepTerms false
namespace GM
open PySem PySem.Spec PyProof.Rows L2
/-! ### _law_part -/
def spPart : Sp := fun vs H Q _ => ∃ (g ca : Addr) (cs : List Int) (os ps : List Int) (rows : List (List Int)) (o p sx : Addr) (rs : List Addr), vs = [.ref g, .ref ca] ∧ GraphAt H g os ps rows o p sx rs ∧ Valid os ps rows ∧ os.length ≤ 60 ∧ H ca = some (.lst (cs.map V.int)) ∧ cs.Pairwise (· < ·) ∧ (∀ x ∈ cs, 0 ≤ x ∧ x < (os.length : Int)) ∧ cs.length ≤ 60 ∧
  (∀ v, deadF rows cs = some v → ∀ H' r, Same H H' → H' r = some (.lst [.int v]) → Q (.ref r) H') ∧
  (deadF rows cs = none → ∀ H' r o' p' s' rs', Same H H' → GraphAt H' r (cs.map fun v => os.getD v.toNat 0) (cs.map fun v => ps.getD v.toNat 0) (cs.map (rowR rows cs)) o' p' s' rs' → Q (.ref r) H')
theorem eqV_int (x y : Int) : eqV (.int x) (.int y) = decide (x = y) := rfl
section
variable {P : Program} {w : World} {K : PySem.W.Frag} {mg : Str → Option Value} {base : Heap} (M : Blt mg)
include M
theorem ok_part {f : Addr} {fd : FuncData} (F : Fun K "_law_part" "_law_part" s__law_part f fd) : FnOk P w K mg base CX0 1 f fd ["game", "chosen"] spPart := by
  refine F.ok sc__law_part (fun vs H Q E h => ?_) (fun cdv A outer s H vs Q E hr h => ?_)
  · obtain ⟨g, ca, cs, os, ps, rows, o, p, sx, rs, rfl, _⟩ := h
    rfl
  obtain ⟨g, ca, cs, os, ps, rows, o, p, sx, rs, rfl, G, V0, h60, ec, hasc, hin, hl, qD, qQ⟩ := h
  have nd := sc__law_part.nd
  refine ⟨_, pss_cons (ps_set (i := 2) nd rfl (.inl rfl) (pe_lst pa_nil))
    (pss_cons (ps_for PassesOwn.never rfl (pi_list (pv 1)) (pg_name (i := 3) nd rfl (.inl rfl)) (pss_cons (ps_setLc (i := 4) (own := [("u", 5)]) (g := gName 5) (tt := _) rfl nd rfl rfl (sw_true rfl rfl rfl (by decide +kernel)) (pi_list (pe_ix ix_list (pe_ix ix_list (pv 0) pe_int (fun _ _ => rfl)) (pv 3) (fun _ _ => rfl))) (blkOk_by (N := n__law_part) (sc := defScope s__law_part) (by decide +kernel)) (fun _ _ _ _ _ => pg_name (i := 5) nd rfl (Or.inl rfl)) (fun _ _ _ _ _ => pts_one (pt_cmpR (show OpR _ _ (rIn K false) from op_in_seq) (pv 5) (pv 1) rfl)) (fun _ _ _ _ _ => (show PE _ _ (tBM K "list" (rIndex K) (tVar 1) (tCons (tVar 5) tNil)) from pe_bm PySem.F.plainAttrs_list PySem.F.slot_list_index PySem.F.type_list_index mt_index (pv 1) (pa_cons (pv 5) pa_nil))))
      (pss_cons (ps_if (pt_cmpR op_eq (pe_callB call_len_seq (by rfl) M.len PySem.boot_len (pa_cons (pv 4) pa_nil)) pe_int (nomark _)) (pss_one (ps_ret (pe_lst (pa_cons (pv 3) pa_nil)))) pss_nil)
      (pss_one (ps_expr (pe_bm PySem.F.plainAttrs_list PySem.F.slot_list_append PySem.F.type_list_append mt_append (pv 2) (pa_cons (pv 4) pa_nil)))))))
    (pss_one (ps_ret (pe_lst (pa_cons (pe_lc (own := [("v", 3)]) (g := gName 3) (tt := tYes) rfl nd (pi_list (pv 1)) (blkOk_by (N := n__law_part) (sc := defScope s__law_part) (by decide +kernel)) (fun _ _ _ _ _ => pg_name (i := 3) nd rfl (Or.inl rfl)) (fun _ _ _ _ _ => pts_nil) (fun _ _ _ _ _ => (pe_ix (show IxR _ (rIxL K) from ix_list) (pe_ix (show IxR _ (rIxL K) from ix_list) (pv 0) pe_int (fun _ _ => rfl)) (pv 3) (fun _ _ => rfl)))) (pa_cons (pe_lc (own := [("v", 3)]) (g := gName 3) (tt := tYes) rfl nd (pi_list (pv 1)) (blkOk_by (N := n__law_part) (sc := defScope s__law_part) (by decide +kernel)) (fun _ _ _ _ _ => pg_name (i := 3) nd rfl (Or.inl rfl)) (fun _ _ _ _ _ => pts_nil) (fun _ _ _ _ _ => (pe_ix (show IxR _ (rIxL K) from ix_list) (pe_ix (show IxR _ (rIxL K) from ix_list) (pv 0) pe_int (fun _ _ => rfl)) (pv 3) (fun _ _ => rfl)))) (pa_cons (pv 2) pa_nil))))))), ?_⟩
  have hrl : rows.length = os.length := V0.l2
  refine ⟨Nat.zero_le _, fun rw' hrw => ?_⟩
  have s2 := same_new hrw (.lst [])
  refine ⟨_, rfl, ca, rfl, ⟨_, SqL.of (s2 _ _ ec)⟩, ?_⟩
  refine for_list (xs := cs.map V.int) (fun i σ H' => Same H H' ∧ ∃ (ts' : List Addr) (y3 y4 : Option V), H' rw' = some (.lst (ts'.map V.ref)) ∧ Paired (fun r xs => r ≠ rw' ∧ H' r = some (.lst (xs.map V.int))) ts' ((cs.take i).map (rowR rows cs)) ∧ (∀ v ∈ cs.take i, rowR rows cs v ≠ []) ∧ σ = [some (.ref g), some (.ref ca), some (.ref rw'), y3, y4, Option.none])
    ⟨s2, [], Option.none, Option.none, upd_same, .nil, (fun v h => nomatch h), rfl⟩ (fun i σ H' hi z => SqL.of (z.1 _ _ ec)) ?_ ?_
  · rintro i x σ H3 hx ⟨s3, ts', y4, y5, er, pr, hne, rfl⟩
    obtain ⟨v, hv, rfl⟩ := map_at hx
    have hvb := hin v (List.mem_of_getElem? hv)
    have erw : rows[v.toNat]? = some (rows.getD v.toNat []) := gd_at (by omega)
    have G3 := G.same s3
    obtain ⟨r, hr', er'⟩ := pr_getR G3.r0 erw
    have hasr := V0.r _ (List.mem_of_getElem? erw)
    have hz2 : ((v.toNat : Nat) : Int) = v := by omega
    have ec3 := s3 _ _ ec
    refine ⟨_, rfl, g, _, 2, .ref sx, rfl, rfl, SqL.of G3.g0, rfl, _, rfl, sx, _, _, .ref r, rfl, rfl, SqL.of G3.s0, (by rw [← hz2]; exact atI_nat (at_map hr')), r, rfl, ⟨_, SqL.of er'⟩, fun D1 hD1 => ?_⟩
    refine lc_fmapL (fun u => (posF 0 cs u).map fun n => ((n : Nat) : Int)) hasr.2.2.2 (SqL.of er') hD1 (fun j z H' k nn hz sm hk hno => ⟨rfl, ?_⟩) (fun H4 s4 eD1 => ?_)
    · have ec4 := sm _ _ ec3
      refine ⟨_, rfl, _, rfl, ca, _, rfl, .inl (SqL.of ec4), rfl, flat_int _, _, rfl, ?_⟩
      rw [inV_int]
      cases hpos : posF 0 cs z with
      | none =>
        rw [decide_eq_false (posF_none hpos)]
        refine iteF (hno ?_)
        show Option.map _ (posF 0 cs z) = _
        rw [hpos]; rfl
      | some n =>
        obtain ⟨_, a1, a2⟩ := posF_at hpos
        rw [Nat.sub_zero] at a1 a2
        rw [decide_eq_true (List.mem_of_getElem? a1)]
        refine iteT ⟨_, rfl, .inl ⟨rfl, _, SqL.of ec4⟩, _, rfl, ca, _, _, n, .int z, rfl, rfl, SqL.of ec4, rfl, flat_int _, at_map a1, ?_, ?_, hk _ ?_⟩
        · rw [eqV_int]; exact decide_eq_true rfl
        · intro i2 z2 hi2 hz2
          obtain ⟨y, hy, rfl⟩ := map_at hz2
          rw [eqV_int]
          exact decide_eq_false (a2 i2 hi2 y hy)
        · show Option.map _ (posF 0 cs z) = _
          rw [hpos]; rfl
    · have eR : ((rows.getD v.toNat []).filterMap fun u => (posF 0 cs u).map fun n => ((n : Nat) : Int)) = rowR rows cs v := rfl
      rw [eR] at eD1
      have s34 := s3.trans s4
      refine ⟨_, rfl, D1, _, rfl, .inl (SqL.of eD1), rfl, _, rfl, ?_⟩
      rw [List.length_map]
      by_cases hrr : rowR rows cs v = []
      · rw [hrr]
        refine iteT ⟨_, rfl, le_line (n := 1) (by decide), fun k hk => ?_⟩
        exact qD v (dead_at hv hne hrr) _ k (s34.trans (same_new hk _)) upd_same
      · have hlp := List.length_pos_iff.mpr hrr
        have e0 : decide (V.int (((rowR rows cs v).length : Nat) : Int) = V.int 0) = false := by
          rw [dInt]; exact decide_eq_false (by omega)
        rw [e0]
        have er4 := s4 _ _ er
        have nD : D1 ≠ rw' := fun z => by rw [z, er] at hD1; exact nomatch hD1
        have ltk : (cs.take i).length = i := by rw [List.length_take]; have := lt_of_at hv; omega
        have lts : ts'.length = i := by rw [pr.length, List.length_map, ltk]
        refine iteF ⟨_, rfl, .inl ⟨rfl, _, SqL.of er4⟩, _, rfl, rw', _, _, rfl, rfl, er4, ?_, ?_⟩
        · rw [List.length_map, lts]; exact lt_line (by have := lt_of_at hv; omega)
        · refine ⟨same_upd s34 hrw _, ts' ++ [D1], _, _, ?_, ?_, ?_, rfl⟩
          · rw [upd_same, List.map_append]; rfl
          · rw [tk1 hv, List.map_append]
            exact (L2.Paired.mapP pr fun r xs z => ⟨z.1, by rw [upd_ne z.1]; exact s4 _ _ z.2⟩).snoc ⟨nD, by rw [upd_ne nD]; exact eD1⟩
          · intro u hu
            rw [tk1 hv] at hu
            rcases List.mem_append.mp hu with hu | hu
            · exact hne u hu
            · rw [List.mem_singleton.mp hu]; exact hrr
  · rintro σ H3 ⟨s3, ts', y4, y5, er, pr, hne, rfl⟩
    rw [List.length_map, List.take_length] at pr hne
    have G3 := G.same s3
    have ec3 := s3 _ _ ec
    have hdn := dead_none hne
    refine ⟨_, rfl, ca, rfl, ⟨_, SqL.of ec3⟩, fun D1 hD1 => ?_⟩
    refine lc_mapI (fun v => os.getD v.toNat 0) (by omega) (SqL.of ec3) hD1 (fun j z H' k nn hz sm hk => ⟨rfl, tYI ?_⟩) (fun H4 s4 eO => ?_)
    · have hb := hin z (List.mem_of_getElem? hz)
      have G' := G3.same sm
      exact ⟨_, rfl, g, _, 0, .ref o, rfl, rfl, SqL.of G'.g0, rfl, _, rfl, o, _, _, _, rfl, rfl, SqL.of G'.o0, (by rw [show z = ((z.toNat : Nat) : Int) by omega]; exact atI_nat (at_map (by rw [Int.toNat_natCast]; exact gd_at (d := 0) (by omega)))), hk⟩
    have G4 := G3.same s4
    have ec4 := s4 _ _ ec3
    refine ⟨_, rfl, ca, rfl, ⟨_, SqL.of ec4⟩, fun D2 hD2 => ?_⟩
    refine lc_mapI (fun v => ps.getD v.toNat 0) (by omega) (SqL.of ec4) hD2 (fun j z H' k nn hz sm hk => ⟨rfl, tYI ?_⟩) (fun H5 s5 eP => ?_)
    · have hb := hin z (List.mem_of_getElem? hz)
      have G' := G4.same sm
      exact ⟨_, rfl, g, _, 1, .ref p, rfl, rfl, SqL.of G'.g0, rfl, _, rfl, p, _, _, _, rfl, rfl, SqL.of G'.p0, (by rw [show z = ((z.toNat : Nat) : Int) by omega]; exact atI_nat (at_map (by rw [Int.toNat_natCast]; exact gd_at (d := 0) (by rw [V0.l1]; omega)))), hk⟩
    refine ⟨_, rfl, le_line (n := 3) (by decide), fun k hk => ?_⟩
    have s6 := same_new hk (.lst [.ref D1, .ref D2, .ref rw'])
    have s46 := s4.trans s5
    refine qQ hdn _ k D1 D2 rw' ts' ((s3.trans s46).trans s6) ⟨upd_same, s6 _ _ (s5 _ _ eO), s6 _ _ eP, s6 _ _ (s46 _ _ er), L2.Paired.mapP pr fun _ _ e => s6 _ _ (s46 _ _ e.2)⟩
end
end GM
set_option Elab.async false
set_option linter.all false
set_option maxRecDepth 100000
set_option maxHeartbeats 4000000
set_option pp.maxSteps 150
set_option pp.deepTerms false
namespace GM
open PySem PySem.Spec PyProof.Rows L2
/-! ### _law_chosen -/
def lcSc : Stmt → Scope
  | .Assign _ (.ListComp _ _ sc _) _ => sc
  | _ => defScope s_law
def ifB : Stmt → Stmt
  | .If _ (s :: _) _ _ => s
  | s => s
def forB : Stmt → Stmt
  | .For _ _ (s :: _) _ _ => s
  | s => s
def innSc : Scope := lcSc (forB (ifB ((defBody s__law_chosen).getD 3 (.Pass ⟨0, 0, 0, 0⟩))))
def rLen1 (K : PySem.W.Frag) : List V → Hp → VK → Prop := fun xs H Q => ∃ p ys, xs = [V.ref p] ∧ (SqL K H p ys ∨ SqT K H p ys) ∧ Q (.int ys.length) H
def spChosen : Sp := fun vs H Q _ => ∃ (g : Addr) (z : Int) (b : Bool) (os ps : List Int) (rows : List (List Int)) (o p sx : Addr) (rs : List Addr), vs = [.ref g, .int z, .bl b] ∧ GraphAt H g os ps rows o p sx rs ∧ Valid os ps rows ∧ os.length ≤ 60 ∧
  ∀ H' r (cs : List Int), Same H H' → H' r = some (.lst (cs.map V.int)) → cs.Pairwise (· < ·) → (∀ x ∈ cs, 0 ≤ x ∧ x < (os.length : Int)) → cs.length ≤ 60 → Q (.ref r) H'
def keepP (rows : List (List Int)) (cs : List Int) : V → Bool
  | .int v => decide (0 < (((rows.getD v.toNat []).filter fun u => decide (u ∈ cs)).length))
  | _ => false
def inP (cs : List Int) : V → Bool
  | .int u => decide (u ∈ cs)
  | _ => false
theorem filt_int (l : List Int) (p : V → Bool) : (l.map V.int).filter p = (l.filter fun v => p (.int v)).map V.int := by
  rw [List.filter_map]; rfl
section
variable {P : Program} {w : World} {K : PySem.W.Frag} {mg : Str → Option Value} {base : Heap} (M : Blt mg)
include M
theorem ok_chosen {f : Addr} {fd : FuncData} (F : Fun K "_law_chosen" "_law_chosen" s__law_chosen f fd) (G_law_digits : Kn P w K mg base 1 "_law_digits" ["cell", "sizes"] (spDigits K)) : FnOk P w K mg base CX0 2 f fd ["game", "cell", "prune"] spChosen := by
  refine F.ok sc__law_chosen (fun vs H Q E h => ?_) (fun cdv A outer s H vs Q E hr h => ?_)
  · obtain ⟨g, z, b, os, ps, rows, o, p, sx, rs, rfl, _⟩ := h
    rfl
  obtain ⟨g, z, b, os, ps, rows, o, p, sx, rs, rfl, G, V0, h60, q⟩ := h
  have hu := hr.units
  have nd := sc__law_chosen.nd
  refine ⟨_, pss_cons (ps_set (i := 3) nd rfl (.inl rfl) (pe_callB call_len_seq (by rfl) M.len PySem.boot_len (pa_cons (pe_ix ix_list (pv 0) pe_int (fun _ _ => rfl)) pa_nil)))
    (pss_cons (ps_set (i := 4) nd rfl (.inr rfl) (pe_call G_law_digits.ok (hr.mono (by decide)) (by rfl) G_law_digits.m G_law_digits.kp G_law_digits.b .nil pass0 (pa_cons (pv 1) (pa_cons (pe_lc (own := [("v", 8)]) (g := gName 8) (tt := tYes) rfl nd (pi_range1 rfl M.range (pa_cons (pv 3) pa_nil)) (blkOk_by (N := n__law_chosen) (sc := defScope s__law_chosen) (by decide +kernel)) (fun _ _ _ _ _ => pg_name (i := 8) nd rfl (Or.inl rfl)) (fun _ _ _ _ _ => pts_nil) (fun _ _ _ _ _ => pe_int)) pa_nil))))
    (pss_cons (ps_set (i := 5) nd rfl (.inr rfl) (pe_lc (own := [("v", 8)]) (g := gName 8) (tt := _) rfl nd (pi_range1 rfl M.range (pa_cons (pv 3) pa_nil)) (blkOk_by (N := n__law_chosen) (sc := defScope s__law_chosen) (by decide +kernel)) (fun _ _ _ _ _ => pg_name (i := 8) nd rfl (Or.inl rfl)) (fun _ _ _ _ _ => pts_one (pt_cmpR op_gt (pe_ix (show IxR _ (rIxL K) from ix_list) (pv 4) (pv 8) (fun _ _ => rfl)) pe_int (nomark _))) (fun _ _ _ _ _ => (pv 8))))
    (C8.pss_cut (ps_if (pt_val (pv 2)) (pss_one (ps_for PassesOwn.never rfl (pi_range1 rfl M.range (pa_cons (pv 3) pa_nil)) (pg_name (i := 6) nd rfl (.inl rfl)) (pss_cons (ps_setLc (i := 7) (own := [("v", 8)]) (g := gName 8) (tt := _) rfl nd rfl rfl (sw_true rfl rfl rfl (by decide +kernel)) (pi_list (pv 5)) (blkOk_by (N := n__law_chosen) (sc := defScope s__law_chosen) (by decide +kernel)) (fun _ _ _ _ _ => pg_name (i := 8) nd rfl (Or.inl rfl)) (fun _ _ _ _ _ => pts_one (pt_cmpR op_gt (pe_callB (show CallR _ (.builtin "len") (rLen1 K) from call_len_seq) (by rfl) M.len PySem.boot_len (pa_cons (pe_lc (own := [("u", 9)]) (g := gName 9) (tt := _) rfl nd (show PI _ _ _ (iList K (tOp (rIxL K) (tOp (rIxL K) (tVar 0) (tC (.int 2))) (tVar 8))) from pi_list (pe_ix (show IxR _ (rIxL K) from ix_list) (pe_ix (show IxR _ (rIxL K) from ix_list) (pv 0) pe_int (fun _ _ => rfl)) (pv 8) (fun _ _ => rfl))) (blkOk_by (N := n__law_chosen) (sc := relS innSc (defScope s__law_chosen)) (by decide +kernel)) (fun _ _ _ _ _ => pg_name (i := 9) nd rfl (Or.inl rfl)) (fun _ _ _ _ _ => pts_one (pt_cmpR (show OpR _ _ (rIn K false) from op_in_seq) (pv 9) (pv 5) rfl)) (fun _ _ _ _ _ => (pv 9))) pa_nil)) pe_int (nomark _))) (fun _ _ _ _ _ => (pv 8)))
        (pss_cons (ps_if (pt_cmpR (op_eqD hu) (pv 7) (pv 5) (nomark _)) (pss_one ps_break) pss_nil)
        (pss_one (ps_set (i := 5) nd rfl (.inr rfl) (pv 7))))))) pss_nil)
    (pss_one (ps_ret (pv 5)))))), ?_⟩
  have hrl : rows.length = os.length := V0.l2
  refine ⟨_, rfl, g, _, 0, .ref o, rfl, rfl, SqL.of G.g0, rfl, o, _, rfl, .inl (SqL.of G.o0), ?_⟩
  rw [List.length_map]
  generalize hn : os.length = n at *
  refine ⟨_, rfl, _, rfl, _, rfl, by omega, by omega, fun D1 hD1 => ?_⟩
  rw [show ((n : Int)).toNat = n by omega]
  refine lc_mapR (n := n) (fun _ => .int 3) (by omega) hD1 (fun j H' k' nn hj sm h => ⟨rfl, tYI h⟩) (fun H4 s4 eD1 => ?_)
  rw [const_range] at eD1
  refine ⟨z, D1, List.replicate n 3, rfl, SqL.of (by rw [rep_map]; exact eD1), by rw [List.length_replicate]; omega, fun s hs => by rw [List.eq_of_mem_replicate hs]; omega, fun p5 ds H5 s5 hp5 ep5 hd5 => ?_⟩
  have lds : ds.length = n := (Dg.len hd5).trans List.length_replicate
  have s45 := s4.trans s5
  refine ⟨_, rfl, _, rfl, by omega, by omega, fun D2 hD2 => ?_⟩
  rw [show ((n : Int)).toNat = n by omega]
  refine lc_filterR (n := n) (fun u => decide (0 < ds.getD u 0)) (by omega) hD2 (fun u H' k' nn hu' sm hk hno => ⟨rfl, ?_⟩) (fun H6 s6 eD2 => ?_)
  · refine ⟨_, rfl, _, rfl, p5, _, _, _, rfl, rfl, SqL.of (sm _ _ ep5), (by rw [show ((0 : Int) + (u : Int)) = ((u : Nat) : Int) by omega]; exact atI_nat (at_map (gd_at (d := 0) (show u < ds.length by omega)))), _, _, rfl, rfl, _, rfl, ite2 (fun c1 => ?_) (fun c1 => ?_)⟩
    · exact ⟨_, rfl, hk c1 _ (.refl _)⟩
    · exact hno (Bool.eq_false_iff.mpr c1) _ (.refl _)
  have s06 := s45.trans s6
  refine ⟨fun σ H' => Same H H' ∧ ∃ (ca : Addr) (cs : List Int) (y6 y7 : Option V), H' ca = some (.lst (cs.map V.int)) ∧ cs.Pairwise (· < ·) ∧ (∀ x ∈ cs, 0 ≤ x ∧ x < (n : Int)) ∧ cs.length ≤ 60 ∧ σ = [some (.ref g), some (.int z), some (.bl b), some (.int (n : Int)), some (.ref p5), some (.ref ca), y6, y7, Option.none, Option.none], ?_, ?_⟩
  · have hasc := asc_map (asc_filter (fun u => decide (0 < ds.getD u 0)) n)
    have hsub : ∀ x ∈ (((List.range n).filter fun u => decide (0 < ds.getD u 0)).map fun i : Nat => (i : Int)), 0 ≤ x ∧ x < (n : Int) := by
      intro x hx
      obtain ⟨u, hu', rfl⟩ := List.mem_map.mp hx
      have := List.mem_range.mp (List.mem_filter.mp hu').1
      omega
    have hlen : (((List.range n).filter fun u => decide (0 < ds.getD u 0)).map fun i : Nat => (i : Int)).length ≤ 60 := by
      rw [List.length_map]
      have := List.length_filter_le (fun u => decide (0 < ds.getD u 0)) (List.range n)
      rw [List.length_range] at this
      omega
    generalize (((List.range n).filter fun u => decide (0 < ds.getD u 0)).map fun i : Nat => (i : Int)) = c0 at eD2 hasc hsub hlen
    refine ⟨_, rfl, ?_⟩
    cases b with
    | false => exact ⟨_, rfl, iteF ⟨s06, D2, c0, _, _, eD2, hasc, hsub, hlen, rfl⟩⟩
    | true =>
      refine ⟨_, rfl, iteT ⟨_, rfl, _, rfl, by omega, by omega, ?_⟩⟩
      rw [show ((n : Int)).toNat = n by omega]
      refine for_range (n := n) (fun i σ H' => Same H H' ∧ ∃ (ca : Addr) (cs : List Int) (y6 y7 : Option V), H' ca = some (.lst (cs.map V.int)) ∧ cs.Pairwise (· < ·) ∧ (∀ x ∈ cs, 0 ≤ x ∧ x < (n : Int)) ∧ cs.length ≤ 60 ∧ σ = [some (.ref g), some (.int z), some (.bl true), some (.int (n : Int)), some (.ref p5), some (.ref ca), y6, y7, Option.none, Option.none]) ⟨s06, D2, c0, Option.none, Option.none, eD2, hasc, hsub, hlen, rfl⟩ ?_ (fun σ H' h => h)
      rintro i σ H7 hi ⟨s7, ca, cs, y6, y7, ec, k1, k2, k3, rfl⟩
      refine ⟨_, rfl, ca, rfl, ⟨_, SqL.of ec⟩, fun D3 hD3 => ?_⟩
      refine lc_filterL (xs := cs.map V.int) (keepP rows cs) (by rw [List.length_map]; omega) (SqL.of ec) hD3 (fun j x H' k nn hx sm hk hno => ⟨rfl, ?_⟩) (fun H8 s8 eD3 => ?_)
      · obtain ⟨v, hv, rfl⟩ := map_at hx
        have hvb := k2 v (List.mem_of_getElem? hv)
        have erw : rows[v.toNat]? = some (rows.getD v.toNat []) := gd_at (by omega)
        have G8 := (G.same s7).same sm
        obtain ⟨r, hr', er'⟩ := pr_getR G8.r0 erw
        have hasr := V0.r _ (List.mem_of_getElem? erw)
        have ec8 := sm _ _ ec
        refine ⟨_, rfl, g, _, 2, .ref sx, rfl, rfl, SqL.of G8.g0, rfl, _, rfl, sx, _, _, .ref r, rfl, rfl, SqL.of G8.s0, (by rw [show v = ((v.toNat : Nat) : Int) by omega]; exact atI_nat (at_map hr')), r, rfl, ⟨_, SqL.of er'⟩, fun D4 hD4 => ?_⟩
        refine lc_filterL (xs := (rows.getD v.toNat []).map V.int) (inP cs) (by rw [List.length_map]; exact hasr.2.2.2) (SqL.of er') hD4 (fun j2 x2 H2' k2' nn2 hx2 sm2 hk2 hno2 => ⟨rfl, ?_⟩) (fun H9 s9 eD4 => ?_)
        · obtain ⟨u, hu', rfl⟩ := map_at hx2
          refine ⟨_, rfl, _, rfl, ca, _, rfl, .inl (SqL.of (sm2 _ _ ec8)), rfl, flat_int _, _, rfl, ?_⟩
          rw [inV_int]
          by_cases c : u ∈ cs
          · rw [decide_eq_true c]
            exact iteT ⟨_, rfl, hk2 (decide_eq_true c) _ (.refl _)⟩
          · rw [decide_eq_false c]
            exact iteF (hno2 (decide_eq_false c) _ (.refl _))
        · rw [filt_int] at eD4
          refine ⟨D4, _, rfl, .inl (SqL.of eD4), _, _, rfl, rfl, _, rfl, ?_⟩
          rw [List.length_map]
          have ek : keepP rows cs (.int v) = decide (0 < (((rows.getD v.toNat []).filter fun u => inP cs (.int u)).length)) := rfl
          by_cases c : 0 < (((rows.getD v.toNat []).filter fun u => inP cs (.int u)).length)
          · rw [decide_eq_true (show (0 : Int) < (((((rows.getD v.toNat []).filter fun u => inP cs (.int u)).length) : Nat) : Int) by omega)]
            exact iteT ⟨_, rfl, hk (by rw [ek]; exact decide_eq_true c) _ s9⟩
          · rw [decide_eq_false (show ¬ (0 : Int) < (((((rows.getD v.toNat []).filter fun u => inP cs (.int u)).length) : Nat) : Int) by omega)]
            exact iteF (hno (by rw [ek]; exact decide_eq_false c) _ s9)
      · rw [filt_int] at eD3
        have j1 : (cs.filter fun v => keepP rows cs (.int v)).Pairwise (· < ·) := k1.filter _
        have j2 : ∀ x ∈ (cs.filter fun v => keepP rows cs (.int v)), 0 ≤ x ∧ x < (n : Int) := fun x hx => k2 x (List.mem_filter.mp hx).1
        have j3 : (cs.filter fun v => keepP rows cs (.int v)).length ≤ 60 := Nat.le_trans (List.length_filter_le _ _) k3
        generalize (cs.filter fun v => keepP rows cs (.int v)) = c1 at eD3 j1 j2 j3
        have ec8 := s8 _ _ ec
        have sh : ∀ l : List Int, PySem.SeqAt.shaped (.list (l.map PyData.int)) = true := fun l => shape_ints l
        refine ⟨_, rfl, _, rfl, .list (c1.map PyData.int), .list (cs.map PyData.int), .lst (SqL.of eD3) (dp_ints _), .lst (SqL.of ec8) (dp_ints _), sh c1, sh cs, _, rfl, ?_⟩
        cases PyData.eqv (.list (c1.map PyData.int)) (.list (cs.map PyData.int)) with
        | true => exact iteT ⟨s7.trans s8, ca, cs, _, _, ec8, k1, k2, k3, rfl⟩
        | false => exact iteF ⟨_, rfl, s7.trans s8, D3, c1, _, _, eD3, j1, j2, j3, rfl⟩
  · rintro σ H7 ⟨s7, ca, cs, y6, y7, ec, h1, h2, h3, rfl⟩
    exact ⟨_, rfl, q H7 ca cs s7 ec h1 h2 h3⟩
end
end GM
set_option Elab.async false
set_option linter.all false
set_option maxRecDepth 100000
set_option maxHeartbeats 4000000
set_option pp.maxSteps 150
set_option pp.deepTerms false
namespace GM
open PySem PySem.Spec PyProof.Rows L2
/-! ### walks -/
def Wk (n : Nat) (rows : List (List Int)) (st : List Int) : Prop :=
  (∀ x ∈ st, 0 ≤ x ∧ x < (n : Int)) ∧ ∀ k, k + 1 < st.length → st.getD (k + 1) 0 ∈ rows.getD (st.getD k 0).toNat []
theorem wk_one {n : Nat} {rows : List (List Int)} {x : Int} (h : 0 ≤ x ∧ x < (n : Int)) : Wk n rows [x] :=
  ⟨fun y hy => by rw [List.mem_singleton.mp hy]; exact h, fun k hk => absurd hk (by rw [List.length_singleton]; omega)⟩
theorem getD_l {l m : List Int} {k : Nat} (h : k < l.length) : (l ++ m).getD k 0 = l.getD k 0 := by
  rw [List.getD_eq_getElem?_getD, List.getD_eq_getElem?_getD, List.getElem?_append_left h]
theorem getD_r {l : List Int} {x : Int} : (l ++ [x]).getD l.length 0 = x := by
  rw [List.getD_eq_getElem?_getD, List.getElem?_append_right (Nat.le_refl _), Nat.sub_self]; rfl
theorem getD_take {l : List Int} {k j : Nat} (h : k < j) : (l.take j).getD k 0 = l.getD k 0 := by
  rw [List.getD_eq_getElem?_getD, List.getD_eq_getElem?_getD, List.getElem?_take_of_lt h]
theorem wk_snoc {n : Nat} {rows : List (List Int)} {pre : List Int} {z t : Int} (h : Wk n rows (pre ++ [z])) (ht : 0 ≤ t ∧ t < (n : Int)) (hm : t ∈ rows.getD z.toNat []) : Wk n rows (pre ++ [z] ++ [t]) := by
  refine ⟨fun x hx => ?_, fun k hk => ?_⟩
  · rcases List.mem_append.mp hx with hx | hx
    · exact h.1 x hx
    · rw [List.mem_singleton.mp hx]; exact ht
  · have e : (pre ++ [z]).length = pre.length + 1 := by rw [List.length_append]; rfl
    rw [List.length_append, e, List.length_singleton] at hk
    by_cases c : k + 1 < pre.length + 1
    · rw [getD_l (l := pre ++ [z]) (by omega), getD_l (l := pre ++ [z]) (by omega)]
      exact h.2 k (by omega)
    · have ek : k = pre.length := by omega
      subst ek
      rw [getD_l (l := pre ++ [z]) (by omega), getD_r]
      rw [← e, getD_r]
      exact hm
theorem nodup_len : ∀ (n : Nat) (l : List Nat), l.Nodup → (∀ x ∈ l, x < n) → l.length ≤ n
  | 0, [], _, _ => Nat.le_refl _
  | 0, x :: l, _, h => absurd (h x List.mem_cons_self) (Nat.not_lt_zero _)
  | n + 1, l, hd, h => by
    by_cases c : n ∈ l
    · have e := nodup_len n (l.erase n) (hd.erase n) (fun x hx => by
        have h1 := h x (List.mem_of_mem_erase hx)
        have h2 : x ≠ n := fun z => (hd.mem_erase_iff.mp hx).1 z
        omega)
      rw [List.length_erase_of_mem c] at e
      omega
    · have e := nodup_len n l hd (fun x hx => by
        have h1 := h x hx
        have h2 : x ≠ n := fun z => c (z ▸ hx)
        omega)
      omega
/-- two of many are equal -/
theorem wk_meet {n : Nat} {st : List Int} (hb : ∀ x ∈ st, 0 ≤ x ∧ x < (n : Int)) (hl : n < st.length) : ∃ i j, i < j ∧ j < st.length ∧ st.getD i 0 = st.getD j 0 := by
  refine Classical.byContradiction fun hno => ?_
  have nd : (st.map Int.toNat).Nodup := by
    refine List.pairwise_iff_getElem.mpr fun i j hi hj hij e => hno ⟨i, j, hij, by rw [List.length_map] at hj; exact hj, ?_⟩
    rw [List.length_map] at hi hj
    rw [List.getElem_map, List.getElem_map] at e
    have b1 := hb _ (List.getElem_mem hi)
    have b2 := hb _ (List.getElem_mem hj)
    rw [List.getD_eq_getElem?_getD, List.getD_eq_getElem?_getD, List.getElem?_eq_getElem hi, List.getElem?_eq_getElem hj]
    show st[i] = st[j]
    omega
  have e := nodup_len n _ nd (fun x hx => by
    obtain ⟨y, hy, rfl⟩ := List.mem_map.mp hx
    have := hb y hy
    omega)
  rw [List.length_map] at e
  omega
theorem wk_cut {n : Nat} {rows : List (List Int)} {st : List Int} {i j : Nat} (h : Wk n rows st) (hij : i < j) (hj : j < st.length) (e : st.getD i 0 = st.getD j 0) : faultO n rows (st.take i) ((st.drop i).take (j - i)) = none := by
  have h1 : stepsOf (st.take i) ((st.drop i).take (j - i)) = st.take j := by
    unfold stepsOf
    rw [← List.take_add, show i + (j - i) = j by omega]
  have hi : i < st.length := by omega
  have h2 : ((st.drop i).take (j - i)).take 1 = [st.getD i 0] := by
    rw [List.drop_eq_getElem_cons hi, show j - i = (j - i - 1) + 1 by omega, List.take_succ_cons, List.take_succ_cons, List.take_zero, List.getD_eq_getElem?_getD, List.getElem?_eq_getElem hi]; rfl
  have h3 : aheadOf (st.take i) ((st.drop i).take (j - i)) = st.take (j + 1) := by
    have : st.take i ++ (st.drop i).take (j - i) = st.take j := h1
    unfold aheadOf
    rw [this, h2, e, tk1 (gd_at (d := (0 : Int)) hj)]
  have h4 : (st.drop i).take (j - i) ≠ [] := fun z => by rw [z] at h2; exact nomatch h2
  have := fault_end (n := n) (rows := rows) (lead := st.take i) (ring := (st.drop i).take (j - i)) (fun k hk => by
    rw [h1, List.length_take] at hk
    rw [h1, h3]
    unfold badAt
    have hkj : k < j := by omega
    rw [getD_take hkj]
    have hx := h.1 (st.getD k 0) (List.mem_of_getElem? (gd_at (d := (0 : Int)) (show k < st.length by omega)))
    rw [decide_eq_true hx.1, decide_eq_true hx.2, List.length_take, getD_take (by omega), decide_eq_true (h.2 k (by omega))]
    exact Bool.and_false _)
  rw [this, if_neg h4]
theorem atI_last {l : List V} {x : V} : atI (l ++ [x]) (-1) = some x := by
  have e : ixN (l ++ [x]).length (-1) = some l.length := by
    rw [List.length_append]
    unfold ixN
    rw [if_neg (by decide), if_pos (by show _ ≤ _; rw [List.length_singleton]; omega)]
    rw [List.length_singleton]
    congr 1
    omega
  unfold atI
  rw [e]
  show (l ++ [x])[l.length]? = some x
  rw [List.getElem?_append_right (Nat.le_refl _), Nat.sub_self]; rfl
/-! ### _law_walk -/
theorem walk_cut {n : Nat} {rows : List (List Int)} {st : List Int} {z : Int} {j : Nat} (h : Wk n rows (st ++ [z])) (hj : st[j]? = some z) : faultO n rows (st.take j) (st.drop j) = none := by
  have lj := lt_of_at hj
  have e := wk_cut (i := j) (j := st.length) h lj (by rw [List.length_append]; exact Nat.lt_succ_self _) (by rw [getD_l lj, getD_r, List.getD_eq_getElem?_getD, hj]; rfl)
  rw [List.take_append_of_le_length (Nat.le_of_lt lj), List.drop_append_of_le_length (Nat.le_of_lt lj), ← List.length_drop, List.take_left] at e
  exact e
def spWalk : Sp := fun vs H Q _ => ∃ (g : Addr) (z : Int) (os ps : List Int) (rows : List (List Int)) (o p sx : Addr) (rs : List Addr), vs = [.ref g, .int z] ∧ GraphAt H g os ps rows o p sx rs ∧ Valid os ps rows ∧ 1 ≤ os.length ∧ os.length ≤ 60 ∧
  ∀ H' r la ra lead ring, Same H H' → H' r = some (.lst [.ref la, .ref ra]) → H' la = some (.lst (lead.map V.int)) → H' ra = some (.lst (ring.map V.int)) → faultO os.length rows lead ring = none → lead.length + ring.length ≤ 400 → Q (.ref r) H'
section
variable {P : Program} {w : World} {K : PySem.W.Frag} {mg : Str → Option Value} {base : Heap} (M : Blt mg)
include M
theorem ok_walk {f : Addr} {fd : FuncData} (F : Fun K "_law_walk" "_law_walk" s__law_walk f fd) (G_law_digits : Kn P w K mg base 1 "_law_digits" ["cell", "sizes"] (spDigits K)) : FnOk P w K mg base CX0 2 f fd ["game", "cell"] spWalk := by
  refine F.ok sc__law_walk (fun vs H Q E h => ?_) (fun cdv A outer s H vs Q E hr h => ?_)
  · obtain ⟨g, z, os, ps, rows, o, p, sx, rs, rfl, _⟩ := h
    rfl
  obtain ⟨g, z, os, ps, rows, o, p, sx, rs, rfl, G, V0, hn1, h40, q⟩ := h
  have nd := sc__law_walk.nd
  refine ⟨_, pss_cons (ps_set (i := 2) nd rfl (.inr rfl) (pe_callB call_len_seq (by rfl) M.len PySem.boot_len (pa_cons (pe_ix ix_list (pv 0) pe_int (fun _ _ => rfl)) pa_nil)))
    (pss_cons (ps_set (i := 3) nd rfl (.inl rfl) (pe_call G_law_digits.ok (hr.mono (by decide)) (by rfl) G_law_digits.m G_law_digits.kp G_law_digits.b .nil pass0 (pa_cons (pv 1) (pa_cons (pe_lc (own := [("k", 8)]) (g := gName 8) (tt := tYes) rfl nd (pi_range1 rfl M.range (pa_cons (pe_op op_add (pv 2) pe_int) pa_nil)) (blkOk_by (N := n__law_walk) (sc := defScope s__law_walk) (by decide +kernel)) (fun _ _ _ _ _ => pg_name (i := 8) nd rfl (Or.inl rfl)) (fun _ _ _ _ _ => pts_nil) (fun _ _ _ _ _ => (pv 2))) pa_nil))))
    (pss_cons (ps_set (i := 4) nd rfl (.inl rfl) (pe_lst pa_nil))
    (pss_cons (ps_set (i := 5) nd rfl (.inl rfl) (pe_ix ix_list (pv 3) (pv 2) (fun _ _ => rfl)))
    (pss_cons (ps_for PassesOwn.never rfl (pi_range1 rfl M.range (pa_cons (pe_op op_add (pv 2) pe_int) pa_nil)) (pg_name (i := 6) nd rfl (.inl rfl)) (pss_cons (ps_if (pt_cmpR op_in_seq (pv 5) (pv 4) rfl) (pss_one ps_break) pss_nil)
      (pss_cons (ps_expr (pe_bm PySem.F.plainAttrs_list PySem.F.slot_list_append PySem.F.type_list_append mt_append (pv 4) (pa_cons (pv 5) pa_nil)))
      (pss_one (ps_set (i := 5) nd rfl (.inl rfl) (pe_ix ix_list (pe_ix ix_list (pe_ix ix_list (pv 0) pe_int (fun _ _ => rfl)) (pv 5) (fun _ _ => rfl)) (pe_op op_mod (pe_callTy call_int1 (by rfl) M.int PyProof.Rows.boot_int (pa_cons (pe_ix ix_list (pv 3) (pv 6) (fun _ _ => rfl)) pa_nil)) (pe_callB call_len_seq (by rfl) M.len PySem.boot_len (pa_cons (pe_ix ix_list (pe_ix ix_list (pv 0) pe_int (fun _ _ => rfl)) (pv 5) (fun _ _ => rfl)) pa_nil))) (fun _ _ => rfl)))))))
    (pss_cons (ps_set (i := 7) nd rfl (.inl rfl) (pe_bm PySem.F.plainAttrs_list PySem.F.slot_list_index PySem.F.type_list_index mt_index (pv 4) (pa_cons (pv 5) pa_nil)))
    (pss_one (ps_ret (pe_lst (pa_cons (pe_slice sl_list (pv 4) po_none (po_some (pv 7))) (pa_cons (pe_slice sl_list (pv 4) (po_some (pv 7)) po_none) pa_nil)))))))))), ?_⟩
  have hrl : rows.length = os.length := V0.l2
  refine ⟨_, rfl, g, _, 0, .ref o, rfl, rfl, SqL.of G.g0, rfl, o, _, rfl, .inl (SqL.of G.o0), ?_⟩
  rw [List.length_map]
  generalize hn : os.length = n at *
  refine ⟨_, rfl, _, rfl, _, _, rfl, rfl, _, rfl, by omega, by omega, fun D1 hD1 => ?_⟩
  rw [show ((n : Int) + 1).toNat = n + 1 by omega]
  refine lc_mapR (n := n + 1) (fun _ => .int (n : Int)) (by omega) hD1 (fun j H' k' nn hj sm h => ⟨rfl, tYI ⟨_, rfl, h⟩⟩) (fun H4 s4 eD1 => ?_)
  rw [const_range] at eD1
  refine ⟨z, D1, List.replicate (n + 1) (n : Int), rfl, SqL.of (by rw [rep_map]; exact eD1), by rw [List.length_replicate]; omega, fun s hs => by rw [List.eq_of_mem_replicate hs]; omega, fun p5 ds H5 s5 hp5 ep5 hd5 => ?_⟩
  have lds : ds.length = n + 1 := (Dg.len hd5).trans List.length_replicate
  have dsb : ∀ x ∈ ds, 0 ≤ x ∧ x < (n : Int) := Dg.all hd5 (m := (n : Int)) (fun s hs => by rw [List.eq_of_mem_replicate hs]; exact Int.le_refl _)
  have s45 := s4.trans s5
  have at5 : ∀ {j : Nat}, j < n + 1 → atI (ds.map V.int) (j : Int) = some (.int (ds.getD j 0)) := fun {j} hj => atI_nat (at_map (gd_at (by omega)))
  refine ⟨Nat.zero_le _, fun so hso => ?_⟩
  have s6 := same_new hso (.lst [])
  refine ⟨_, rfl, _, rfl, p5, _, _, _, rfl, rfl, SqL.of (s6 _ _ ep5), at5 (Nat.lt_succ_self n), ?_⟩
  refine ⟨_, rfl, _, _, rfl, rfl, _, rfl, by omega, by omega, ?_⟩
  rw [show ((n : Int) + 1).toNat = n + 1 by omega]
  refine for_range (n := n + 1) (fun i σ H' => Same H5 H' ∧ ∃ (st : List Int) (z' : Int) (y6 : Option V), H' so = some (.lst (st.map V.int)) ∧ Wk n rows (st ++ [z']) ∧ st.Nodup ∧ st.length = i ∧ σ = [some (.ref g), some (.int z), some (.int (n : Int)), some (.ref p5), some (.ref so), some (.int z'), y6, Option.none, Option.none])
    ⟨s6, [], _, Option.none, upd_same, wk_one (dsb _ (List.mem_of_getElem? (gd_at (d := (0 : Int)) (show n < ds.length by omega)))), List.nodup_nil, rfl, rfl⟩ ?_ ?_
  · rintro i σ H6 hi ⟨sm, st, z', y6, eo, wk, nds, hlen, rfl⟩
    refine ⟨_, rfl, _, rfl, so, _, rfl, .inl (SqL.of eo), rfl, flat_int _, _, rfl, ?_⟩
    rw [inV_int]
    have bz := wk.1 z' (List.mem_append_right _ List.mem_cons_self)
    by_cases hmem : z' ∈ st
    · rw [decide_eq_true hmem]
      refine iteT ?_
      cases hpos : posF 0 st z' with
      | none => exact absurd hmem (posF_none hpos)
      | some j =>
        obtain ⟨_, a1, a2⟩ := posF_at hpos
        rw [Nat.sub_zero] at a1 a2
        refine ⟨_, rfl, .inl ⟨rfl, _, SqL.of eo⟩, _, rfl, so, _, _, j, .int z', rfl, rfl, SqL.of eo, rfl, flat_int _, at_map a1, ?_, ?_, ?_⟩
        · rw [eqV_int]; exact decide_eq_true rfl
        · intro i2 z2 hi2 hz2
          obtain ⟨y, hy, rfl⟩ := map_at hz2
          rw [eqV_int]
          exact decide_eq_false (a2 i2 hi2 y hy)
        refine ⟨_, rfl, ?_⟩
        unfold tNoPart
        refine ⟨_, rfl, _, rfl, so, _, rfl, SqL.of eo, fun k1 hk1 => ?_⟩
        rw [cut_hi]
        have t1 := same_new hk1 (.lst ((st.map V.int).take j))
        refine ⟨_, rfl, _, rfl, _, rfl, so, _, rfl, SqL.of (t1 _ _ eo), fun k2 hk2 => ?_⟩
        rw [cut_lo]
        have t2 := same_new hk2 (.lst ((st.map V.int).drop j))
        refine ⟨le_line (n := 2) (by decide), fun k3 hk3 => ?_⟩
        have t3 := same_new hk3 (.lst [V.ref k1, V.ref k2])
        refine q _ k3 k1 k2 (st.take j) (st.drop j) ((((s45.trans sm).trans t1).trans t2).trans t3) upd_same ?_ ?_ (walk_cut wk a1) ?_
        · rw [List.map_take]; exact t3 _ _ (t2 _ _ upd_same)
        · rw [List.map_drop]; exact t3 _ _ upd_same
        · rw [List.length_take, List.length_drop]; omega
    · rw [decide_eq_false hmem]
      have G6 := (G.same s45).same sm
      have erw : rows[z'.toNat]? = some (rows.getD z'.toNat []) := gd_at (by omega)
      have hasc := V0.r _ (List.mem_of_getElem? erw)
      rw [hn] at hasc
      obtain ⟨r, hr', er⟩ := pr_getR G6.r0 erw
      generalize htg : rows.getD z'.toNat [] = tg at *
      have hz2 : ((z'.toNat : Nat) : Int) = z' := by omega
      refine iteF ⟨_, rfl, .inl ⟨rfl, _, SqL.of eo⟩, _, rfl, so, _, _, rfl, rfl, eo, by rw [List.length_map]; exact lt_line (by omega), ?_⟩
      have sm2 := same_upd sm hso (.lst (st.map V.int ++ [V.int z']))
      have eo2 : upd H6 so (.lst (st.map V.int ++ [V.int z'])) so = some (.lst ((st ++ [z']).map V.int)) := by rw [upd_same, List.map_append]; rfl
      have G7 := (G.same s45).same sm2
      have nr : r ≠ so := fun z => by
        obtain ⟨r2, h2, h3⟩ := pr_getR (G.same s45).r0 (by rw [htg] at *; exact erw)
        rw [hr'] at h2
        cases h2
        rw [z, hso] at h3
        exact nomatch h3
      have er7 : upd H6 so (.lst (st.map V.int ++ [V.int z'])) r = some (.lst (tg.map V.int)) := by rw [upd_ne nr]; exact er
      generalize upd H6 so (.lst (st.map V.int ++ [V.int z'])) = H7 at sm2 eo2 G7 er7 ⊢
      have tl : 0 < tg.length := List.length_pos_iff.mpr hasc.2.2.1
      have m0 := Int.emod_nonneg (ds.getD i 0) (show ((tg.length : Nat) : Int) ≠ 0 by omega)
      have m1 := Int.emod_lt_of_pos (ds.getD i 0) (show (0 : Int) < ((tg.length : Nat) : Int) by omega)
      obtain ⟨t, et, tm⟩ := at_int (xs := tg) m0 m1
      have ata : atI (rs.map V.ref) z' = some (.ref r) := by rw [← hz2]; exact atI_nat (at_map hr')
      refine ⟨_, rfl, g, _, 2, .ref sx, rfl, rfl, SqL.of G7.g0, rfl, _, rfl, sx, _, _, .ref r, rfl, rfl, SqL.of G7.s0, ata, _, rfl, _, rfl, p5, _, _, .int (ds.getD i 0), rfl, rfl, SqL.of (sm2 _ _ ep5), (by rw [show ((0 : Int) + (i : Int)) = ((i : Nat) : Int) by omega]; exact at5 hi), .inl ⟨_, rfl, _, rfl, g, _, 2, .ref sx, rfl, rfl, SqL.of G7.g0, rfl, _, rfl, sx, _, _, .ref r, rfl, rfl, SqL.of G7.s0, ata, r, _, rfl, .inl (SqL.of er7), _, _, rfl, rfl, ?_, r, _, _, _, rfl, rfl, SqL.of er7, (by rw [List.length_map]; exact et), ?_⟩⟩
      · rw [List.length_map]; show (0 : Int) < _; omega
      · refine ⟨sm2, st ++ [z'], t, _, eo2, wk_snoc wk (hasc.2.1 t tm) (by rw [htg]; exact tm), List.nodup_append.mpr ⟨nds, List.nodup_cons.mpr ⟨List.not_mem_nil, List.nodup_nil⟩, fun a ha b hb => ?_⟩, by rw [List.length_append, hlen]; rfl, rfl⟩
        rw [List.mem_singleton.mp hb]
        exact fun e => hmem (e ▸ ha)
  · rintro σ H6 ⟨sm, st, z', y6, eo, wk, nds, hlen, rfl⟩
    obtain ⟨i, j, h1, h2, h3⟩ := wk_meet (n := n) (st := st) (fun x hx => wk.1 x (List.mem_append_left _ hx)) (by omega)
    have hi : i < st.length := by omega
    rw [List.getD_eq_getElem?_getD, List.getD_eq_getElem?_getD, List.getElem?_eq_getElem hi, List.getElem?_eq_getElem h2] at h3
    exact absurd h3 ((List.pairwise_iff_getElem.mp nds) i j hi h2 h1)
end
end GM
set_option Elab.async false
set_option linter.all false
set_option maxRecDepth 100000
set_option maxHeartbeats 4000000
set_option pp.maxSteps 150
set_option pp.deepTerms false
namespace GM
open PySem PySem.Spec PyProof.Rows L2
/-! ### _law_right -/
structure Errs (K : PySem.W.Frag) (mg : Str → Option Value) (Cd : Addr) where
  cT : Addr
  cV : Addr
  cN : Addr
  cP : Addr
  cL : Addr
  gT : mg "TreesError" = some (.ref cT)
  gV : mg "BadVertex" = some (.ref cV)
  gN : mg "NotAPlay" = some (.ref cN)
  gP : mg "PlanGap" = some (.ref cP)
  gL : mg "BadLine" = some (.ref cL)
  zV : mg "ValueError" = Option.none
  eT : PySem.W.exmOne K (.ref Cd) (.ref cT) = some true
  eD : PySem.W.exmOne K (.ref Cd) (.ref Cd) = some true
  kD : PySem.W.kitOne K (.ref Cd) (.ref Cd) = some true
  kT : PySem.W.kitOne K (.ref Cd) (.ref cT) = some true
  kE : PySem.W.kitOne K (.ref Cd) (.type "ValueError") = some true
  kV : PySem.W.kitOne K (.ref Cd) (.ref cV) = some false
  kN : PySem.W.kitOne K (.ref Cd) (.ref cN) = some false
  kP : PySem.W.kitOne K (.ref Cd) (.ref cP) = some false
  kL : PySem.W.kitOne K (.ref Cd) (.ref cL) = some false
theorem valid_pick {os ps cs : List Int} {rows : List (List Int)} (V0 : Valid os ps rows) (hasc : cs.Pairwise (· < ·)) (hin : ∀ x ∈ cs, 0 ≤ x ∧ x < (os.length : Int)) (hl : cs.length ≤ 60) (hd : deadF rows cs = none) : Valid (cs.map fun v => os.getD v.toNat 0) (cs.map fun v => ps.getD v.toNat 0) (cs.map (rowR rows cs)) := by
  have hrl : rows.length = os.length := V0.l2
  refine ⟨by rw [List.length_map, List.length_map], by rw [List.length_map, List.length_map], by rw [List.length_map]; omega, fun x hx => ?_, fun x hx => ?_, fun x hx => ?_⟩
  · obtain ⟨v, hv, rfl⟩ := List.mem_map.mp hx
    have hb := hin v hv
    exact V0.o _ (List.mem_of_getElem? (gd_at (d := (0 : Int)) (show v.toNat < os.length by omega)))
  · obtain ⟨v, hv, rfl⟩ := List.mem_map.mp hx
    have hb := hin v hv
    exact V0.p _ (List.mem_of_getElem? (gd_at (d := (0 : Int)) (show v.toNat < ps.length by rw [V0.l1]; omega)))
  · obtain ⟨v, hv, rfl⟩ := List.mem_map.mp hx
    have hb := hin v hv
    rw [List.length_map]
    refine rowR_asc hasc (by omega) (V0.r _ (List.mem_of_getElem? (gd_at (d := ([] : List Int)) (show v.toNat < rows.length by omega)))) fun z => ?_
    have := List.find?_eq_none.mp hd v hv
    rw [z] at this
    exact this rfl
theorem game_upd {C : Addr} {H : Hp} {p : Addr} {os ps : List Int} {rows : List (List Int)} {dx a b c : Addr} {ts : List Addr} {m : Int} {u : Addr} {xs ys : List V} (g : GameAt C H p os ps rows dx a b c ts m) (hu : H u = some (.lst xs)) : GameAt C (upd H u (.lst ys)) p os ps rows dx a b c ts m :=
  ⟨by rw [upd_ne (ne_of g.ob hu (fun z => nomatch z))]; exact g.ob, by rw [upd_ne (ne_of g.oa hu (fun z => nomatch z))]; exact g.oa, by rw [upd_ne (ne_of g.ob2 hu (fun z => nomatch z))]; exact g.ob2, by rw [upd_ne (ne_of g.oc hu (fun z => nomatch z))]; exact g.oc, L2.Paired.mapP g.or fun t xs e => by rw [upd_ne (ne_of e hu (fun z => nomatch z))]; exact e, g.top⟩
/-- a method of the class Game -/
structure KM (P : Program) (w : World) (K : PySem.W.Frag) (mg : Str → Option Value) (base : Heap) (C : Addr) (k : Nat) (m : Str) (ps : List Str) (CX : CXT) (sp : Sp) where
  f : Addr
  fd : FuncData
  ok : FnOk P w K mg base CX k f fd ps sp
  b : Binds K fd ps []
  mt : Meth K C m f
def spRight (C : Addr) : Sp := fun vs H Q _ => ∃ (md ca du : Addr) (sh : Int) (cs : List Int) (os ps : List Int) (rows : List (List Int)) (dx a b c : Addr) (ts : List Addr) (m : Int), vs = [.ref md, .ref ca, .ref du, .int sh] ∧ GameAt C H md os ps rows dx a b c ts m ∧ Valid os ps rows ∧ os.length ≤ 60 ∧
  H ca = some (.lst (cs.map V.int)) ∧ cs.Pairwise (· < ·) ∧ (∀ x ∈ cs, 0 ≤ x ∧ x < (os.length : Int)) ∧ cs.length ≤ 60 ∧ 0 ≤ sh ∧
  ((∃ v, deadF rows cs = some v ∧ H du = some (.lst [.int v])) ∨ (deadF rows cs = none ∧ ∃ o p s rs, GraphAt H du (cs.map fun v => os.getD v.toNat 0) (cs.map fun v => ps.getD v.toNat 0) (cs.map (rowR rows cs)) o p s rs)) ∧
  ∀ H', Same H H' → Q (.bl true) H'
section
variable {P : Program} {w : World} {K : PySem.W.Frag} {mg : Str → Option Value} {base : Heap} {C Cd fId : Addr} (M : Blt mg) (T : GTxt K mg C) (TN : PySem.DeadEndX.Txt K mg Cd fId)
include M T TN
theorem ok_right {f : Addr} {fd : FuncData} (F : Fun K "_law_right" "_law_right" s__law_right f fd) (ER : Errs K mg Cd) (GG : KG P w K mg base C) (Gr : KM P w K mg base C 6 "restricted" ["self", "vertices"] (L2N.CX P w) (spRestr C Cd)) (Ge : KM P w K mg base C 1 "__eq__" ["self", "other"] CX0 (spEqG C))
    (G_law_reads : Kn P w K mg base 6 "_law_reads" ["made", "game"] (spReads C)) (Gwh : KnH P w K mg base 1 "_law_whole" ["value"] spWholeH) : FnOk P w K mg base CX0 7 f fd ["made", "chosen", "due", "shape"] (spRight C) := by
  refine F.ok sc__law_right (fun vs H Q E h => ?_) (fun cdv A outer s H vs Q E hr h => ?_)
  · obtain ⟨md, ca, du, sh, cs, os, ps, rows, dx, a, b, c, ts, m, rfl, _⟩ := h
    rfl
  obtain ⟨md, ca, du, sh, cs, os, ps, rows, dx, a, b, c, ts, m, rfl, G, V0, h60, ec, hasc, hin, hl, hsh, hdue, q⟩ := h
  have hu := hr.units
  have hu0 : (A.deeper (envOfC "_law_right" (defScope s__law_right) s.heap.objs.size f cdv)).units < cLine := by omega
  have nd := sc__law_right.nd
  refine ⟨_, pss_cons (ps_set (i := 4) nd rfl (.inl rfl) (pe_ix ix_list (pe_lst (pa_cons (pe_callTy call_list_of (by rfl) M.list PyProof.Rows.boot_list (pa_cons (pv 1) pa_nil)) (pa_cons (pe_tupleOf (by rfl) M.tuple (pv 1)) pa_nil))) (pe_op op_mod (pe_callTy call_int1 (by rfl) M.int PyProof.Rows.boot_int (pa_cons (pv 3) pa_nil)) pe_int) (fun _ _ => rfl)))
    (pss_cons (ps_set (i := 5) nd rfl (.inl rfl) pe_bl)
    (C8.pss_cut (L2N.ps_try_as (i := 7) rfl rfl nd rfl rfl ⟨rfl, by decide, .inl ER.gT⟩ takes0N (fun W pn xe tk _ => (pss_one (ps_expr (pe_methE (pv 0) T.cl Gr.mt Gr.ok (hr.mono (by decide)) Gr.b (fun σ => L2N.passAt tk σ) (pa_cons (pv 4) pa_nil)))))
    (fun a oe cls d pn hz hf => (pss_one (ps_set (i := 5) nd rfl (.inl rfl) (pe_callB (call_isDeadEnd TN hz.zc hf) (by rfl) M.isinstance boot_isinstance (pa_cons (pv 7) (pa_cons (pe_glob (v := .ref Cd) (by rfl) TN.gC rfl) pa_nil)))))))
    (pss_cons (ps_if (pt_cmpR op_ne (pv 5) (pe_cmpR op_eq (pe_callB call_len_seq (by rfl) M.len PySem.boot_len (pa_cons (pv 2) pa_nil)) pe_int (nomark _)) (nomark _)) (pss_one (ps_ret pe_bl)) pss_nil)
    (C8.pss_cut (L2N.ps_try_as (i := 7) rfl rfl nd rfl rfl ⟨rfl, by decide, .inl TN.gC⟩ takes0N (fun W pn xe tk _ => (pss_one (ps_set (i := 6) nd rfl (.inl rfl) (pe_methE (pv 0) T.cl Gr.mt Gr.ok (hr.mono (by decide)) Gr.b (fun σ => L2N.passAt tk σ) (pa_cons (pv 4) pa_nil)))))
    (fun a oe cls d pn hz hf => (pss_cons (ps_if (PW.pt (pw_or (pt_val (pe_callB (call_isDeadEnd TN hz.zc hf) (by rfl) M.isinstance boot_isinstance (pa_cons (pv 7) (pa_cons (pe_glob (v := .ref ER.cV) (by rfl) ER.gV rfl) pa_nil)))) (pw_or (pt_val (pe_callB (call_isDeadEnd TN hz.zc hf) (by rfl) M.isinstance boot_isinstance (pa_cons (pv 7) (pa_cons (pe_glob (v := .ref ER.cN) (by rfl) ER.gN rfl) pa_nil)))) (pw_or (pt_val (pe_callB (call_isDeadEnd TN hz.zc hf) (by rfl) M.isinstance boot_isinstance (pa_cons (pv 7) (pa_cons (pe_glob (v := .ref ER.cP) (by rfl) ER.gP rfl) pa_nil)))) (pw_or1 (pt_val (pe_callB (call_isDeadEnd TN hz.zc hf) (by rfl) M.isinstance boot_isinstance (pa_cons (pv 7) (pa_cons (pe_glob (v := .ref ER.cL) (by rfl) ER.gL rfl) pa_nil))))))))) (pss_one (ps_ret pe_bl)) pss_nil)
      (pss_cons (ps_if (PW.pt (pw_or (pt_not (pt_val (pe_callB (call_isDeadEnd TN hz.zc hf) (by rfl) M.isinstance boot_isinstance (pa_cons (pv 7) (pa_cons (pe_glob (v := .ref ER.cT) (by rfl) ER.gT rfl) pa_nil))))) (pw_or (pt_not (pt_val (pe_callB (call_isDeadEnd TN hz.zc hf) (by rfl) M.isinstance boot_isinstance (pa_cons (pv 7) (pa_cons (pe_bltn (v := .ty "ValueError") (by rfl) ER.zV (by decide +kernel) rfl) pa_nil))))) (pw_or1 (pt_cmpR (show OpR _ _ (rNeD K) from op_neD hu) (pe_callTy (show CallR _ (.type "list") (rLst K) from call_list_of) (by rfl) M.list PyProof.Rows.boot_list (pa_cons (pv 4) pa_nil)) (pv 1) (nomark _)))))) (pss_one (ps_ret pe_bl)) pss_nil)
      (pss_one (ps_ret (pe_and (pe_cmpR op_eq (pe_callB (show CallR _ (.builtin "len") (rLen1 K) from call_len_seq) (by rfl) M.len PySem.boot_len (pa_cons (pv 2) pa_nil)) pe_int (nomark _)) (pe_and (L2H.pe_callH Gwh.ok (L2H.roomH_mark (hr.mono (by decide)) _) (hot_suite hz hf) (by rfl) Gwh.m Gwh.kp Gwh.b (fun _ => passAt0) (pa_cons (pe_byDeadEnd TN hz.zc hf (pv 7)) pa_nil)) (pe_one (pe_cmpR op_eq (pe_byDeadEnd TN hz.zc hf (pv 7)) (pe_ix (show IxR _ (rIxL K) from ix_list) (pv 2) pe_int (fun _ _ => rfl)) (nomark _)))))))))))
    (pss_cons (ps_if (PW.pt (pw_or (pt_cmpR op_ne (pe_callB call_len_seq (by rfl) M.len PySem.boot_len (pa_cons (pv 2) pa_nil)) pe_int (nomark _)) (pw_or1 (pt_cmpR (op_neD hu) (pe_callTy call_list_of (by rfl) M.list PyProof.Rows.boot_list (pa_cons (pv 4) pa_nil)) (pv 1) (nomark _))))) (pss_one (ps_ret pe_bl)) pss_nil)
    (C8.pss_cut (ps_if (pt_cmpR op_eq (pe_op op_mod (pe_callTy call_int1 (by rfl) M.int PyProof.Rows.boot_int (pa_cons (pv 3) pa_nil)) pe_int) pe_int (nomark _)) (pss_one (ps_expr (pe_bm PySem.F.plainAttrs_list PySem.F.slot_list_append PySem.F.type_list_append mt_append (pv 4) (pa_cons pe_int pa_nil)))) pss_nil)
    (pss_one (ps_ret (pe_and (pe_call G_law_reads.ok (hr.mono (by decide)) (by rfl) G_law_reads.m G_law_reads.kp G_law_reads.b .nil pass0 (pa_cons (pv 6) (pa_cons (pv 2) pa_nil))) (pe_one (pe_cmpR op_isBl (pe_cmpR (op_eqOwn Ge.ok Ge.mt.at_ Ge.mt.fn Ge.b pass0 (hr.mono (by decide)) hu0) (pv 6) (pe_make GG.cm GG.ok (hr.mono (by decide)) (by rfl) T.mgC GG.b .nil pass0 (pa_cons (pe_ix ix_list (pv 2) pe_int (fun _ _ => rfl)) (pa_cons (pe_ix ix_list (pv 2) pe_int (fun _ _ => rfl)) (pa_cons (pe_ix ix_list (pv 2) pe_int (fun _ _ => rfl)) pa_nil)))) (nomark _)) pe_bl (nomark _)))))))))))), ?_⟩
  have fno : (flds a b c m).lookup ("restricted" : Str) = Option.none := fld_no a b c m (by decide) (by decide) (by decide) (by decide) (by decide) (by decide)
  refine ⟨_, rfl, ca, _, rfl, .inl (SqL.of ec), fun m1 hm1 => ?_⟩
  have t1 := same_new hm1 (.lst (cs.map V.int))
  refine ⟨_, rfl, .inl ⟨ca, _, rfl, SqL.of (t1 _ _ ec), fun m2 hm2 => ⟨le_line (n := 2) (by decide), fun m3 hm3 => ?_⟩⟩⟩
  have t2 := same_new hm2 (.tup (cs.map V.int))
  have t3 := same_new hm3 (.lst [.ref m1, .ref m2])
  have em1 := t3 _ _ (t2 _ _ (upd_same (H := H) (a := m1) (o := .lst (cs.map V.int))))
  have em2 := t3 _ _ (upd_same (H := upd H m1 (.lst (cs.map V.int))) (a := m2) (o := .tup (cs.map V.int)))
  have em3 : upd (upd (upd H m1 (.lst (cs.map V.int))) m2 (.tup (cs.map V.int))) m3 (.lst [.ref m1, .ref m2]) m3 = some (.lst [.ref m1, .ref m2]) := upd_same
  have s3 := (t1.trans t2).trans t3
  have hm2' := t1.free hm2
  generalize upd (upd (upd H m1 (.lst (cs.map V.int))) m2 (.tup (cs.map V.int))) m3 (.lst [.ref m1, .ref m2]) = H3 at em1 em2 em3 s3 ⊢
  clear t1 t2 t3
  have hs0 := Int.emod_nonneg sh (show (2 : Int) ≠ 0 by decide)
  have hs1 := Int.emod_lt_of_pos sh (show (0 : Int) < 2 by decide)
  obtain ⟨u, ea, su, slu, hun⟩ : ∃ u : Addr, atI [V.ref m1, V.ref m2] (sh % 2) = some (.ref u) ∧ SqV H3 u (cs.map V.int) ∧ (sh % 2 = 0 → H3 u = some (.lst (cs.map V.int))) ∧ H u = Option.none := by
    rcases (show sh % 2 = 0 ∨ sh % 2 = 1 by omega) with h | h
    · rw [h]; exact ⟨m1, rfl, .inl em1, fun _ => em1, hm1⟩
    · rw [h]; exact ⟨m2, rfl, .inr em2, fun z => absurd z (by decide), hm2'⟩
  refine ⟨_, rfl, .inl ⟨_, rfl, _, _, rfl, rfl, (by show (0 : Int) < 2; decide), m3, _, _, _, rfl, rfl, SqL.of em3, ea, ?_⟩⟩
  have G3 := G.same s3
  have ec3 := s3 _ _ ec
  have same_ls : ∀ {Hx : Hp} {kk : Addr}, Hx ca = some (.lst (cs.map V.int)) → Hx kk = some (.lst (cs.map V.int)) → ∀ (Q' : VK), Q' (.bl false) Hx → rNeD K (.ref kk) (.ref ca) Hx Q' := by
    intro Hx kk h1 h2 Q' hq
    refine ⟨.list (cs.map PyData.int), .list (cs.map PyData.int), .lst (SqL.of h2) (dp_ints _), .lst (SqL.of h1) (dp_ints _), shape_ints cs, shape_ints cs, ?_⟩
    rw [eqv_lst]
    exact hq
  rcases hdue with ⟨v, hv, edu⟩ | ⟨hn, o, p, s', rs, GR⟩
  · -- a dead end
    have edu3 := s3 _ _ edu
    have e1 : decide (V.int (([V.int v].length : Nat) : Int) = V.int 1) = true := decide_eq_true rfl
    refine ⟨fun σ H' => Same H3 H' ∧ σ = [some (.ref md), some (.ref ca), some (.ref du), some (.int sh), some (.ref u), some (.bl true), Option.none, Option.none], ?_, ?_⟩
    · refine ⟨_, rfl, md, dx, _, rfl, G3.ob, fno, _, rfl, md, u, cs, os, ps, rows, dx, a, b, c, ts, m, rfl, G3, V0, h60, su, hasc, hin, hl, fun w1 ew d H9 s9 e9 => ?_, fun edn => ?_⟩
      · refine ⟨true, ER.eT, fun _ e0 he0 => ?_, fun z => nomatch z⟩
        exact ⟨_, rfl, _, .ref Cd, true, d, _, rfl, rfl, rfl, e9, fun u hu => hu, ER.kD, s9, rfl⟩
      · rw [hv] at edn; exact nomatch edn
    rintro σ H9 ⟨s9, rfl⟩
    have edu9 := s9 _ _ edu3
    refine ⟨_, rfl, _, rfl, du, _, rfl, .inl (SqL.of edu9), rfl, rfl, _, rfl, ?_⟩
    rw [e1, decide_eq_true rfl]
    refine iteF ?_
    refine ⟨fun _ _ => False, ?_, fun σ H' h => h.elim⟩
    refine ⟨_, rfl, md, dx, _, rfl, (G3.same s9).ob, fno, _, rfl, md, u, cs, os, ps, rows, dx, a, b, c, ts, m, rfl, G3.same s9, V0, h60, su.same s9, hasc, hin, hl, fun w1 ew d H10 s10 ed => ?_, fun edn => ?_⟩
    · rw [hv] at ew
      cases ew
      refine ⟨true, ER.eD, fun _ e0 he0 => ?_, fun z => nomatch z⟩
      refine ⟨_, rfl, _, .ref ER.cV, false, d, _, rfl, rfl, rfl, ed, fun u hu => hu, ER.kV, _, rfl, iteF ?_⟩
      refine ⟨_, rfl, _, .ref ER.cN, false, d, _, rfl, rfl, rfl, ed, fun u hu => hu, ER.kN, _, rfl, iteF ?_⟩
      refine ⟨_, rfl, _, .ref ER.cP, false, d, _, rfl, rfl, rfl, ed, fun u hu => hu, ER.kP, _, rfl, iteF ?_⟩
      refine ⟨_, rfl, _, .ref ER.cL, false, d, _, rfl, rfl, rfl, ed, fun u hu => hu, ER.kL, _, rfl, iteF ?_⟩
      refine ⟨_, rfl, _, .ref ER.cT, true, d, _, rfl, rfl, rfl, ed, fun u hu => hu, ER.kT, _, rfl, iteF ?_⟩
      refine ⟨_, rfl, _, .type "ValueError", true, d, _, rfl, rfl, rfl, ed, fun u hu => hu, ER.kE, _, rfl, iteF ?_⟩
      have m10 := s9.trans s10
      have su10 := su.same m10
      refine ⟨_, rfl, u, _, rfl, su10.imp SqL.of sqT, fun kk hkk => ⟨_, rfl, ?_⟩⟩
      have t5 := same_new hkk (.lst (cs.map V.int))
      refine same_ls (t5 _ _ (m10 _ _ ec3)) upd_same _ ⟨_, rfl, iteF ?_⟩
      have ed5 := t5 _ _ ed
      have edu5 := t5 _ _ (m10 _ _ edu3)
      refine ⟨_, rfl, du, _, rfl, .inl (SqL.of edu5), rfl, _, rfl, ?_⟩
      rw [e1]
      refine iteT ⟨_, rfl, rfl, rfl, d, _, rfl, ed5, v, rfl, _, rfl, iteT ?_⟩
      refine ⟨_, rfl, rfl, rfl, d, _, rfl, ed5, _, rfl, du, _, 0, .int v, rfl, rfl, SqL.of edu5, rfl, rfl, ?_⟩
      rw [decide_eq_true rfl]
      exact q _ ((s3.trans m10).trans t5)
    · rw [hv] at edn; exact nomatch edn
  · -- a part
    have e3 : decide (V.int (([V.ref o, V.ref p, V.ref s'].length : Nat) : Int) = V.int 1) = false := rfl
    have e3' : decide (V.int (([V.ref o, V.ref p, V.ref s'].length : Nat) : Int) = V.int 3) = true := rfl
    have GR3 := GR.same s3
    have VV := valid_pick V0 hasc hin hl hn
    refine ⟨fun σ H' => Same H3 H' ∧ σ = [some (.ref md), some (.ref ca), some (.ref du), some (.int sh), some (.ref u), some (.bl false), Option.none, Option.none], ?_, ?_⟩
    · refine ⟨_, rfl, md, dx, _, rfl, G3.ob, fno, _, rfl, md, u, cs, os, ps, rows, dx, a, b, c, ts, m, rfl, G3, V0, h60, su, hasc, hin, hl, fun w1 ew d H9 s9 e9 => ?_, fun edn H9 r dy ya yb yc yts ym s9 g9 => ?_⟩
      · rw [hn] at ew; exact nomatch ew
      · exact ⟨s9, rfl⟩
    rintro σ H9 ⟨s9, rfl⟩
    have GR9 := GR3.same s9
    refine ⟨_, rfl, _, rfl, du, _, rfl, .inl (SqL.of GR9.g0), rfl, rfl, _, rfl, ?_⟩
    rw [e3, decide_eq_true rfl]
    refine iteF ?_
    refine ⟨fun σ H' => Same H9 H' ∧ ∃ (r dy ya yb yc : Addr) (yts : List Addr) (ym : Int), GameAt C H' r (cs.map fun v => os.getD v.toNat 0) (cs.map fun v => ps.getD v.toNat 0) (cs.map (rowR rows cs)) dy ya yb yc yts ym ∧ σ = [some (.ref md), some (.ref ca), some (.ref du), some (.int sh), some (.ref u), some (.bl false), some (.ref r), Option.none], ?_, ?_⟩
    · refine ⟨_, rfl, md, dx, _, rfl, (G3.same s9).ob, fno, _, rfl, md, u, cs, os, ps, rows, dx, a, b, c, ts, m, rfl, G3.same s9, V0, h60, su.same s9, hasc, hin, hl, fun w1 ew d H10 s10 ed => ?_, fun edn H10 r dy ya yb yc yts ym s10 g10 => ?_⟩
      · rw [hn] at ew; exact nomatch ew
      · exact ⟨s10, r, dy, ya, yb, yc, yts, ym, g10, rfl⟩
    rintro σ H10 ⟨s10, r, dy, ya, yb, yc, yts, ym, g10, rfl⟩
    have m10 := s9.trans s10
    have GR10 := GR3.same m10
    have su10 := su.same m10
    refine ⟨_, rfl, du, _, rfl, .inl (SqL.of GR10.g0), rfl, _, rfl, ?_⟩
    rw [e3']
    refine iteF ⟨_, rfl, u, _, rfl, su10.imp SqL.of sqT, fun kk hkk => ⟨_, rfl, ?_⟩⟩
    have t5 := same_new hkk (.lst (cs.map V.int))
    refine same_ls (t5 _ _ (m10 _ _ ec3)) upd_same _ ⟨_, rfl, iteF ?_⟩
    have m11 := m10.trans t5
    have g11 := g10.same t5
    generalize upd H10 kk (.lst (cs.map V.int)) = H11 at m11 g11 ⊢
    have m011 := s3.trans m11
    refine ⟨fun σ H' => Same H H' ∧ GameAt C H' r (cs.map fun v => os.getD v.toNat 0) (cs.map fun v => ps.getD v.toNat 0) (cs.map (rowR rows cs)) dy ya yb yc yts ym ∧ σ = [some (.ref md), some (.ref ca), some (.ref du), some (.int sh), some (.ref u), some (.bl false), some (.ref r), Option.none], ?_, ?_⟩
    · refine ⟨_, rfl, .inl ⟨_, rfl, _, _, rfl, rfl, (by show (0 : Int) < 2; decide), rfl, _, rfl, ite2 (fun c1 => ?_) (fun c1 => ?_)⟩⟩
      · rw [dInt] at c1
        have eu := m11 _ _ (slu (of_decide_eq_true c1))
        exact ⟨_, rfl, .inl ⟨rfl, _, SqL.of eu⟩, u, _, _, rfl, rfl, eu, by rw [List.length_map]; exact lt_line (by omega), same_upd m011 hun _, game_upd g11 eu, rfl⟩
      · exact ⟨m011, g11, rfl⟩
    rintro σ H12 ⟨m12, g12, rfl⟩
    have GR12 := GR.same m12
    refine ⟨_, rfl, _, rfl, r, du, _, _, _, dy, ya, yb, yc, yts, ym, o, p, s', rs, rfl, g12, GR12, VV, by rw [List.length_map]; exact hl, fun H13 s13 => ⟨_, rfl, iteT ?_⟩⟩
    have GR13 := GR12.same s13
    have g13 := g12.same s13
    refine ⟨_, rfl, _, rfl, du, _, 0, .ref o, rfl, rfl, SqL.of GR13.g0, rfl, _, rfl, du, _, 1, .ref p, rfl, rfl, SqL.of GR13.g0, rfl, _, rfl, du, _, 2, .ref s', rfl, rfl, SqL.of GR13.g0, rfl, ?_⟩
    intro x dz nx ndz nez
    have mx : Same H13 (upd (upd H13 dz (.own x)) x (.ins C dz [])) := fun b' o' e => by
      rw [upd_ne (ne_of_none e nx), upd_ne (ne_of_none e ndz)]
      exact e
    refine ⟨x, dz, o, p, s', _, _, rs, _, rfl, upd_same, mx _ _ GR13.o0, mx _ _ GR13.p0, mx _ _ GR13.s0, L2.Paired.mapP GR13.r0 fun _ _ e => mx _ _ e, VV, fun H14 xa xb xc xts xm gm kp => ⟨rfl, ?_⟩⟩
    have s14 : Same H13 H14 := fun b' o' e => kp b' o' (mx _ _ e) (ne_of_none e nx)
    have g14 := g13.same s14
    refine ⟨r, x, dy, dz, _, _, rfl, rfl, g14.ob, gm.ob, r, x, _, _, _, dy, ya, yb, yc, yts, ym, _, _, _, dz, xa, xb, xc, xts, xm, rfl, g14, gm, true, .inl ⟨rfl, rfl, rfl, rfl⟩, true, rfl, true, true, rfl, rfl, ?_⟩
    rw [decide_eq_true rfl]
    exact q _ ((m12.trans s13).trans s14)
end
end GM
set_option Elab.async false
set_option linter.all false
set_option maxRecDepth 100000
set_option maxHeartbeats 4000000
set_option pp.maxSteps 150
set_option pp.deepTerms false
namespace GM
open PySem PySem.Spec PyProof.Rows L2
/-! ### law -/
theorem fault_none {n : Nat} {rows : List (List Int)} {lead ring : List Int} (h : faultO n rows lead ring = none) : ring ≠ [] ∧ ∀ z ∈ ring, 0 ≤ z ∧ z < (n : Int) := by
  unfold faultO at h
  cases hf : (List.range (stepsOf lead ring).length).find? (badAt n rows (stepsOf lead ring) (aheadOf lead ring)) with
  | some k => rw [hf] at h; exact nomatch h
  | none =>
    rw [hf] at h
    have hne : ring ≠ [] := fun z => by
      have h2 : (if ring = [] then some lead.length else none) = none := h
      rw [if_pos z] at h2
      exact nomatch h2
    refine ⟨hne, fun z hz => ?_⟩
    obtain ⟨j, hj, ej⟩ := List.getElem_of_mem hz
    have hlt : lead.length + j < (stepsOf lead ring).length := by unfold stepsOf; rw [List.length_append]; omega
    have hb := List.find?_eq_none.mp hf (lead.length + j) (List.mem_range.mpr hlt)
    have e1 : (stepsOf lead ring).getD (lead.length + j) 0 = z := by
      rw [List.getD_eq_getElem?_getD]
      unfold stepsOf
      rw [List.getElem?_append_right (by omega), Nat.add_sub_cancel_left, List.getElem?_eq_getElem hj, ej]; rfl
    have hb2 : badAt n rows (stepsOf lead ring) (aheadOf lead ring) (lead.length + j) = false := Bool.eq_false_iff.mpr hb
    unfold badAt at hb2
    rw [e1] at hb2
    have h2 := (Bool.or_eq_false_iff.mp hb2).1
    have h3 : (decide (0 ≤ z) && decide (z < (n : Int))) = true := by
      cases h4 : (decide (0 ≤ z) && decide (z < (n : Int))) with
      | true => rfl
      | false => rw [h4] at h2; exact nomatch h2
    have h5 := Bool.and_eq_true_iff.mp h3
    exact ⟨of_decide_eq_true h5.1, of_decide_eq_true h5.2⟩
theorem pickN_at {α : Type} {l : List α} (d : α) {n : Nat} (h : l.length = n) : (((List.range n).map fun i : Nat => ((i : Nat) : Int)).map fun v => l.getD v.toNat d) = l := by
  apply List.ext_getElem?
  intro i
  rw [List.map_map, List.getElem?_map]
  by_cases c : i < n
  · rw [List.getElem?_range c]
    show some (l.getD (((i : Nat) : Int).toNat) d) = l[i]?
    rw [Int.toNat_natCast]
    exact (gd_at (l := l) (d := d) (by omega)).symm
  · rw [List.getElem?_eq_none (by rw [List.length_range]; omega), List.getElem?_eq_none (by omega)]; rfl
def DueOk (H : Hp) (du : Addr) (os ps : List Int) (rows : List (List Int)) (cs : List Int) : Prop := (∃ v, deadF rows cs = some v ∧ H du = some (.lst [.int v])) ∨ (deadF rows cs = none ∧ ∃ o p s rs, GraphAt H du (cs.map fun v => os.getD v.toNat 0) (cs.map fun v => ps.getD v.toNat 0) (cs.map (rowR rows cs)) o p s rs)
theorem DueOk.same {H H' : Hp} {du : Addr} {os ps : List Int} {rows : List (List Int)} {cs : List Int} (h : DueOk H du os ps rows cs) (s : Same H H') : DueOk H' du os ps rows cs := by
  rcases h with ⟨v, h1, h2⟩ | ⟨h1, o, p, s', rs, h2⟩
  · exact .inl ⟨v, h1, s _ _ h2⟩
  · exact .inr ⟨h1, o, p, s', rs, h2.same s⟩
def spPartU : Sp := fun vs H Q _ => ∃ (g ca : Addr) (cs : List Int) (os ps : List Int) (rows : List (List Int)) (o p sx : Addr) (rs : List Addr), vs = [.ref g, .ref ca] ∧ GraphAt H g os ps rows o p sx rs ∧ Valid os ps rows ∧ os.length ≤ 60 ∧ H ca = some (.lst (cs.map V.int)) ∧ cs.Pairwise (· < ·) ∧ (∀ x ∈ cs, 0 ≤ x ∧ x < (os.length : Int)) ∧ cs.length ≤ 60 ∧
  ∀ H' r, Same H H' → DueOk H' r os ps rows cs → Q (.ref r) H'
theorem partU {vs : List V} {H : Hp} {Q : VK} {E : XK} (h : spPartU vs H Q E) : spPart vs H Q E := by
  obtain ⟨g, ca, cs, os, ps, rows, o, p, sx, rs, e, G, V0, h60, ec, k1, k2, k3, q⟩ := h
  exact ⟨g, ca, cs, os, ps, rows, o, p, sx, rs, e, G, V0, h60, ec, k1, k2, k3, fun v hv H' r s er => q H' r s (.inl ⟨v, hv, er⟩), fun hn H' r o' p' s' rs' s GD => q H' r s (.inr ⟨hn, o', p', s', rs', GD⟩)⟩
def kn_imp {P : Program} {w : World} {K : PySem.W.Frag} {mg : Str → Option Value} {base : Heap} {k : Nat} {x : Str} {ps : List Str} {sp sp' : Sp} (G : Kn P w K mg base k x ps sp) (h : ∀ {vs : List V} {H : Hp} {Q : VK} {E : XK}, sp' vs H Q E → sp vs H Q E) : Kn P w K mg base k x ps sp' :=
  ⟨G.f, G.fd, ⟨fun vs H Q E z => G.ok.len vs H Q E (h z), fun A outer s H args us vs Q E hr e0 hb r z => G.ok.run A outer s H args us vs Q E hr e0 hb r (h z)⟩, G.b, G.kp, G.m⟩
def csN (n : Nat) : List Int := (List.range n).map fun i : Nat => ((i : Nat) : Int)
theorem csN_mem {n : Nat} {u : Int} : u ∈ csN n ↔ 0 ≤ u ∧ u < (n : Int) := by
  unfold csN
  constructor
  · intro h
    obtain ⟨i, hi, rfl⟩ := List.mem_map.mp h
    have := List.mem_range.mp hi
    omega
  · rintro ⟨h1, h2⟩
    exact List.mem_map.mpr ⟨u.toNat, List.mem_range.mpr (by omega), by omega⟩
theorem csN_pos {n : Nat} {u : Int} (h : 0 ≤ u ∧ u < (n : Int)) : posF 0 (csN n) u = some u.toNat := by
  cases e : posF 0 (csN n) u with
  | none => exact absurd (csN_mem.mpr h) (posF_none e)
  | some j =>
    obtain ⟨_, a1, _⟩ := posF_at e
    rw [Nat.sub_zero] at a1
    unfold csN at a1
    rw [List.getElem?_map] at a1
    have lj := lt_of_at (show (List.range n)[j]? = some j from by
      cases e2 : (List.range n)[j]? with
      | none => rw [e2] at a1; exact nomatch a1
      | some k =>
        obtain ⟨l, e3⟩ := List.getElem?_eq_some_iff.mp e2
        rw [List.getElem_range] at e3
        rw [e3])
    rw [List.length_range] at lj
    rw [List.getElem?_range lj] at a1
    have : ((j : Nat) : Int) = u := Option.some.inj a1
    congr 1
    omega
theorem csN_row {n : Nat} {rows : List (List Int)} {v : Int} (h : ∀ u ∈ rows.getD v.toNat [], 0 ≤ u ∧ u < (n : Int)) : rowR rows (csN n) v = rows.getD v.toNat [] := by
  unfold rowR
  have key : ∀ l : List Int, (∀ u ∈ l, 0 ≤ u ∧ u < (n : Int)) → (l.filterMap fun u => (posF 0 (csN n) u).map fun k => ((k : Nat) : Int)) = l := by
    intro l
    induction l with
    | nil => intro _; rfl
    | cons a l ih =>
      intro hl
      have ha := hl a List.mem_cons_self
      have e1 : (fun u => Option.map (fun k : Nat => ((k : Nat) : Int)) (posF 0 (csN n) u)) a = some a := by
        show Option.map _ (posF 0 (csN n) a) = some a
        rw [csN_pos ha]
        show some ((a.toNat : Nat) : Int) = some a
        congr 1
        omega
      rw [List.filterMap_cons_some (f := fun u => Option.map (fun k : Nat => ((k : Nat) : Int)) (posF 0 (csN n) u)) e1, ih fun u hu => hl u (List.mem_cons_of_mem _ hu)]
  exact key _ h
theorem rgN (n : Nat) : rgV 0 (n : Int) = (csN n).map V.int := by
  unfold rgV csN
  rw [List.map_map, show ((n : Int) - 0).toNat = n by omega]
  apply List.map_congr_left
  intro i _
  show V.int (0 + (i : Int)) = V.int ((i : Nat) : Int)
  rw [Int.zero_add]
def spLaw (K : PySem.W.Frag) : Sp := fun vs H Q _ => ∃ (a : Addr) (ns : List Int), vs = [.ref a] ∧ SqL K H a (ns.map V.int) ∧ ns.length ≤ 63 ∧ ∀ H', Q (.bl true) H'
section
variable {P : Program} {w : World} {K : PySem.W.Frag} {mg : Str → Option Value} {base : Heap} {C Cd fId Cn fIn : Addr} (M : Blt mg) (T : GTxt K mg C) (TD : PySem.DeadEndX.Txt K mg Cd fId) (TN : PySem.NotAPlayX.Txt K mg Cn fIn)
include M T TD TN
theorem ok_law {f : Addr} {fd : FuncData} (F : Fun K "law" "law" s_law f fd) (GG : KG P w K mg base C) (Gr : KM P w K mg base C 6 "restricted" ["self", "vertices"] (L2N.CX P w) (spRestr C Cd)) (Ge : KM P w K mg base C 1 "__eq__" ["self", "other"] CX0 (spEqG C)) (Gt : KM P w K mg base C 6 "turned" ["self"] CX0 (spTurned C))
    (G_law_cell : Kn P w K mg base 1 "_law_cell" ["script", "k"] (spCell K)) (G_law_digits : Kn P w K mg base 1 "_law_digits" ["cell", "sizes"] (spDigits K))
    (G_law_graph : Kn P w K mg base 2 "_law_graph" ["script", "at", "count", "top"] (spGraph K)) (G_law_walk : Kn P w K mg base 2 "_law_walk" ["game", "cell"] spWalk) (G_law_chosen : Kn P w K mg base 2 "_law_chosen" ["game", "cell", "prune"] spChosen)
    (G_law_part : Kn P w K mg base 1 "_law_part" ["game", "chosen"] spPartU) (G_law_reads : Kn P w K mg base 6 "_law_reads" ["made", "game"] (spReads C)) (G_law_whole : Kn P w K mg base 1 "_law_whole" ["value"] spWhole) (Gwin : KnX P w K mg base 4 "winner_of" ["game", "lead", "ring"] (spWin C Cn))
    (G_law_right : Kn P w K mg base 7 "_law_right" ["made", "chosen", "due", "shape"] (spRight C)) : FnOk P w K mg base CX0 8 f fd ["script"] (spLaw K) := by
  refine F.ok sc_law (fun vs H Q E h => ?_) (fun cdv A outer s H vs Q E hr h => ?_)
  · obtain ⟨a, ns, rfl, _⟩ := h
    rfl
  obtain ⟨a, ns, rfl, hS, hl, q⟩ := h
  have hu := hr.units
  have hu0 : (A.deeper (envOfC "law" (defScope s_law) s.heap.objs.size f cdv)).units < cLine := by omega
  have nd := sc_law.nd
  refine ⟨_, pss_cons (ps_set (i := 1) nd rfl (.inl rfl) (pe_call G_law_digits.ok (hr.mono (by decide)) (by rfl) G_law_digits.m G_law_digits.kp G_law_digits.b .nil pass0 (pa_cons (pe_call G_law_cell.ok (hr.mono (by decide)) (by rfl) G_law_cell.m G_law_cell.kp G_law_cell.b .nil pass0 (pa_cons (pv 0) (pa_cons pe_int pa_nil))) (pa_cons (pe_lst (pa_cons pe_int (pa_cons pe_int (pa_cons pe_int (pa_cons pe_int (pa_cons pe_int (pa_cons pe_int (pa_cons pe_int (pa_cons pe_int pa_nil))))))))) pa_nil))))
    (pss_cons (ps_set (i := 2) nd rfl (.inl rfl) (pe_ix ix_list (pe_lst (pa_cons (pe_ix ix_list (pv 1) pe_int (fun _ _ => rfl)) (pa_cons (pe_op op_add pe_int (pe_ix ix_list (pv 1) pe_int (fun _ _ => rfl))) pa_nil))) (pe_ix ix_list (pv 1) pe_int (fun _ _ => rfl)) (fun _ _ => rfl)))
    (C8.pss_cut (ps_if (pt_cmpR op_eq (pe_ix ix_list (pv 1) pe_int (fun _ _ => rfl)) pe_int (nomark _)) (pss_one (ps_set (i := 2) nd rfl (.inl rfl) (pe_ix ix_list (pv 1) pe_int (fun _ _ => rfl)))) pss_nil)
    (pss_cons (ps_set (i := 3) nd rfl (.inr rfl) (pe_call G_law_graph.ok (hr.mono (by decide)) (by rfl) G_law_graph.m G_law_graph.kp G_law_graph.b .nil pass0 (pa_cons (pv 0) (pa_cons pe_int (pa_cons (pv 2) (pa_cons pe_int pa_nil))))))
    (pss_cons (ps_set (i := 4) nd rfl (.inl rfl) (pe_make GG.cm GG.ok (hr.mono (by decide)) (by rfl) T.mgC GG.b .nil pass0 (pa_cons (pe_callTy call_list_of (by rfl) M.list PyProof.Rows.boot_list (pa_cons (pe_ix ix_list (pv 3) pe_int (fun _ _ => rfl)) pa_nil)) (pa_cons (pe_callTy call_list_of (by rfl) M.list PyProof.Rows.boot_list (pa_cons (pe_ix ix_list (pv 3) pe_int (fun _ _ => rfl)) pa_nil)) (pa_cons (pe_lc (own := [("row", 16)]) (g := gName 16) (tt := tYes) rfl nd (pi_list (pe_ix ix_list (pv 3) pe_int (fun _ _ => rfl))) (blkOk_by (N := n_law) (sc := defScope s_law) (by decide +kernel)) (fun _ _ _ _ _ => pg_name (i := 16) nd rfl (Or.inl rfl)) (fun _ _ _ _ _ => pts_nil) (fun _ _ _ _ _ => (pe_callTy (show CallR _ (.type "list") (rLst K) from call_list_of) (by rfl) M.list PyProof.Rows.boot_list (pa_cons (pv 16) pa_nil)))) pa_nil)))))
    (pss_cons (ps_set (i := 5) nd rfl (.inl rfl) (pe_lst (pa_cons (pe_lc (own := [("owner", 17)]) (g := gName 17) (tt := tYes) rfl nd (pi_list (pe_ix ix_list (pv 3) pe_int (fun _ _ => rfl))) (blkOk_by (N := n_law) (sc := defScope s_law) (by decide +kernel)) (fun _ _ _ _ _ => pg_name (i := 17) nd rfl (Or.inl rfl)) (fun _ _ _ _ _ => pts_nil) (fun _ _ _ _ _ => (pe_op op_sub pe_int (pv 17)))) (pa_cons (pe_lc (own := [("level", 18)]) (g := gName 18) (tt := tYes) rfl nd (pi_list (pe_ix ix_list (pv 3) pe_int (fun _ _ => rfl))) (blkOk_by (N := n_law) (sc := defScope s_law) (by decide +kernel)) (fun _ _ _ _ _ => pg_name (i := 18) nd rfl (Or.inl rfl)) (fun _ _ _ _ _ => pts_nil) (fun _ _ _ _ _ => (pe_op op_add (pv 18) pe_int))) (pa_cons (pe_ix ix_list (pv 3) pe_int (fun _ _ => rfl)) pa_nil)))))
    (pss_cons (ps_set (i := 6) nd rfl (.inl rfl) (pe_lst (pa_cons (pe_ix ix_list (pv 3) pe_int (fun _ _ => rfl)) (pa_cons (pe_lc (own := [("level", 18)]) (g := gName 18) (tt := tYes) rfl nd (pi_list (pe_ix ix_list (pv 3) pe_int (fun _ _ => rfl))) (blkOk_by (N := n_law) (sc := defScope s_law) (by decide +kernel)) (fun _ _ _ _ _ => pg_name (i := 18) nd rfl (Or.inl rfl)) (fun _ _ _ _ _ => pts_nil) (fun _ _ _ _ _ => (pe_op op_add (pv 18) pe_int))) (pa_cons (pe_ix ix_list (pv 3) pe_int (fun _ _ => rfl)) pa_nil)))))
    (pss_cons (ps_set (i := 7) nd rfl (.inl rfl) (pe_meth0 (pv 4) T.cl Gt.mt Gt.ok (hr.mono (by decide)) Gt.b .nil pass0))
    (pss_cons (ps_if (PW.pt (pw_or (pt_not (pt_val (pe_call G_law_reads.ok (hr.mono (by decide)) (by rfl) G_law_reads.m G_law_reads.kp G_law_reads.b .nil pass0 (pa_cons (pv 7) (pa_cons (pv 5) pa_nil))))) (pw_or (pt_not (pt_val (pe_call G_law_reads.ok (hr.mono (by decide)) (by rfl) G_law_reads.m G_law_reads.kp G_law_reads.b .nil pass0 (pa_cons (pe_meth0 (pv 7) T.cl Gt.mt Gt.ok (hr.mono (by decide)) Gt.b .nil pass0) (pa_cons (pv 6) pa_nil))))) (pw_or1 (pt_not (pt_val (pe_call G_law_reads.ok (hr.mono (by decide)) (by rfl) G_law_reads.m G_law_reads.kp G_law_reads.b .nil pass0 (pa_cons (pv 4) (pa_cons (pv 3) pa_nil))))))))) (pss_one (ps_ret pe_bl)) pss_nil)
    (pss_cons (ps_if (PW.pt (pw_or (pt_cmpR op_notBl (pe_cmpR (op_eqOwn Ge.ok Ge.mt.at_ Ge.mt.fn Ge.b pass0 (hr.mono (by decide)) hu0) (pv 7) (pe_make GG.cm GG.ok (hr.mono (by decide)) (by rfl) T.mgC GG.b .nil pass0 (pa_cons (pe_ix ix_list (pv 5) pe_int (fun _ _ => rfl)) (pa_cons (pe_ix ix_list (pv 5) pe_int (fun _ _ => rfl)) (pa_cons (pe_ix ix_list (pv 5) pe_int (fun _ _ => rfl)) pa_nil)))) (nomark _)) pe_bl (nomark _)) (pw_or1 (pt_cmpR op_ne (pe_cmpR (op_eqOwn Ge.ok Ge.mt.at_ Ge.mt.fn Ge.b pass0 (hr.mono (by decide)) hu0) (pv 4) (pv 7) (nomark _)) (pe_cmpR op_eq (pv 2) pe_int (nomark _)) (nomark _))))) (pss_one (ps_ret pe_bl)) pss_nil)
    (C8.pss_cut (ps_if (pt_cmpR op_gt (pv 2) pe_int (nomark _)) (pss_cons (ps_set (i := 8) nd rfl (.inl rfl) (pe_call G_law_walk.ok (hr.mono (by decide)) (by rfl) G_law_walk.m G_law_walk.kp G_law_walk.b .nil pass0 (pa_cons (pv 3) (pa_cons (pe_call G_law_cell.ok (hr.mono (by decide)) (by rfl) G_law_cell.m G_law_cell.kp G_law_cell.b .nil pass0 (pa_cons (pv 0) (pa_cons pe_int pa_nil))) pa_nil))))
      (pss_cons (ps_set (i := 9) nd rfl (.inl rfl) (pe_op op_mod (pe_callTy call_int1 (by rfl) M.int PyProof.Rows.boot_int (pa_cons (pe_callB (cr_max rfl) (by rfl) M.max (by decide +kernel) (pa_cons (pe_lc (own := [("v", 19)]) (g := gName 19) (tt := tYes) rfl nd (pi_list (pe_ix ix_list (pv 8) pe_int (fun _ _ => rfl))) (blkOk_by (N := n_law) (sc := defScope s_law) (by decide +kernel)) (fun _ _ _ _ _ => pg_name (i := 19) nd rfl (Or.inl rfl)) (fun _ _ _ _ _ => pts_nil) (fun _ _ _ _ _ => (pe_ix (show IxR _ (rIxL K) from ix_list) (pe_ix (show IxR _ (rIxL K) from ix_list) (pv 3) pe_int (fun _ _ => rfl)) (pv 19) (fun _ _ => rfl)))) pa_nil)) pa_nil)) pe_int))
      (pss_cons (ps_set (i := 10) nd rfl (.inl rfl) (pe_lst (pa_cons (pe_callS Gwin.ok (hr.mono (by decide)) (by rfl) Gwin.m Gwin.kp Gwin.b (fun σ => L2N.passAt takes0N σ) (pa_cons (pv 4) (pa_cons (pe_ix ix_list (pv 8) pe_int (fun _ _ => rfl)) (pa_cons (pe_ix ix_list (pv 8) pe_int (fun _ _ => rfl)) pa_nil)))) (pa_cons (pe_callS Gwin.ok (hr.mono (by decide)) (by rfl) Gwin.m Gwin.kp Gwin.b (fun σ => L2N.passAt takes0N σ) (pa_cons (pv 7) (pa_cons (pe_ix ix_list (pv 8) pe_int (fun _ _ => rfl)) (pa_cons (pe_ix ix_list (pv 8) pe_int (fun _ _ => rfl)) pa_nil)))) pa_nil))))
      (pss_one (ps_if (PW.pt (pw_or (pt_not (pt_val (pe_call G_law_whole.ok (hr.mono (by decide)) (by rfl) G_law_whole.m G_law_whole.kp G_law_whole.b .nil pass0 (pa_cons (pe_ix ix_list (pv 10) pe_int (fun _ _ => rfl)) pa_nil)))) (pw_or (pt_not (pt_val (pe_call G_law_whole.ok (hr.mono (by decide)) (by rfl) G_law_whole.m G_law_whole.kp G_law_whole.b .nil pass0 (pa_cons (pe_ix ix_list (pv 10) pe_int (fun _ _ => rfl)) pa_nil)))) (pw_or1 (pt_cmpR (op_neD hu) (pv 10) (pe_lst (pa_cons (pv 9) (pa_cons (pe_op op_sub pe_int (pv 9)) pa_nil))) (nomark _)))))) (pss_one (ps_ret pe_bl)) pss_nil))))) pss_nil)
    (pss_cons (ps_set (i := 11) nd rfl (.inl rfl) (pe_call G_law_chosen.ok (hr.mono (by decide)) (by rfl) G_law_chosen.m G_law_chosen.kp G_law_chosen.b .nil pass0 (pa_cons (pv 3) (pa_cons (pe_call G_law_cell.ok (hr.mono (by decide)) (by rfl) G_law_cell.m G_law_cell.kp G_law_cell.b .nil pass0 (pa_cons (pv 0) (pa_cons pe_int pa_nil))) (pa_cons (pe_cmpR op_eq (pe_ix ix_list (pv 1) pe_int (fun _ _ => rfl)) pe_int (nomark _)) pa_nil)))))
    (pss_cons (ps_set (i := 12) nd rfl (.inl rfl) (pe_call G_law_part.ok (hr.mono (by decide)) (by rfl) G_law_part.m G_law_part.kp G_law_part.b .nil pass0 (pa_cons (pv 3) (pa_cons (pv 11) pa_nil))))
    (pss_cons (ps_if (pt_not (pt_val (pe_call G_law_right.ok (hr.mono (by decide)) (by rfl) G_law_right.m G_law_right.kp G_law_right.b .nil pass0 (pa_cons (pv 4) (pa_cons (pv 11) (pa_cons (pv 12) (pa_cons (pe_ix ix_list (pv 1) pe_int (fun _ _ => rfl)) pa_nil))))))) (pss_one (ps_ret pe_bl)) pss_nil)
    (C8.pss_cut (ps_if (pt_cmpR op_eq (pe_callB call_len_seq (by rfl) M.len PySem.boot_len (pa_cons (pv 12) pa_nil)) pe_int (nomark _)) (pss_cons (ps_set (i := 13) nd rfl (.inl rfl) (pe_methE (pv 4) T.cl Gr.mt Gr.ok (hr.mono (by decide)) Gr.b (fun σ => L2N.passAt takes0N σ) (pa_cons (pe_callTy call_list_of (by rfl) M.list PyProof.Rows.boot_list (pa_cons (pv 11) pa_nil)) pa_nil)))
      (pss_cons (ps_set (i := 14) nd rfl (.inl rfl) (pe_call G_law_chosen.ok (hr.mono (by decide)) (by rfl) G_law_chosen.m G_law_chosen.kp G_law_chosen.b .nil pass0 (pa_cons (pv 12) (pa_cons (pe_call G_law_cell.ok (hr.mono (by decide)) (by rfl) G_law_cell.m G_law_cell.kp G_law_cell.b .nil pass0 (pa_cons (pv 0) (pa_cons pe_int pa_nil))) (pa_cons (pe_cmpR op_eq (pe_ix ix_list (pv 1) pe_int (fun _ _ => rfl)) pe_int (nomark _)) pa_nil)))))
      (pss_one (ps_if (PW.pt (pw_or (pt_not (pt_val (pe_call G_law_right.ok (hr.mono (by decide)) (by rfl) G_law_right.m G_law_right.kp G_law_right.b .nil pass0 (pa_cons (pv 13) (pa_cons (pv 14) (pa_cons (pe_call G_law_part.ok (hr.mono (by decide)) (by rfl) G_law_part.m G_law_part.kp G_law_part.b .nil pass0 (pa_cons (pv 12) (pa_cons (pv 14) pa_nil))) (pa_cons (pe_op op_add (pe_ix ix_list (pv 1) pe_int (fun _ _ => rfl)) pe_int) pa_nil))))))) (pw_or1 (pt_not (pt_val (pe_call G_law_reads.ok (hr.mono (by decide)) (by rfl) G_law_reads.m G_law_reads.kp G_law_reads.b .nil pass0 (pa_cons (pv 13) (pa_cons (pv 12) pa_nil)))))))) (pss_one (ps_ret pe_bl)) pss_nil)))) pss_nil)
    (pss_cons (ps_if (PW.pt (pw_or (pt_not (pt_val (pe_call G_law_right.ok (hr.mono (by decide)) (by rfl) G_law_right.m G_law_right.kp G_law_right.b .nil pass0 (pa_cons (pv 4) (pa_cons (pe_listRg rfl (by rfl) M.list (prg_1 (by rfl) M.range (pv 2))) (pa_cons (pv 3) (pa_cons (pe_ix ix_list (pv 1) pe_int (fun _ _ => rfl)) pa_nil))))))) (pw_or1 (pt_not (pt_val (pe_call G_law_right.ok (hr.mono (by decide)) (by rfl) G_law_right.m G_law_right.kp G_law_right.b .nil pass0 (pa_cons (pv 4) (pa_cons (pe_lst pa_nil) (pa_cons (pe_lst (pa_cons (pe_lst pa_nil) (pa_cons (pe_lst pa_nil) (pa_cons (pe_lst pa_nil) pa_nil)))) (pa_cons (pe_ix ix_list (pv 1) pe_int (fun _ _ => rfl)) pa_nil)))))))))) (pss_one (ps_ret pe_bl)) pss_nil)
    (pss_cons (ps_set (i := 15) nd rfl (.inl rfl) (pe_newDeadEnd TD hr (pa_cons (pe_ix ix_list (pv 1) pe_int (fun _ _ => rfl)) pa_nil)))
    (pss_cons (ps_if (PW.pt (pw_or (pt_not (pt_val (pe_call G_law_whole.ok (hr.mono (by decide)) (by rfl) G_law_whole.m G_law_whole.kp G_law_whole.b .nil pass0 (pa_cons (pe_xfDeadEnd TD (pv 15)) pa_nil)))) (pw_or1 (pt_cmpR op_ne (pe_xfDeadEnd TD (pv 15)) (pe_ix ix_list (pv 1) pe_int (fun _ _ => rfl)) (nomark _))))) (pss_one (ps_ret pe_bl)) pss_nil)
    (pss_one (ps_ret (pe_and (pe_call G_law_right.ok (hr.mono (by decide)) (by rfl) G_law_right.m G_law_right.kp G_law_right.b .nil pass0 (pa_cons (pv 4) (pa_cons (pv 11) (pa_cons (pv 12) (pa_cons (pe_op op_add (pe_ix ix_list (pv 1) pe_int (fun _ _ => rfl)) pe_int) pa_nil))))) (pe_one (pe_call G_law_reads.ok (hr.mono (by decide)) (by rfl) G_law_reads.m G_law_reads.kp G_law_reads.b .nil pass0 (pa_cons (pv 4) (pa_cons (pv 3) pa_nil)))))))))))))))))))))))), ?_⟩
  have fnt : ∀ (a b c : Addr) (m : Int), (flds a b c m).lookup ("turned" : Str) = Option.none := fun a b c m => fld_no a b c m (by decide) (by decide) (by decide) (by decide) (by decide) (by decide)
  have fnr : ∀ (a b c : Addr) (m : Int), (flds a b c m).lookup ("restricted" : Str) = Option.none := fun a b c m => fld_no a b c m (by decide) (by decide) (by decide) (by decide) (by decide) (by decide)
  refine ⟨_, rfl, a, ns, 0, rfl, hS, hl, by decide, fun z0 => ⟨le_line (n := 8) (by decide), fun l0 hl0 => ⟨z0, l0, [2, 9, 4, 2, 2, 2, 9, 41], rfl, SqL.of upd_same, by decide, by decide, fun p0 ds0 H1 s1 hp0 ep0 hd0 => ?_⟩⟩⟩
  have sm1 : Same H H1 := (same_new hl0 _).trans s1
  obtain ⟨d0, r0, rfl, b0, hd0⟩ := hd0.cons
  obtain ⟨d1, r1, rfl, b1, hd0⟩ := hd0.cons
  obtain ⟨d2, r2, rfl, b2, hd0⟩ := hd0.cons
  obtain ⟨d3, r3, rfl, b3, hd0⟩ := hd0.cons
  obtain ⟨d4, r4, rfl, b4, hd0⟩ := hd0.cons
  obtain ⟨d5, r5, rfl, b5, hd0⟩ := hd0.cons
  obtain ⟨d6, r6, rfl, b6, hd0⟩ := hd0.cons
  obtain ⟨d7, r7, rfl, b7, hd0⟩ := hd0.cons
  cases hd0.nil
  obtain ⟨c0, ec0, c1, c2⟩ : ∃ c : Int, atI [V.int d1, V.int (5 + d2)] d0 = some (.int c) ∧ 0 ≤ c ∧ c ≤ 8 := by
    rcases (show d0 = 0 ∨ d0 = 1 by omega) with rfl | rfl
    · exact ⟨_, rfl, by omega, by omega⟩
    · exact ⟨_, rfl, by omega, by omega⟩
  refine ⟨_, rfl, p0, _, 1, .int d1, rfl, rfl, SqL.of ep0, rfl, _, rfl, p0, _, 2, .int d2, rfl, rfl, SqL.of ep0, rfl, _, _, rfl, rfl, le_line (n := 2) (by decide), fun l1 hl1 => ⟨_, rfl, p0, _, 0, .int d0, rfl, rfl, SqL.of (same_new hl1 _ _ _ ep0), rfl, l1, _, d0, _, rfl, rfl, SqL.of upd_same, ec0, ?_⟩⟩
  have s2 := same_new hl1 (.lst [V.int d1, V.int (5 + d2)])
  have sm2 := sm1.trans s2
  have ep02 := s2 _ _ ep0
  refine ⟨fun σ H' => Same H H' ∧ H' p0 = some (.lst ([d0, d1, d2, d3, d4, d5, d6, d7].map V.int)) ∧ ∃ n : Nat, n ≤ 40 ∧ σ = [some (.ref a), some (.ref p0), some (.int (n : Int)), Option.none, Option.none, Option.none, Option.none, Option.none, Option.none, Option.none, Option.none, Option.none, Option.none, Option.none, Option.none, Option.none, Option.none, Option.none, Option.none, Option.none], ?_, ?_⟩
  · refine ⟨_, rfl, p0, _, 6, .int d6, rfl, rfl, SqL.of ep02, rfl, rfl, _, rfl, ite2 (fun _ => ?_) (fun _ => ?_)⟩
    · refine ⟨_, rfl, p0, _, 7, .int d7, rfl, rfl, SqL.of ep02, rfl, sm2, ep02, d7.toNat, by omega, ?_⟩
      rw [show ((d7.toNat : Nat) : Int) = d7 by omega]; rfl
    · refine ⟨sm2, ep02, c0.toNat, by omega, ?_⟩
      rw [show ((c0.toNat : Nat) : Int) = c0 by omega]; rfl
  clear ec0 c1 c2 sm2 ep02 s2 sm1 ep0 s1
  rintro σ H1 ⟨sm1, ep0, n, hn, rfl⟩
  refine ⟨_, rfl, _, rfl, a, ns, 4, n, 28, rfl, sm1.seq hS, hl, by decide, by omega, by decide, by decide, fun H2 g os ps rows o p sx rs s2 hg G V0 lo hp28 => ?_⟩
  have sm2 := sm1.trans s2
  have ep02 := s2 _ _ ep0
  have n60 : os.length ≤ 60 := by omega
  have lrs : rs.length = os.length := by rw [G.r0.length, V0.l2]
  -- made
  refine ⟨_, rfl, g, _, 0, .ref o, rfl, rfl, SqL.of G.g0, rfl, o, _, rfl, .inl (SqL.of G.o0), fun a1 ha1 => ?_⟩
  have t1 := same_new ha1 (.lst (os.map V.int))
  have e1 : upd H2 a1 (.lst (os.map V.int)) a1 = some (.lst (os.map V.int)) := upd_same
  generalize upd H2 a1 (.lst (os.map V.int)) = H4 at t1 e1 ⊢
  have G4 := G.same t1
  refine ⟨_, rfl, g, _, 1, .ref p, rfl, rfl, SqL.of G4.g0, rfl, p, _, rfl, .inl (SqL.of G4.p0), fun a2 ha2 => ?_⟩
  have t2 := same_new ha2 (.lst (ps.map V.int))
  have e2 : upd H4 a2 (.lst (ps.map V.int)) a2 = some (.lst (ps.map V.int)) := upd_same
  have e12 := t2 _ _ e1
  generalize upd H4 a2 (.lst (ps.map V.int)) = H5 at t2 e2 e12 ⊢
  have G5 := G4.same t2
  refine ⟨_, rfl, g, _, 2, .ref sx, rfl, rfl, SqL.of G5.g0, rfl, sx, rfl, ⟨_, SqL.of G5.s0⟩, fun D1 hD1 => ?_⟩
  refine lc_newL (xs := rs.map V.ref) (fun i _ ob => ∃ xs, rows[i]? = some xs ∧ ob = .lst (xs.map V.int)) (by rw [List.length_map]; omega) (SqL.of G5.s0) hD1 (fun i x H' k nn hx sm hk => ⟨rfl, tYI ?_⟩) (fun H6 rs1 s6 eD1 lrs1 pw1 => ?_)
  · obtain ⟨r, hr1, rfl⟩ := map_atV hx
    obtain ⟨xs, hxs, er⟩ := pr_get G5.r0 hr1
    exact ⟨_, rfl, r, _, rfl, .inl (SqL.of (sm _ _ er)), fun l hl' => hk l _ _ (same_new hl' _) hl' upd_same ⟨xs, hxs, rfl⟩⟩
  have pr1 : Paired (fun r xs => H6 r = some (.lst (xs.map V.int))) rs1 rows := pr_of (by rw [lrs1, List.length_map, lrs, V0.l2]) fun i r xs h1 h2 => by
    obtain ⟨ob, _, _, eo, ys, hy, rfl⟩ := pw1 i r (.ref (rs.getD i 0)) h1 (at_map (gd_at (by have := lt_of_at h2; rw [lrs]; rw [V0.l2] at this; exact this)))
    rw [h2] at hy
    cases hy
    exact eo
  have e26 := s6 _ _ e2
  have e16 := s6 _ _ e12
  have G6 := G5.same s6
  intro x dx nx ndx nex
  have mx : Same H6 (upd (upd H6 dx (.own x)) x (.ins C dx [])) := fun b o e => by
    rw [upd_ne (ne_of_none e nx), upd_ne (ne_of_none e ndx)]
    exact e
  refine ⟨x, dx, a1, a2, D1, os, ps, rs1, rows, rfl, upd_same, mx _ _ e16, mx _ _ e26, mx _ _ eD1, L2.Paired.mapP pr1 fun _ _ e => mx _ _ e, V0, fun H7 xa xb xc xts xm gm kp => ⟨rfl, ?_⟩⟩
  have s67 : Same H6 H7 := fun b o e => kp b o (mx _ _ e) (ne_of_none e nx)
  have G7 := G6.same s67
  have s37 : Same H2 H7 := ((t1.trans t2).trans s6).trans s67
  clear pw1 pr1 kp mx e26 e16 e12 e1 e2 eD1 G4 G5 G6 t1 t2 s6 s67
  -- once
  refine ⟨_, rfl, g, _, 0, .ref o, rfl, rfl, SqL.of G7.g0, rfl, o, rfl, ⟨_, SqL.of G7.o0⟩, fun DA hDA => ?_⟩
  refine lc_mapI (fun z => 1 - z) (by omega) (SqL.of G7.o0) hDA (fun i z H' k nn hz sm h => ⟨rfl, tYI ⟨_, rfl, _, _, rfl, rfl, h⟩⟩) (fun H8 s8 eDA => ?_)
  have G8 := G7.same s8
  refine ⟨_, rfl, g, _, 1, .ref p, rfl, rfl, SqL.of G8.g0, rfl, p, rfl, ⟨_, SqL.of G8.p0⟩, fun DB hDB => ?_⟩
  refine lc_mapI (fun z => z + 1) (by rw [V0.l1]; omega) (SqL.of G8.p0) hDB (fun i z H' k nn hz sm h => ⟨rfl, tYI ⟨_, rfl, _, _, rfl, rfl, h⟩⟩) (fun H9 s9 eDB => ?_)
  have G9 := G8.same s9
  refine ⟨_, rfl, g, _, 2, .ref sx, rfl, rfl, SqL.of G9.g0, rfl, le_line (n := 3) (by decide), fun on hon => ?_⟩
  have t3 := same_new hon (.lst [.ref DA, .ref DB, .ref sx])
  have GO : GraphAt (upd H9 on (.lst [.ref DA, .ref DB, .ref sx])) on (os.map fun z => 1 - z) (ps.map fun z => z + 1) rows DA DB sx rs := ⟨upd_same, t3 _ _ (s9 _ _ eDA), t3 _ _ eDB, t3 _ _ G9.s0, L2.Paired.mapP G9.r0 fun _ _ e => t3 _ _ e⟩
  have G10 := G9.same t3
  have m710 := (s8.trans s9).trans t3
  generalize upd H9 on (.lst [.ref DA, .ref DB, .ref sx]) = H10 at GO G10 m710 ⊢
  clear t3 eDA eDB G8 G9 s8 s9
  -- twice
  refine ⟨_, rfl, g, _, 0, .ref o, rfl, rfl, SqL.of G10.g0, rfl, _, rfl, g, _, 1, .ref p, rfl, rfl, SqL.of G10.g0, rfl, p, rfl, ⟨_, SqL.of G10.p0⟩, fun DC hDC => ?_⟩
  refine lc_mapI (fun z => z + 2) (by rw [V0.l1]; omega) (SqL.of G10.p0) hDC (fun i z H' k nn hz sm h => ⟨rfl, tYI ⟨_, rfl, _, _, rfl, rfl, h⟩⟩) (fun H11 s11 eDC => ?_)
  have G11 := G10.same s11
  refine ⟨_, rfl, g, _, 2, .ref sx, rfl, rfl, SqL.of G11.g0, rfl, le_line (n := 3) (by decide), fun tw htw => ?_⟩
  have t3 := same_new htw (.lst [.ref o, .ref DC, .ref sx])
  have GW : GraphAt (upd H11 tw (.lst [.ref o, .ref DC, .ref sx])) tw os (ps.map fun z => z + 2) rows o DC sx rs := ⟨upd_same, t3 _ _ G11.o0, t3 _ _ eDC, t3 _ _ G11.s0, L2.Paired.mapP G11.r0 fun _ _ e => t3 _ _ e⟩
  have m1012 := s11.trans t3
  have G12 := G10.same m1012
  have GO12 := GO.same m1012
  have gm12 := gm.same (m710.trans m1012)
  have s212 := s37.trans (m710.trans m1012)
  generalize upd H11 tw (.lst [.ref o, .ref DC, .ref sx]) = H12 at GW G12 GO12 gm12 s212 m1012 ⊢
  clear t3 eDC G10 G11 GO s11 gm m710 m1012
  have hp29 : ∀ x ∈ ps, x ≤ 29 := fun x hx => by have := hp28 x hx; omega
  have V1 : Valid (os.map fun z => 1 - z) (ps.map fun z => z + 1) rows := ⟨by rw [List.length_map, List.length_map]; exact V0.l1, by rw [List.length_map]; exact V0.l2, by rw [List.length_map]; exact V0.n, fun x hx => by
    obtain ⟨z, hz, rfl⟩ := List.mem_map.mp hx
    have := V0.o z hz
    omega, fun x hx => by
    obtain ⟨z, hz, rfl⟩ := List.mem_map.mp hx
    have := V0.p z hz
    have := hp28 z hz
    show 0 ≤ z + 1 ∧ z + 1 ≤ 30
    omega, fun x hx => by rw [List.length_map]; exact V0.r x hx⟩
  have V2 : Valid os (ps.map fun z => z + 2) rows := ⟨by rw [List.length_map]; exact V0.l1, V0.l2, V0.n, V0.o, fun x hx => by
    obtain ⟨z, hz, rfl⟩ := List.mem_map.mp hx
    have := V0.p z hz
    have := hp28 z hz
    show 0 ≤ z + 2 ∧ z + 2 ≤ 30
    omega, V0.r⟩
  have hp29' : ∀ x ∈ ps.map (fun z => z + 1), x ≤ 29 := fun x hx => by
    obtain ⟨z, hz, rfl⟩ := List.mem_map.mp hx
    have := hp28 z hz
    show z + 1 ≤ 29
    omega
  have eo2 : (os.map fun z => 1 - z).map (fun z => 1 - z) = os := by
    rw [List.map_map]
    have : ((fun z : Int => 1 - z) ∘ fun z : Int => 1 - z) = id := by funext z; show 1 - (1 - z) = z; omega
    rw [this, List.map_id]
  have ep2 : (ps.map fun z => z + 1).map (fun z => z + 1) = ps.map fun z => z + 2 := by
    rw [List.map_map]
    congr 1
    funext z
    show z + 1 + 1 = z + 2
    omega
  have n60' : (os.map fun z => 1 - z).length ≤ 60 := by rw [List.length_map]; exact n60
  -- other
  refine ⟨_, rfl, x, dx, _, rfl, gm12.ob, fnt _ _ _ _, x, dx, xa, xb, xc, os, ps, rows, xts, xm, rfl, gm12, V0, hp29, fun H13 y dy ya yb yc yts ym s13 gy => ?_⟩
  refine ⟨_, rfl, _, rfl, y, on, _, _, rows, dy, ya, yb, yc, yts, ym, DA, DB, sx, rs, rfl, gy, GO12.same s13, V1, n60', fun H14 s14 => ⟨_, rfl, iteF ?_⟩⟩
  have v14 := s13.trans s14
  refine ⟨_, rfl, y, dy, _, rfl, (gy.same s14).ob, fnt _ _ _ _, y, dy, ya, yb, yc, _, _, rows, yts, ym, rfl, gy.same s14, V1, hp29', fun H15 w dw wa wb wc wts wm s15 gw => ?_⟩
  rw [eo2, ep2] at gw
  have v15 := v14.trans s15
  refine ⟨_, rfl, w, tw, os, _, rows, dw, wa, wb, wc, wts, wm, o, DC, sx, rs, rfl, gw, GW.same v15, V2, n60, fun H16 s16 => ⟨_, rfl, iteF ?_⟩⟩
  have v16 := v15.trans s16
  refine ⟨_, rfl, _, rfl, x, g, os, ps, rows, dx, xa, xb, xc, xts, xm, o, p, sx, rs, rfl, gm12.same v16, G12.same v16, V0, n60, fun H17 s17 => ⟨_, rfl, iteF ?_⟩⟩
  have v17 := v16.trans s17
  have gm17 := gm12.same v17
  have G17 := G12.same v17
  have GO17 := GO12.same v17
  have gy17 := ((gy.same s14).same s15).same (s16.trans s17)
  have sH17 := sm2.trans (s212.trans v17)
  have ep17 := (s212.trans v17) _ _ (s2 _ _ ep0)
  clear gw v14 v15 v16 s13 s14 s15 s16 s17 GW gy gm12 G12 GO12 G7 v17 s212
  -- the own ==
  refine ⟨_, rfl, _, rfl, on, _, 0, .ref DA, rfl, rfl, SqL.of GO17.g0, rfl, _, rfl, on, _, 1, .ref DB, rfl, rfl, SqL.of GO17.g0, rfl, _, rfl, on, _, 2, .ref sx, rfl, rfl, SqL.of GO17.g0, rfl, ?_⟩
  intro x2 dx2 nx2 ndx2 nex2
  have mx : Same H17 (upd (upd H17 dx2 (.own x2)) x2 (.ins C dx2 [])) := fun b' o' e => by
    rw [upd_ne (ne_of_none e nx2), upd_ne (ne_of_none e ndx2)]
    exact e
  refine ⟨x2, dx2, DA, DB, sx, _, _, rs, rows, rfl, upd_same, mx _ _ GO17.o0, mx _ _ GO17.p0, mx _ _ GO17.s0, L2.Paired.mapP GO17.r0 fun _ _ e => mx _ _ e, V1, fun H18 qa qb qc qts qm gq kp => ⟨rfl, ?_⟩⟩
  have s18 : Same H17 H18 := fun b' o' e => kp b' o' (mx _ _ e) (ne_of_none e nx2)
  have gy18 := gy17.same s18
  have gm18 := gm17.same s18
  refine ⟨y, x2, dy, dx2, _, _, rfl, rfl, gy18.ob, gq.ob, y, x2, _, _, rows, dy, ya, yb, yc, yts, ym, _, _, rows, dx2, qa, qb, qc, qts, qm, rfl, gy18, gq, true, .inl ⟨rfl, rfl, rfl, rfl⟩, true, rfl, true, true, rfl, rfl, _, rfl, ?_⟩
  rw [decide_eq_true rfl]
  refine iteF ?_
  have hc : (decide (n = 0) = true ∧ os = os.map (fun z => 1 - z) ∧ ps = ps.map (fun z => z + 1) ∧ rows = rows) ∨ (decide (n = 0) = false ∧ os ≠ os.map (fun z => 1 - z)) := by
    by_cases h0 : n = 0
    · have h1 : os = [] := List.eq_nil_of_length_eq_zero (by omega)
      have h2 : ps = [] := List.eq_nil_of_length_eq_zero (by rw [V0.l1]; omega)
      exact .inl ⟨decide_eq_true h0, by rw [h1]; rfl, by rw [h2]; rfl, rfl⟩
    · refine .inr ⟨decide_eq_false h0, fun z => ?_⟩
      cases hos : os with
      | nil => rw [hos] at lo; exact h0 lo.symm
      | cons a0 l0' =>
        rw [hos, List.map_cons] at z
        have z1 := (List.cons.inj z).1
        omega
  refine ⟨_, rfl, _, rfl, x, y, dx, dy, _, _, rfl, rfl, gm18.ob, gy18.ob, x, y, os, ps, rows, dx, xa, xb, xc, xts, xm, _, _, rows, dy, ya, yb, yc, yts, ym, rfl, gm18, gy18, decide (n = 0), hc, decide (n = 0), rfl, _, rfl, rfl, rfl, _, rfl, ?_⟩
  have ecz : (!decide (V.bl (decide (n = 0)) = V.bl (decide (V.int (n : Int) = V.int 0)))) = false := by
    rw [dInt, show decide ((n : Int) = 0) = decide (n = 0) from decide_eq_decide.mpr ⟨fun h => by omega, fun h => by omega⟩, decide_eq_true rfl]; rfl
  rw [ecz]
  refine iteF ?_
  have sH18 := sH17.trans s18
  have G18 := G17.same s18
  have ep18 := s18 _ _ ep17
  clear kp mx gq gy17 gm17 G17 GO17 sH17 ep17 s18 hc
  refine ⟨fun σ H' => Same H18 H' ∧ ∃ y8 y9 y10 : Option V, σ = [some (.ref a), some (.ref p0), some (.int (n : Int)), some (.ref g), some (.ref x), some (.ref on), some (.ref tw), some (.ref y), y8, y9, y10, Option.none, Option.none, Option.none, Option.none, Option.none, Option.none, Option.none, Option.none, Option.none], ?_, ?_⟩
  · refine ⟨_, rfl, _, _, rfl, rfl, _, rfl, ite2 (fun cn => ?_) (fun cn => ⟨.refl _, _, _, _, rfl⟩)⟩
    have cn := of_decide_eq_true cn
    refine ⟨_, rfl, _, rfl, a, ns, 3, rfl, sH18.seq hS, hl, by decide, fun z3 => ⟨g, z3, os, ps, rows, o, p, sx, rs, rfl, G18, V0, by omega, n60, fun H19 pl la ra lead ring s19 epl ela era hfa hle => ?_⟩⟩
    obtain ⟨rne, inr⟩ := fault_none hfa
    have G19 := G18.same s19
    refine ⟨_, rfl, pl, _, 1, .ref ra, rfl, rfl, SqL.of epl, rfl, ra, rfl, ⟨_, SqL.of era⟩, fun D hD => ?_⟩
    refine lc_mapI (fun v => ps.getD v.toNat 0) (by omega) (SqL.of era) hD (fun i z H' k nn hz sm hk => ⟨rfl, tYI ?_⟩) (fun H20 s20 eD => ?_)
    · have h3 := inr z (List.mem_of_getElem? hz)
      have ep : ps[z.toNat]? = some (ps.getD z.toNat 0) := gd_at (by rw [V0.l1]; omega)
      have G' := G19.same sm
      exact ⟨_, rfl, g, _, 1, .ref p, rfl, rfl, SqL.of G'.g0, rfl, _, rfl, p, _, _, _, rfl, rfl, SqL.of G'.p0, (by rw [show z = ((z.toNat : Nat) : Int) by omega]; exact atI_nat (at_map (by rw [Int.toNat_natCast]; exact ep))), hk⟩
    refine ⟨D, prios ps ring, rfl, SqL.of eD, ?_, fun t ht hmax => .inl ⟨_, rfl, _, _, rfl, rfl, (by show (0 : Int) < 2; decide), ?_⟩⟩
    · unfold prios
      rw [List.length_map]; exact List.length_pos_iff.mpr rne
    have v20 := s19.trans s20
    have hfa1 : faultO (os.map fun z => 1 - z).length rows lead ring = Option.none := by rw [List.length_map]; exact hfa
    refine ⟨_, rfl, _, rfl, pl, _, 0, .ref la, rfl, rfl, SqL.of (s20 _ _ epl), rfl, _, rfl, pl, _, 1, .ref ra, rfl, rfl, SqL.of (s20 _ _ epl), rfl, x, la, ra, lead, ring, os, ps, rows, dx, xa, xb, xc, xts, xm, rfl, gm18.same v20, V0, n60, .inl (s20 _ _ ela), .inl (s20 _ _ era), by omega, (fun k ek => by rw [hfa] at ek; exact nomatch ek), fun _ t2 H21 s21 ht2 hm2 => ?_⟩
    have v21 := s20.trans s21
    refine ⟨_, rfl, _, rfl, pl, _, 0, .ref la, rfl, rfl, SqL.of (v21 _ _ epl), rfl, _, rfl, pl, _, 1, .ref ra, rfl, rfl, SqL.of (v21 _ _ epl), rfl, y, la, ra, lead, ring, _, _, rows, dy, ya, yb, yc, yts, ym, rfl, gy18.same (s19.trans v21), V1, n60', .inl (v21 _ _ ela), .inl (v21 _ _ era), by omega, (fun k ek => by rw [hfa1] at ek; exact nomatch ek), fun _ t3 H22 s22 ht3 hm3 => ⟨le_line (n := 2) (by decide), fun tl htl => ?_⟩⟩
    have et2 : t2 = t := Int.le_antisymm (hmax t2 ht2) (hm2 t ht)
    have et3 : t3 = t + 1 := by
      have key : ∀ v ∈ ring, (ps.map fun z => z + 1).getD v.toNat 0 = ps.getD v.toNat 0 + 1 := fun v hv => by
        have hb := inr v hv
        have hl2 : v.toNat < ps.length := by rw [V0.l1]; omega
        rw [List.getD_eq_getElem?_getD, List.getElem?_map, gd_at (d := (0 : Int)) hl2]; rfl
      have m1 : ∃ v ∈ ring, t3 = ps.getD v.toNat 0 + 1 := by
        unfold prios at ht3
        obtain ⟨v, hv, e⟩ := List.mem_map.mp ht3
        exact ⟨v, hv, by rw [← e, key v hv]⟩
      have m2 : ∃ v ∈ ring, t = ps.getD v.toNat 0 := by
        unfold prios at ht
        obtain ⟨v, hv, e⟩ := List.mem_map.mp ht
        exact ⟨v, hv, e.symm⟩
      obtain ⟨v, hv, e⟩ := m1
      obtain ⟨v', hv', e'⟩ := m2
      have a1 : ps.getD v.toNat 0 ≤ t := hmax _ (by unfold prios; exact List.mem_map.mpr ⟨v, hv, rfl⟩)
      have a2 : ps.getD v'.toNat 0 + 1 ≤ t3 := hm3 _ (by unfold prios; exact List.mem_map.mpr ⟨v', hv', key v' hv'⟩)
      omega
    have w1 := same_new htl (.lst [V.int (t2 % 2), V.int (t3 % 2)])
    have etl : upd H22 tl (.lst [V.int (t2 % 2), V.int (t3 % 2)]) tl = some (.lst ([t % 2, 1 - t % 2].map V.int)) := by
      rw [upd_same, et2, show t3 % 2 = 1 - t % 2 by omega]; rfl
    have v22 := (s19.trans v21).trans (s22.trans w1)
    generalize upd H22 tl (.lst [V.int (t2 % 2), V.int (t3 % 2)]) = H23 at etl v22 ⊢
    refine ⟨_, rfl, tl, _, 0, .int (t % 2), rfl, rfl, SqL.of etl, rfl, _, rfl, _, rfl, iteF ⟨_, rfl, tl, _, 1, .int (1 - t % 2), rfl, rfl, SqL.of etl, rfl, _, rfl, _, rfl, iteF ⟨_, rfl, _, rfl, _, rfl, _, _, rfl, rfl, le_line (n := 2) (by decide), fun wl hwl => ?_⟩⟩⟩
    have w2 := same_new hwl (.lst ([t % 2, 1 - t % 2].map V.int))
    refine ⟨.list ([t % 2, 1 - t % 2].map PyData.int), .list ([t % 2, 1 - t % 2].map PyData.int), .lst (SqL.of (w2 _ _ etl)) (dp_ints _), .lst (SqL.of (upd_same (o := .lst ([t % 2, 1 - t % 2].map V.int)))) (dp_ints _), shape_ints _, shape_ints _, _, rfl, ?_⟩
    rw [eqv_lst]
    exact iteF ⟨v22.trans w2, _, _, _, rfl⟩
  rintro σ H20 ⟨s20, y8, y9, y10, rfl⟩
  have sH20 := sH18.trans s20
  have G20 := G18.same s20
  have gm20 := gm18.same s20
  have ep20 := s20 _ _ ep18
  clear s20 sH18 G18 gm18 gy18 ep18
  refine ⟨_, rfl, _, rfl, a, ns, 1, rfl, sH20.seq hS, hl, by decide, fun z1 => ⟨_, rfl, p0, _, 3, .int d3, rfl, rfl, SqL.of ep20, rfl, rfl, g, z1, _, os, ps, rows, o, p, sx, rs, rfl, G20, V0, n60, fun H21 ca cs s21 ec k1 k2 k3 => ?_⟩⟩
  have G21 := G20.same s21
  refine ⟨_, rfl, _, rfl, g, ca, cs, os, ps, rows, o, p, sx, rs, rfl, G21, V0, n60, ec, k1, k2, k3, fun H22 du s22 hdue => ?_⟩
  have v22 := s21.trans s22
  have ec22 := s22 _ _ ec
  refine ⟨_, rfl, _, rfl, _, rfl, _, rfl, p0, _, 4, .int d4, rfl, rfl, SqL.of (v22 _ _ ep20), rfl, x, ca, du, d4, cs, os, ps, rows, dx, xa, xb, xc, xts, xm, rfl, gm20.same v22, V0, n60, ec22, k1, k2, k3, b4.1, hdue, fun H23 s23 => ⟨_, rfl, iteF ?_⟩⟩
  have v23 := v22.trans s23
  have G23 := G20.same v23
  have gm23 := gm20.same v23
  have ep23 := v23 _ _ ep20
  have ec23 := s23 _ _ ec22
  have hdue23 := hdue.same s23
  have sH23 := sH20.trans v23
  clear v22 s21 s22 s23 ec ec22 hdue G20 G21 gm20 ep20 v23 sH20
  refine ⟨fun σ H' => Same H23 H' ∧ ∃ y13 y14 : Option V, σ = [some (.ref a), some (.ref p0), some (.int (n : Int)), some (.ref g), some (.ref x), some (.ref on), some (.ref tw), some (.ref y), y8, y9, y10, some (.ref ca), some (.ref du), y13, y14, Option.none, Option.none, Option.none, Option.none, Option.none], ?_, ?_⟩
  · rcases id hdue23 with ⟨v, hv, edu⟩ | ⟨hdn, o', p', s', rs', GD⟩
    · refine ⟨_, rfl, du, _, rfl, .inl (SqL.of edu), rfl, _, rfl, ?_⟩
      rw [show decide (V.int (([V.int v].length : Nat) : Int) = V.int 3) = false from rfl]
      exact iteF ⟨.refl _, _, _, rfl⟩
    · have VV := valid_pick V0 k1 k2 k3 hdn
      have l60 : (cs.map fun v => os.getD v.toNat 0).length ≤ 60 := by rw [List.length_map]; exact k3
      refine ⟨_, rfl, du, _, rfl, .inl (SqL.of GD.g0), rfl, _, rfl, ?_⟩
      rw [show decide (V.int (([V.ref o', V.ref p', V.ref s'].length : Nat) : Int) = V.int 3) = true from rfl]
      refine iteT ⟨_, rfl, x, dx, _, rfl, gm23.ob, fnr _ _ _ _, _, rfl, ca, _, rfl, .inl (SqL.of ec23), fun lc hlc => ?_⟩
      have u1 := same_new hlc (.lst (cs.map V.int))
      refine ⟨x, lc, cs, os, ps, rows, dx, xa, xb, xc, xts, xm, rfl, gm23.same u1, V0, n60, .inl upd_same, k1, k2, k3, (fun v ev => by rw [hdn] at ev; exact nomatch ev), fun _ H25 r ry qa qb qc qts qm s25 gr => ?_⟩
      have u2 := u1.trans s25
      refine ⟨_, rfl, _, rfl, a, ns, 2, rfl, (sH23.trans u2).seq hS, hl, by decide, fun z2 => ⟨_, rfl, p0, _, 5, .int d5, rfl, rfl, SqL.of (u2 _ _ ep23), rfl, rfl, du, z2, _, _, _, _, o', p', s', rs', rfl, GD.same u2, VV, l60, fun H26 ca2 cs2 s26 ec2 j1 j2 j3 => ?_⟩⟩
      have u3 := u2.trans s26
      refine ⟨_, rfl, _, rfl, _, rfl, _, rfl, du, ca2, cs2, _, _, _, o', p', s', rs', rfl, GD.same u3, VV, l60, ec2, j1, j2, j3, fun H27 du2 s27 hd2 => ?_⟩
      have u4 := u3.trans s27
      refine ⟨_, rfl, p0, _, 4, .int d4, rfl, rfl, SqL.of (u4 _ _ ep23), rfl, _, _, rfl, rfl, r, ca2, du2, d4 + 1, cs2, _, _, _, ry, qa, qb, qc, qts, qm, rfl, (gr.same s26).same s27, VV, l60, s27 _ _ ec2, j1, j2, j3, (by have := b4.1; omega), hd2, fun H28 s28 => ⟨_, rfl, iteF ?_⟩⟩
      have u5 := u4.trans s28
      exact ⟨_, rfl, _, rfl, r, du, _, _, _, ry, qa, qb, qc, qts, qm, o', p', s', rs', rfl, ((gr.same s26).same s27).same s28, GD.same u5, VV, l60, fun H29 s29 => ⟨_, rfl, iteF ⟨u5.trans s29, _, _, rfl⟩⟩⟩
  rintro σ H30 ⟨s30, y13, y14, rfl⟩
  have sH30 := sH23.trans s30
  have G30 := G23.same s30
  have gm30 := gm23.same s30
  have ep30 := s30 _ _ ep23
  have ec30 := s30 _ _ ec23
  have hdue30 := hdue23.same s30
  clear s30 sH23 G23 gm23 ep23 ec23 hdue23
  have hrn : ∀ v : Int, 0 ≤ v → v < (n : Int) → Asc (os.length : Nat) (rows.getD v.toNat []) := fun v h1 h2 => V0.r _ (List.mem_of_getElem? (gd_at (d := ([] : List Int)) (show v.toNat < rows.length by rw [V0.l2]; omega)))
  have hrow : ∀ v ∈ csN n, rowR rows (csN n) v = rows.getD v.toNat [] := fun v hv => by
    have hb := csN_mem.mp hv
    exact csN_row fun u hu => by
      have := (hrn v hb.1 hb.2).2.1 u hu
      omega
  have eR : (csN n).map (rowR rows (csN n)) = rows := by
    rw [List.map_congr_left hrow]
    exact pickN_at ([] : List Int) (by rw [V0.l2]; exact lo)
  have eO : ((csN n).map fun v => os.getD v.toNat 0) = os := pickN_at (0 : Int) lo
  have eP : ((csN n).map fun v => ps.getD v.toNat 0) = ps := pickN_at (0 : Int) (by rw [V0.l1]; exact lo)
  have hdN : deadF rows (csN n) = Option.none := dead_none fun v hv => by
    rw [hrow v hv]
    have hb := csN_mem.mp hv
    exact (hrn v hb.1 hb.2).2.2.1
  have lN : (csN n).length ≤ 60 := by unfold csN; rw [List.length_map, List.length_range]; omega
  have aN : (csN n).Pairwise (· < ·) := asc_map List.pairwise_lt_range
  have iN : ∀ x ∈ csN n, 0 ≤ x ∧ x < (os.length : Int) := fun x hx => by have := csN_mem.mp hx; omega
  refine ⟨_, rfl, _, rfl, _, rfl, RgOk.of_le (by decide) (by omega) (by decide) (by omega), fun l1 hl1 => ?_⟩
  rw [rgN]
  have u1 := same_new hl1 (.lst ((csN n).map V.int))
  refine ⟨_, rfl, _, rfl, p0, _, 5, .int d5, rfl, rfl, SqL.of (u1 _ _ ep30), rfl, x, l1, g, d5, csN n, os, ps, rows, dx, xa, xb, xc, xts, xm, rfl, gm30.same u1, V0, n60, upd_same, aN, iN, lN, b5.1, .inr ⟨hdN, o, p, sx, rs, by rw [eO, eP, eR]; exact G30.same u1⟩, fun H31 s31 => ⟨_, rfl, iteF ?_⟩⟩
  have u2 := u1.trans s31
  refine ⟨_, rfl, Nat.zero_le _, fun e1 he1 => ⟨Nat.zero_le _, fun e2 he2 => ⟨Nat.zero_le _, fun e3 he3 => ⟨Nat.zero_le _, fun e4 he4 => ⟨le_line (n := 3) (by decide), fun eg heg => ?_⟩⟩⟩⟩⟩
  have w1 := same_new he1 (.lst [])
  have w2 := same_new he2 (.lst [])
  have w3 := same_new he3 (.lst [])
  have w4 := same_new he4 (.lst [])
  have w5 := same_new heg (.lst [.ref e2, .ref e3, .ref e4])
  have GE0 : GraphAt (upd (upd (upd (upd (upd H31 e1 (.lst [])) e2 (.lst [])) e3 (.lst [])) e4 (.lst [])) eg (.lst [.ref e2, .ref e3, .ref e4])) eg [] [] [] e2 e3 e4 [] := ⟨upd_same, w5 _ _ (w4 _ _ (w3 _ _ upd_same)), w5 _ _ (w4 _ _ upd_same), w5 _ _ upd_same, .nil⟩
  have ee1 := w5 _ _ (w4 _ _ (w3 _ _ (w2 _ _ (upd_same (H := H31) (a := e1) (o := .lst [])))))
  have u3 := u2.trans ((((w1.trans w2).trans w3).trans w4).trans w5)
  generalize upd (upd (upd (upd (upd H31 e1 (.lst [])) e2 (.lst [])) e3 (.lst [])) e4 (.lst [])) eg (.lst [.ref e2, .ref e3, .ref e4]) = H32 at GE0 ee1 u3 ⊢
  refine ⟨_, rfl, p0, _, 3, .int d3, rfl, rfl, SqL.of (u3 _ _ ep30), rfl, x, e1, eg, d3, [], os, ps, rows, dx, xa, xb, xc, xts, xm, rfl, gm30.same u3, V0, n60, ee1, .nil, (fun x h => nomatch h), Nat.zero_le _, b3.1, .inr ⟨rfl, e2, e3, e4, [], GE0⟩, fun H33 s33 => ⟨_, rfl, iteF ?_⟩⟩
  have u4 := u3.trans s33
  refine ⟨_, rfl, p0, _, 7, .int d7, rfl, rfl, SqL.of (u4 _ _ ep30), rfl, _, rfl, fun dd ee hdd hee => ?_⟩
  have z1 := same_new hdd (.xd [(("vertex" : Str), .int d7)])
  have z2 := same_new hee (errD Cd ee dd)
  have edd := z2 _ _ (upd_same (H := H33) (a := dd) (o := .xd [(("vertex" : Str), .int d7)]))
  have eee : upd (upd H33 dd (.xd [(("vertex" : Str), .int d7)])) ee (errD Cd ee dd) ee = some (errD Cd ee dd) := upd_same
  have u5 := u4.trans (z1.trans z2)
  generalize upd (upd H33 dd (.xd [(("vertex" : Str), .int d7)])) ee (errD Cd ee dd) = H34 at edd eee u5 ⊢
  refine ⟨_, rfl, ee, dd, _, rfl, eee, edd, d7, rfl, _, rfl, iteF ⟨_, rfl, ee, dd, _, rfl, eee, edd, _, rfl, p0, _, 7, .int d7, rfl, rfl, SqL.of (u5 _ _ ep30), rfl, rfl, _, rfl, ?_⟩⟩
  rw [decide_eq_true rfl]
  refine iteF ?_
  refine ⟨_, rfl, _, rfl, _, rfl, _, rfl, p0, _, 4, .int d4, rfl, rfl, SqL.of (u5 _ _ ep30), rfl, _, _, rfl, rfl, x, ca, du, d4 + 1, cs, os, ps, rows, dx, xa, xb, xc, xts, xm, rfl, gm30.same u5, V0, n60, u5 _ _ ec30, k1, k2, k3, (by have := b4.1; omega), hdue30.same u5, fun H35 s35 => ⟨_, rfl, iteT ?_⟩⟩
  have u6 := u5.trans s35
  exact ⟨_, rfl, _, rfl, x, g, os, ps, rows, dx, xa, xb, xc, xts, xm, o, p, sx, rs, rfl, gm30.same u6, G30.same u6, V0, n60, fun H36 _ => q _⟩
end
end GM
set_option Elab.async false
set_option linter.all false
set_option maxRecDepth 100000
set_option maxHeartbeats 4000000
set_option pp.maxSteps 150
set_option pp.deepTerms false
namespace GM
open PySem PySem.Spec PyProof.Rows L2
/-! ### len of a game -/
theorem exm_up {K : PySem.W.Frag} {S c : Addr} (h1 : PySem.W.subIn K (.ref c) (.type "BaseException") = some true) (h2 : PySem.W.isClsIn K c = true) (h3 : PySem.W.typeIn K (.ref c) = some (.type "type")) (h4 : PySem.W.subIn K (.ref S) (.ref c) = some true) :
    PySem.W.exmOne K (.ref S) (.ref c) = some true := by
  have e1 : (PySem.W.subIn K (.ref c) (.type "BaseException") == some true) = true := by rw [h1] <;> rfl
  have e2 : ((PySem.W.clsIn K c).isSome && PySem.W.typeIn K (.ref c) == some (.type "type")) = true := by
    have h2' : (PySem.W.clsIn K c).isSome = true := h2
    rw [h2', h3] <;> rfl
  show (if (PySem.W.subIn K (.ref c) (.type "BaseException") == some true) = true then (if ((PySem.W.clsIn K c).isSome && PySem.W.typeIn K (.ref c) == some (.type "type")) = true then PySem.W.subIn K (.ref S) (.ref c) else none) else none) = some true
  rw [if_pos e1, if_pos e2]
  exact h4
section
variable {P : Program} {w : World} {K : PySem.W.Frag} {mg : Str → Option Value} {base : Heap} {C : Addr} (M : Blt mg) (T : GTxt K mg C)
include M T
theorem ok_lenG {f : Addr} {fd : FuncData} (F : Fun K "__len__" "Game.__len__" s_Game___len__ f fd) : FnOk P w K mg base CX0 1 f fd ["self"] (spLen C) := by
  refine F.ok sc_Game___len__ (fun vs H Q E h => ?_) (fun cdv A outer s H vs Q E hr h => ?_)
  · obtain ⟨p, os, ps, rows, dx, a, b, c, ts, m, rfl, _⟩ := h
    rfl
  obtain ⟨p, os, ps, rows, dx, a, b, c, ts, m, rfl, g, q⟩ := h
  have nd := sc_Game___len__.nd
  refine ⟨_, pss_one (ps_ret (pe_callB call_len_seq (by rfl) M.len PySem.boot_len (pa_cons (pe_fld (pv 0) rfl) pa_nil))), ?_⟩
  refine ⟨_, rfl, p, C, dx, _, _, rfl, g.ob, T.cl, T.nO, fld_own a b c m, a, _, rfl, .inr (sqT g.oa), ?_⟩
  rw [List.length_map]
  exact q
end
end GM
set_option Elab.async false
set_option linter.all false
set_option maxRecDepth 100000
set_option maxHeartbeats 4000000
namespace GM
open PySem PySem.Spec PyProof.Rows L2
/-! ### what the top has left -/
theorem all_mk {l : PySem.W.OpenLaw} {w : World} {K : PySem.W.Frag} {h : Heap} {mg : Str → Option Value} {fa : Addr} (X : K.In h) (G : h.Ns mainGlobals mg) (hfa : mg "law" = some (.ref fa))
    {C_Game : Addr}
    {tk_GREATEST_PRIORITY : Tok}
    {C_NotAPlay : Addr}
    {C_DeadEnd : Addr}
    {C_TreesError : Addr}
    {C_BadVertex : Addr}
    {C_PlanGap : Addr}
    {C_BadLine : Addr}
    {fI1 : Addr} {nmN1 qN1 : Str} {NN1 : Addr} {bsN1 : List Value} {snN1 : List Str} {subN1 : List Value} {abN1 : Bool} {colN1 : Option Bool} {ddN1 : Option Addr} {w01 w11 w21 w31 w51 : Option Value}
    {odI1 anI1 : Option Addr} {slI1 : Array (Option Value)} {ocI1 dcI1 pmI1 cdI1 ctI1 : Value} {pp11 pp21 qq11 qq21 qq31 qq41 : Pos}
    {fI2 : Addr} {nmN2 qN2 : Str} {NN2 : Addr} {bsN2 : List Value} {snN2 : List Str} {subN2 : List Value} {abN2 : Bool} {colN2 : Option Bool} {ddN2 : Option Addr} {w02 w12 w22 w32 w52 : Option Value}
    {odI2 anI2 : Option Addr} {slI2 : Array (Option Value)} {ocI2 dcI2 pmI2 cdI2 ctI2 : Value} {pp12 pp22 qq12 qq22 qq32 qq42 : Pos}
    {f1 f2 f3 f4 f5 f6 f7 f8 f9 f10 f11 f12 f13 f14 f15 f16 f17 f18 f19 f20 f21 f22 : Addr}
    {od1 an1 od2 an2 od3 an3 od4 an4 od5 an5 od6 an6 od7 an7 od8 an8 od9 an9 od10 an10 od11 an11 od12 an12 od13 an13 od14 an14 od15 an15 od16 an16 od17 an17 od18 an18 od19 an19 od20 an20 od21 an21 od22 an22 : Option Addr} {sl1 sl2 sl3 sl4 sl5 sl6 sl7 sl8 sl9 sl10 sl11 sl12 sl13 sl14 sl15 sl16 sl17 sl18 sl19 sl20 sl21 sl22 : Array (Option Value)}
    {oc1 dc1 pm1 cd1 ct1 kV1 oc2 dc2 pm2 cd2 ct2 kV2 oc3 dc3 pm3 cd3 ct3 kV3 oc4 dc4 pm4 cd4 ct4 kV4 oc5 dc5 pm5 cd5 ct5 kV5 oc6 dc6 pm6 cd6 ct6 kV6 oc7 dc7 pm7 cd7 ct7 kV7 oc8 dc8 pm8 cd8 ct8 kV8 oc9 dc9 pm9 cd9 ct9 kV9 oc10 dc10 pm10 cd10 ct10 kV10 oc11 dc11 pm11 cd11 ct11 kV11 oc12 dc12 pm12 cd12 ct12 kV12 oc13 dc13 pm13 cd13 ct13 kV13 oc14 dc14 pm14 cd14 ct14 kV14 oc15 dc15 pm15 cd15 ct15 kV15 oc16 dc16 pm16 cd16 ct16 kV16 oc17 dc17 pm17 cd17 ct17 kV17 oc18 dc18 pm18 cd18 ct18 kV18 oc19 dc19 pm19 cd19 ct19 kV19 oc20 dc20 pm20 cd20 ct20 kV20 oc21 dc21 pm21 cd21 ct21 kV21 oc22 dc22 pm22 cd22 ct22 kV22 : Value}
    (a1 : PySem.W.nsIn K mainGlobals "as_tuples" = some (some (.ref f1)))
    (l1 : K.lookup f1 = some ⟨oc1, od1, .func (PySem.W.fnOf "as_tuples" "as_tuples" (defArgs s_as_tuples) (defBody s_as_tuples) (defScope s_as_tuples) .none kV1 dc1 pm1 an1 cd1 ct1), sl1⟩)
    (c1 : PySem.W.codeIn K cd1 "as_tuples" = true) (k1 : PySem.W.keepIn K (.ref f1) = true)
    (a2 : PySem.W.nsIn K mainGlobals "is_whole" = some (some (.ref f2)))
    (l2 : K.lookup f2 = some ⟨oc2, od2, .func (PySem.W.fnOf "is_whole" "is_whole" (defArgs s_is_whole) (defBody s_is_whole) (defScope s_is_whole) .none kV2 dc2 pm2 an2 cd2 ct2), sl2⟩)
    (c2 : PySem.W.codeIn K cd2 "is_whole" = true) (k2 : PySem.W.keepIn K (.ref f2) = true)
    (a3 : PySem.W.findIn K (.ref C_Game) "__init__" = some (some (.ref f3))) (i3 : PySem.W.isFn K (.ref f3) = true)
    (l3 : K.lookup f3 = some ⟨oc3, od3, .func (PySem.W.fnOf "__init__" "Game.__init__" (defArgs s_Game___init__) (defBody s_Game___init__) (defScope s_Game___init__) .none kV3 dc3 pm3 an3 cd3 ct3), sl3⟩)
    (c3 : PySem.W.codeIn K cd3 "Game.__init__" = true) (k3 : PySem.W.keepIn K (.ref f3) = true)
    (a4 : PySem.W.findIn K (.ref C_Game) "__len__" = some (some (.ref f4))) (i4 : PySem.W.isFn K (.ref f4) = true)
    (l4 : K.lookup f4 = some ⟨oc4, od4, .func (PySem.W.fnOf "__len__" "Game.__len__" (defArgs s_Game___len__) (defBody s_Game___len__) (defScope s_Game___len__) .none kV4 dc4 pm4 an4 cd4 ct4), sl4⟩)
    (c4 : PySem.W.codeIn K cd4 "Game.__len__" = true) (k4 : PySem.W.keepIn K (.ref f4) = true)
    (a5 : PySem.W.findIn K (.ref C_Game) "__eq__" = some (some (.ref f5))) (i5 : PySem.W.isFn K (.ref f5) = true)
    (l5 : K.lookup f5 = some ⟨oc5, od5, .func (PySem.W.fnOf "__eq__" "Game.__eq__" (defArgs s_Game___eq__) (defBody s_Game___eq__) (defScope s_Game___eq__) .none kV5 dc5 pm5 an5 cd5 ct5), sl5⟩)
    (c5 : PySem.W.codeIn K cd5 "Game.__eq__" = true) (k5 : PySem.W.keepIn K (.ref f5) = true)
    (a6 : PySem.W.findIn K (.ref C_Game) "turned" = some (some (.ref f6))) (i6 : PySem.W.isFn K (.ref f6) = true)
    (l6 : K.lookup f6 = some ⟨oc6, od6, .func (PySem.W.fnOf "turned" "Game.turned" (defArgs s_Game_turned) (defBody s_Game_turned) (defScope s_Game_turned) .none kV6 dc6 pm6 an6 cd6 ct6), sl6⟩)
    (c6 : PySem.W.codeIn K cd6 "Game.turned" = true) (k6 : PySem.W.keepIn K (.ref f6) = true)
    (a7 : PySem.W.findIn K (.ref C_Game) "restricted" = some (some (.ref f7))) (i7 : PySem.W.isFn K (.ref f7) = true)
    (l7 : K.lookup f7 = some ⟨oc7, od7, .func (PySem.W.fnOf "restricted" "Game.restricted" (defArgs s_Game_restricted) (defBody s_Game_restricted) (defScope s_Game_restricted) .none kV7 dc7 pm7 an7 cd7 ct7), sl7⟩)
    (c7 : PySem.W.codeIn K cd7 "Game.restricted" = true) (k7 : PySem.W.keepIn K (.ref f7) = true)
    (a8 : PySem.W.nsIn K mainGlobals "is_number_to" = some (some (.ref f8)))
    (l8 : K.lookup f8 = some ⟨oc8, od8, .func (PySem.W.fnOf "is_number_to" "is_number_to" (defArgs s_is_number_to) (defBody s_is_number_to) (defScope s_is_number_to) .none kV8 dc8 pm8 an8 cd8 ct8), sl8⟩)
    (c8 : PySem.W.codeIn K cd8 "is_number_to" = true) (k8 : PySem.W.keepIn K (.ref f8) = true)
    (a9 : PySem.W.nsIn K mainGlobals "are_successors" = some (some (.ref f9)))
    (l9 : K.lookup f9 = some ⟨oc9, od9, .func (PySem.W.fnOf "are_successors" "are_successors" (defArgs s_are_successors) (defBody s_are_successors) (defScope s_are_successors) .none kV9 dc9 pm9 an9 cd9 ct9), sl9⟩)
    (c9 : PySem.W.codeIn K cd9 "are_successors" = true) (k9 : PySem.W.keepIn K (.ref f9) = true)
    (a10 : PySem.W.nsIn K mainGlobals "winner_of" = some (some (.ref f10)))
    (l10 : K.lookup f10 = some ⟨oc10, od10, .func (PySem.W.fnOf "winner_of" "winner_of" (defArgs s_winner_of) (defBody s_winner_of) (defScope s_winner_of) .none kV10 dc10 pm10 an10 cd10 ct10), sl10⟩)
    (c10 : PySem.W.codeIn K cd10 "winner_of" = true) (k10 : PySem.W.keepIn K (.ref f10) = true)
    (a11 : PySem.W.nsIn K mainGlobals "check_walk" = some (some (.ref f11)))
    (l11 : K.lookup f11 = some ⟨oc11, od11, .func (PySem.W.fnOf "check_walk" "check_walk" (defArgs s_check_walk) (defBody s_check_walk) (defScope s_check_walk) .none kV11 dc11 pm11 an11 cd11 ct11), sl11⟩)
    (c11 : PySem.W.codeIn K cd11 "check_walk" = true) (k11 : PySem.W.keepIn K (.ref f11) = true)
    (a12 : PySem.W.nsIn K mainGlobals "_law_whole" = some (some (.ref f12)))
    (l12 : K.lookup f12 = some ⟨oc12, od12, .func (PySem.W.fnOf "_law_whole" "_law_whole" (defArgs s__law_whole) (defBody s__law_whole) (defScope s__law_whole) .none kV12 dc12 pm12 an12 cd12 ct12), sl12⟩)
    (c12 : PySem.W.codeIn K cd12 "_law_whole" = true) (k12 : PySem.W.keepIn K (.ref f12) = true)
    (a13 : PySem.W.nsIn K mainGlobals "_law_cell" = some (some (.ref f13)))
    (l13 : K.lookup f13 = some ⟨oc13, od13, .func (PySem.W.fnOf "_law_cell" "_law_cell" (defArgs s__law_cell) (defBody s__law_cell) (defScope s__law_cell) .none kV13 dc13 pm13 an13 cd13 ct13), sl13⟩)
    (c13 : PySem.W.codeIn K cd13 "_law_cell" = true) (k13 : PySem.W.keepIn K (.ref f13) = true)
    (a14 : PySem.W.nsIn K mainGlobals "_law_digits" = some (some (.ref f14)))
    (l14 : K.lookup f14 = some ⟨oc14, od14, .func (PySem.W.fnOf "_law_digits" "_law_digits" (defArgs s__law_digits) (defBody s__law_digits) (defScope s__law_digits) .none kV14 dc14 pm14 an14 cd14 ct14), sl14⟩)
    (c14 : PySem.W.codeIn K cd14 "_law_digits" = true) (k14 : PySem.W.keepIn K (.ref f14) = true)
    (a15 : PySem.W.nsIn K mainGlobals "_law_graph" = some (some (.ref f15)))
    (l15 : K.lookup f15 = some ⟨oc15, od15, .func (PySem.W.fnOf "_law_graph" "_law_graph" (defArgs s__law_graph) (defBody s__law_graph) (defScope s__law_graph) .none kV15 dc15 pm15 an15 cd15 ct15), sl15⟩)
    (c15 : PySem.W.codeIn K cd15 "_law_graph" = true) (k15 : PySem.W.keepIn K (.ref f15) = true)
    (a16 : PySem.W.nsIn K mainGlobals "_law_same" = some (some (.ref f16)))
    (l16 : K.lookup f16 = some ⟨oc16, od16, .func (PySem.W.fnOf "_law_same" "_law_same" (defArgs s__law_same) (defBody s__law_same) (defScope s__law_same) .none kV16 dc16 pm16 an16 cd16 ct16), sl16⟩)
    (c16 : PySem.W.codeIn K cd16 "_law_same" = true) (k16 : PySem.W.keepIn K (.ref f16) = true)
    (a17 : PySem.W.nsIn K mainGlobals "_law_reads" = some (some (.ref f17)))
    (l17 : K.lookup f17 = some ⟨oc17, od17, .func (PySem.W.fnOf "_law_reads" "_law_reads" (defArgs s__law_reads) (defBody s__law_reads) (defScope s__law_reads) .none kV17 dc17 pm17 an17 cd17 ct17), sl17⟩)
    (c17 : PySem.W.codeIn K cd17 "_law_reads" = true) (k17 : PySem.W.keepIn K (.ref f17) = true)
    (a18 : PySem.W.nsIn K mainGlobals "_law_part" = some (some (.ref f18)))
    (l18 : K.lookup f18 = some ⟨oc18, od18, .func (PySem.W.fnOf "_law_part" "_law_part" (defArgs s__law_part) (defBody s__law_part) (defScope s__law_part) .none kV18 dc18 pm18 an18 cd18 ct18), sl18⟩)
    (c18 : PySem.W.codeIn K cd18 "_law_part" = true) (k18 : PySem.W.keepIn K (.ref f18) = true)
    (a19 : PySem.W.nsIn K mainGlobals "_law_chosen" = some (some (.ref f19)))
    (l19 : K.lookup f19 = some ⟨oc19, od19, .func (PySem.W.fnOf "_law_chosen" "_law_chosen" (defArgs s__law_chosen) (defBody s__law_chosen) (defScope s__law_chosen) .none kV19 dc19 pm19 an19 cd19 ct19), sl19⟩)
    (c19 : PySem.W.codeIn K cd19 "_law_chosen" = true) (k19 : PySem.W.keepIn K (.ref f19) = true)
    (a20 : PySem.W.nsIn K mainGlobals "_law_right" = some (some (.ref f20)))
    (l20 : K.lookup f20 = some ⟨oc20, od20, .func (PySem.W.fnOf "_law_right" "_law_right" (defArgs s__law_right) (defBody s__law_right) (defScope s__law_right) .none kV20 dc20 pm20 an20 cd20 ct20), sl20⟩)
    (c20 : PySem.W.codeIn K cd20 "_law_right" = true) (k20 : PySem.W.keepIn K (.ref f20) = true)
    (a21 : PySem.W.nsIn K mainGlobals "_law_walk" = some (some (.ref f21)))
    (l21 : K.lookup f21 = some ⟨oc21, od21, .func (PySem.W.fnOf "_law_walk" "_law_walk" (defArgs s__law_walk) (defBody s__law_walk) (defScope s__law_walk) .none kV21 dc21 pm21 an21 cd21 ct21), sl21⟩)
    (c21 : PySem.W.codeIn K cd21 "_law_walk" = true) (k21 : PySem.W.keepIn K (.ref f21) = true)
    (a22 : PySem.W.nsIn K mainGlobals "law" = some (some (.ref f22)))
    (l22 : K.lookup f22 = some ⟨oc22, od22, .func (PySem.W.fnOf "law" "law" (defArgs s_law) (defBody s_law) (defScope s_law) .none kV22 dc22 pm22 an22 cd22 ct22), sl22⟩)
    (c22 : PySem.W.codeIn K cd22 "law" = true) (k22 : PySem.W.keepIn K (.ref f22) = true)
    (aC_Game : PySem.W.nsIn K mainGlobals "Game" = some (some (.ref C_Game)))
    (pg_Game : PySem.W.plainGet K C_Game Str.empty = true) (hd_Game : PySem.W.hasDictIn K C_Game = true) (po_Game : PySem.W.plainOver K C_Game = true) (sa_Game : PySem.W.findIn K (.ref C_Game) "__setattr__" = some (some (.builtin "object.__setattr__"))) (mk_Game : PySem.W.makesIn K C_Game = true) (kc_Game : PySem.W.keepIn K (.ref C_Game) = true)
    (n_Game_owners : PySem.W.findIn K (.ref C_Game) "owners" = some none)
    (n_Game_priorities : PySem.W.findIn K (.ref C_Game) "priorities" = some none)
    (n_Game_successors : PySem.W.findIn K (.ref C_Game) "successors" = some none)
    (n_Game_top : PySem.W.findIn K (.ref C_Game) "top" = some none)
    (n_Game_height : PySem.W.findIn K (.ref C_Game) "height" = some none)
    (n_Game_ceiling : PySem.W.findIn K (.ref C_Game) "ceiling" = some none)
    (g_GREATEST_PRIORITY : PySem.W.nsIn K mainGlobals "GREATEST_PRIORITY" = some (some (.int 30 tk_GREATEST_PRIORITY)))
    (aC_NotAPlay : PySem.W.nsIn K mainGlobals "NotAPlay" = some (some (.ref C_NotAPlay)))
    (aC_DeadEnd : PySem.W.nsIn K mainGlobals "DeadEnd" = some (some (.ref C_DeadEnd)))
    (aC_TreesError : PySem.W.nsIn K mainGlobals "TreesError" = some (some (.ref C_TreesError)))
    (aC_BadVertex : PySem.W.nsIn K mainGlobals "BadVertex" = some (some (.ref C_BadVertex)))
    (aC_PlanGap : PySem.W.nsIn K mainGlobals "PlanGap" = some (some (.ref C_PlanGap)))
    (aC_BadLine : PySem.W.nsIn K mainGlobals "BadLine" = some (some (.ref C_BadLine)))
    (spN : PySem.W.specialIn K (.builtin "object.__class__") "__get__" = some (some (.builtin "getset_descriptor.__get__")))
    (tkN : PySem.W.takesIn K (.builtin "object.__class__") = some true)
    (xN1 : K.lookup C_NotAPlay = some (excClassObj nmN1 qN1 C_NotAPlay NN1 bsN1 [.ref C_TreesError, .type "ValueError", .type "Exception", .type "BaseException", .type "object"] true snN1 subN1 abN1 colN1 ddN1 w01 w11 w21 w31 w51 "ValueError.__new__"))
    (saN1 : PySem.W.findIn K (.ref C_NotAPlay) "__setattr__" = some (some (.builtin "object.__setattr__")))
    (gaN1 : PySem.W.findIn K (.ref C_NotAPlay) "__getattribute__" = some (some (.builtin "BaseException.__getattribute__")))
    (ggN1 : PySem.W.findIn K (.ref C_NotAPlay) "__getattr__" = some none)
    (nbN1 : PySem.W.findIn K (.ref C_NotAPlay) "index" = some none)
    (iCN1 : PySem.W.findIn K (.ref C_NotAPlay) "__init__" = some (some (.ref fI1)))
    (tCN1 : PySem.W.typeIn K (.ref fI1) = some (.type "function"))
    (lI1 : K.lookup fI1 = some ⟨ocI1, odI1, .func (PySem.W.fnOf "__init__" "NotAPlay.__init__" (PySem.NotAPlayX.iA pp11 pp21) (PySem.NotAPlayX.iB qq11 qq21 qq31 qq41) PySem.NotAPlayX.iS .none .none dcI1 pmI1 anI1 cdI1 ctI1), slI1⟩)
    (cI1 : PySem.W.codeIn K cdI1 "NotAPlay.__init__" = true)
    (kCN1 : PySem.W.keepIn K (.ref C_NotAPlay) = true)
    (eCN1 : PySem.W.subIn K (.ref C_NotAPlay) (.type "BaseException") = some true)
    (tyN1 : PySem.W.typeIn K (.ref C_NotAPlay) = some (.type "type"))
    (hdN1 : PySem.W.hasDictIn K C_NotAPlay = true)
    (caN1 : PySem.W.findIn K (.ref C_NotAPlay) "__class__" = some (some (.builtin "object.__class__")))
    (moN1 : PySem.W.mroIn K C_NotAPlay (.type "object") = some true)
    (xN2 : K.lookup C_DeadEnd = some (excClassObj nmN2 qN2 C_DeadEnd NN2 bsN2 [.ref C_TreesError, .type "ValueError", .type "Exception", .type "BaseException", .type "object"] true snN2 subN2 abN2 colN2 ddN2 w02 w12 w22 w32 w52 "ValueError.__new__"))
    (saN2 : PySem.W.findIn K (.ref C_DeadEnd) "__setattr__" = some (some (.builtin "object.__setattr__")))
    (gaN2 : PySem.W.findIn K (.ref C_DeadEnd) "__getattribute__" = some (some (.builtin "BaseException.__getattribute__")))
    (ggN2 : PySem.W.findIn K (.ref C_DeadEnd) "__getattr__" = some none)
    (nbN2 : PySem.W.findIn K (.ref C_DeadEnd) "vertex" = some none)
    (iCN2 : PySem.W.findIn K (.ref C_DeadEnd) "__init__" = some (some (.ref fI2)))
    (tCN2 : PySem.W.typeIn K (.ref fI2) = some (.type "function"))
    (lI2 : K.lookup fI2 = some ⟨ocI2, odI2, .func (PySem.W.fnOf "__init__" "DeadEnd.__init__" (PySem.DeadEndX.iA pp12 pp22) (PySem.DeadEndX.iB qq12 qq22 qq32 qq42) PySem.DeadEndX.iS .none .none dcI2 pmI2 anI2 cdI2 ctI2), slI2⟩)
    (cI2 : PySem.W.codeIn K cdI2 "DeadEnd.__init__" = true)
    (kCN2 : PySem.W.keepIn K (.ref C_DeadEnd) = true)
    (eCN2 : PySem.W.subIn K (.ref C_DeadEnd) (.type "BaseException") = some true)
    (tyN2 : PySem.W.typeIn K (.ref C_DeadEnd) = some (.type "type"))
    (hdN2 : PySem.W.hasDictIn K C_DeadEnd = true)
    (caN2 : PySem.W.findIn K (.ref C_DeadEnd) "__class__" = some (some (.builtin "object.__class__")))
    (moN2 : PySem.W.mroIn K C_DeadEnd (.type "object") = some true)
    (icN : PySem.W.isClsIn K C_DeadEnd = true)
    (ssN : PySem.W.subIn K (.ref C_DeadEnd) (.ref C_DeadEnd) = some true)
    (bT : PySem.W.subIn K (.ref C_TreesError) (.type "BaseException") = some true)
    (icT : PySem.W.isClsIn K C_TreesError = true)
    (tyT : PySem.W.typeIn K (.ref C_TreesError) = some (.type "type"))
    (ssT : PySem.W.subIn K (.ref C_DeadEnd) (.ref C_TreesError) = some true)
    (kiD : PySem.W.kitOne K (.ref C_DeadEnd) (.ref C_DeadEnd) = some true)
    (kiT : PySem.W.kitOne K (.ref C_DeadEnd) (.ref C_TreesError) = some true)
    (kiV : PySem.W.kitOne K (.ref C_DeadEnd) (.ref C_BadVertex) = some false)
    (kiN : PySem.W.kitOne K (.ref C_DeadEnd) (.ref C_NotAPlay) = some false)
    (kiP : PySem.W.kitOne K (.ref C_DeadEnd) (.ref C_PlanGap) = some false)
    (kiL : PySem.W.kitOne K (.ref C_DeadEnd) (.ref C_BadLine) = some false)
    (kiE : PySem.W.kitOne K (.ref C_DeadEnd) (.type "ValueError") = some true)
    (gKi : PySem.W.kitOne K (.ref C_Game) (.ref C_Game) = some true)
    (gCa : PySem.W.findIn K (.ref C_Game) "__class__" = some (some (.builtin "object.__class__")))
    (gMo : PySem.W.mroIn K C_Game (.type "object") = some true)
    (z1 : PySem.W.nsIn K mainGlobals "len" = some none)
    (z2 : PySem.W.nsIn K mainGlobals "isinstance" = some none)
    (z3 : PySem.W.nsIn K mainGlobals "int" = some none)
    (z4 : PySem.W.nsIn K mainGlobals "bool" = some none)
    (z5 : PySem.W.nsIn K mainGlobals "range" = some none)
    (z6 : PySem.W.nsIn K mainGlobals "tuple" = some none)
    (z7 : PySem.W.nsIn K mainGlobals "list" = some none)
    (z8 : PySem.W.nsIn K mainGlobals "max" = some none)
    (z9 : PySem.W.nsIn K mainGlobals "min" = some none)
    (z10 : PySem.W.nsIn K mainGlobals "sorted" = some none)
    (z11 : PySem.W.nsIn K mainGlobals "enumerate" = some none)
    (z12 : PySem.W.nsIn K mainGlobals "set" = some none)
    (z13 : PySem.W.nsIn K mainGlobals "ValueError" = some none) :
    ∃ fd : FuncData, (∀ (s : Shared) (v : Value), BindsTo s fd ⟨[v], []⟩ [("script", v)]) ∧ ∀ base : Heap, K.In base → base.Ns mainGlobals mg → FnOk l.prog w K mg base CX0 8 fa fd ["script"] (spLaw K) := by
  have e := hfa.symm.trans (PySem.W.mg_of X G a22)
  cases e
  have F1 := fun_mk (st := s_as_tuples) l1 c1 k1
  have b1 : Binds K _ ["value"] [] := F1.binds (ps := ["value"]) fun _ _ _ _ _ _ us hl => match us, hl with | [_], _ => rfl
  have m1 := PySem.W.mg_of X G a1
  have F2 := fun_mk (st := s_is_whole) l2 c2 k2
  have b2 : Binds K _ ["value"] [] := F2.binds (ps := ["value"]) fun _ _ _ _ _ _ us hl => match us, hl with | [_], _ => rfl
  have m2 := PySem.W.mg_of X G a2
  have F3 := fun_mk (st := s_Game___init__) l3 c3 k3
  have b3 : Binds K _ ["self", "owners", "priorities", "successors"] [] := F3.binds (ps := ["self", "owners", "priorities", "successors"]) fun _ _ _ _ _ _ us hl => match us, hl with | [_, _, _, _], _ => rfl
  have F4 := fun_mk (st := s_Game___len__) l4 c4 k4
  have b4 : Binds K _ ["self"] [] := F4.binds (ps := ["self"]) fun _ _ _ _ _ _ us hl => match us, hl with | [_], _ => rfl
  have F5 := fun_mk (st := s_Game___eq__) l5 c5 k5
  have b5 : Binds K _ ["self", "other"] [] := F5.binds (ps := ["self", "other"]) fun _ _ _ _ _ _ us hl => match us, hl with | [_, _], _ => rfl
  have F6 := fun_mk (st := s_Game_turned) l6 c6 k6
  have b6 : Binds K _ ["self"] [] := F6.binds (ps := ["self"]) fun _ _ _ _ _ _ us hl => match us, hl with | [_], _ => rfl
  have F7 := fun_mk (st := s_Game_restricted) l7 c7 k7
  have b7 : Binds K _ ["self", "vertices"] [] := F7.binds (ps := ["self", "vertices"]) fun _ _ _ _ _ _ us hl => match us, hl with | [_, _], _ => rfl
  have F8 := fun_mk (st := s_is_number_to) l8 c8 k8
  have b8 : Binds K _ ["value", "most"] [] := F8.binds (ps := ["value", "most"]) fun _ _ _ _ _ _ us hl => match us, hl with | [_, _], _ => rfl
  have m8 := PySem.W.mg_of X G a8
  have F9 := fun_mk (st := s_are_successors) l9 c9 k9
  have b9 : Binds K _ ["value", "count"] [] := F9.binds (ps := ["value", "count"]) fun _ _ _ _ _ _ us hl => match us, hl with | [_, _], _ => rfl
  have m9 := PySem.W.mg_of X G a9
  have F10 := fun_mk (st := s_winner_of) l10 c10 k10
  have b10 : Binds K _ ["game", "lead", "ring"] [] := F10.binds (ps := ["game", "lead", "ring"]) fun _ _ _ _ _ _ us hl => match us, hl with | [_, _, _], _ => rfl
  have m10 := PySem.W.mg_of X G a10
  have F11 := fun_mk (st := s_check_walk) l11 c11 k11
  have b11 : Binds K _ ["game", "walk", "steps"] [] := F11.binds (ps := ["game", "walk", "steps"]) fun _ _ _ _ _ _ us hl => match us, hl with | [_, _, _], _ => rfl
  have m11 := PySem.W.mg_of X G a11
  have F12 := fun_mk (st := s__law_whole) l12 c12 k12
  have b12 : Binds K _ ["value"] [] := F12.binds (ps := ["value"]) fun _ _ _ _ _ _ us hl => match us, hl with | [_], _ => rfl
  have m12 := PySem.W.mg_of X G a12
  have F13 := fun_mk (st := s__law_cell) l13 c13 k13
  have b13 : Binds K _ ["script", "k"] [] := F13.binds (ps := ["script", "k"]) fun _ _ _ _ _ _ us hl => match us, hl with | [_, _], _ => rfl
  have m13 := PySem.W.mg_of X G a13
  have F14 := fun_mk (st := s__law_digits) l14 c14 k14
  have b14 : Binds K _ ["cell", "sizes"] [] := F14.binds (ps := ["cell", "sizes"]) fun _ _ _ _ _ _ us hl => match us, hl with | [_, _], _ => rfl
  have m14 := PySem.W.mg_of X G a14
  have F15 := fun_mk (st := s__law_graph) l15 c15 k15
  have b15 : Binds K _ ["script", "at", "count", "top"] [] := F15.binds (ps := ["script", "at", "count", "top"]) fun _ _ _ _ _ _ us hl => match us, hl with | [_, _, _, _], _ => rfl
  have m15 := PySem.W.mg_of X G a15
  have F16 := fun_mk (st := s__law_same) l16 c16 k16
  have b16 : Binds K _ ["told", "due"] [] := F16.binds (ps := ["told", "due"]) fun _ _ _ _ _ _ us hl => match us, hl with | [_, _], _ => rfl
  have m16 := PySem.W.mg_of X G a16
  have F17 := fun_mk (st := s__law_reads) l17 c17 k17
  have b17 : Binds K _ ["made", "game"] [] := F17.binds (ps := ["made", "game"]) fun _ _ _ _ _ _ us hl => match us, hl with | [_, _], _ => rfl
  have m17 := PySem.W.mg_of X G a17
  have F18 := fun_mk (st := s__law_part) l18 c18 k18
  have b18 : Binds K _ ["game", "chosen"] [] := F18.binds (ps := ["game", "chosen"]) fun _ _ _ _ _ _ us hl => match us, hl with | [_, _], _ => rfl
  have m18 := PySem.W.mg_of X G a18
  have F19 := fun_mk (st := s__law_chosen) l19 c19 k19
  have b19 : Binds K _ ["game", "cell", "prune"] [] := F19.binds (ps := ["game", "cell", "prune"]) fun _ _ _ _ _ _ us hl => match us, hl with | [_, _, _], _ => rfl
  have m19 := PySem.W.mg_of X G a19
  have F20 := fun_mk (st := s__law_right) l20 c20 k20
  have b20 : Binds K _ ["made", "chosen", "due", "shape"] [] := F20.binds (ps := ["made", "chosen", "due", "shape"]) fun _ _ _ _ _ _ us hl => match us, hl with | [_, _, _, _], _ => rfl
  have m20 := PySem.W.mg_of X G a20
  have F21 := fun_mk (st := s__law_walk) l21 c21 k21
  have b21 : Binds K _ ["game", "cell"] [] := F21.binds (ps := ["game", "cell"]) fun _ _ _ _ _ _ us hl => match us, hl with | [_, _], _ => rfl
  have m21 := PySem.W.mg_of X G a21
  have F22 := fun_mk (st := s_law) l22 c22 k22
  have m22 := PySem.W.mg_of X G a22
  have mC_Game := PySem.W.mg_of X G aC_Game
  have mg_GREATEST_PRIORITY := PySem.W.mg_of X G g_GREATEST_PRIORITY
  have M : Blt mg := ⟨PySem.W.mg_none_of X G z1, PySem.W.mg_none_of X G z2, PySem.W.mg_none_of X G z3, PySem.W.mg_none_of X G z4, PySem.W.mg_none_of X G z5, PySem.W.mg_none_of X G z6, PySem.W.mg_none_of X G z7, PySem.W.mg_none_of X G z8, PySem.W.mg_none_of X G z9, PySem.W.mg_none_of X G z10, PySem.W.mg_none_of X G z11, PySem.W.mg_none_of X G z12⟩
  refine ⟨PySem.W.fnOf "law" "law" (defArgs s_law) (defBody s_law) (defScope s_law) .none kV22 dc22 pm22 an22 cd22 ct22, fun s v => .of_eq rfl, fun base _ _ => ?_⟩
  have T : GTxt K mg C_Game := ⟨⟨pg_Game, hd_Game, po_Game, sa_Game⟩, n_Game_owners, n_Game_priorities, n_Game_successors, n_Game_top, n_Game_height, n_Game_ceiling, mC_Game, ⟨_, mg_GREATEST_PRIORITY⟩⟩
  have TN : PySem.NotAPlayX.Txt K mg C_NotAPlay fI1 := { gC := PySem.W.mg_of X G aC_NotAPlay, cls := ⟨nmN1, qN1, NN1, bsN1, _, snN1, subN1, abN1, colN1, ddN1, w01, w11, w21, w31, w51, xN1, rfl⟩, sa := saN1, ga := gaN1, gg := ggN1, noN := nbN1, iC := iCN1, tC := tCN1, kC := kCN1, exC := eCN1, tyC := tyN1, hdC := hdN1, ca := caN1, sp := spN, tk := tkN, mo := moN1, fn := ⟨_, _, _, _, _, _, _, _, _, _, _, _, _, _, lI1, cI1⟩ }
  have TD : PySem.DeadEndX.Txt K mg C_DeadEnd fI2 := { gC := PySem.W.mg_of X G aC_DeadEnd, cls := ⟨nmN2, qN2, NN2, bsN2, _, snN2, subN2, abN2, colN2, ddN2, w02, w12, w22, w32, w52, xN2, rfl⟩, sa := saN2, ga := gaN2, gg := ggN2, noN := nbN2, iC := iCN2, tC := tCN2, kC := kCN2, exC := eCN2, tyC := tyN2, hdC := hdN2, ca := caN2, sp := spN, tk := tkN, mo := moN2, fn := ⟨_, _, _, _, _, _, _, _, _, _, _, _, _, _, lI2, cI2⟩ }
  have GI : GIs K C_Game := ⟨gCa, spN, tkN, gMo, gKi⟩
  have ER : Errs K mg C_DeadEnd := ⟨C_TreesError, C_BadVertex, C_NotAPlay, C_PlanGap, C_BadLine, PySem.W.mg_of X G aC_TreesError, PySem.W.mg_of X G aC_BadVertex, PySem.W.mg_of X G aC_NotAPlay, PySem.W.mg_of X G aC_PlanGap, PySem.W.mg_of X G aC_BadLine, PySem.W.mg_none_of X G z13, exm_up bT icT tyT ssT, exm_up eCN2 icN tyN2 ssN, kiD, kiT, kiE, kiV, kiN, kiP, kiL⟩
  have Kwhole : Kn l.prog w K mg base 1 "is_whole" ["value"] spWhole := ⟨_, _, ok_whole M F2, b2, k2, m2⟩
  have Klwhole : Kn l.prog w K mg base 1 "_law_whole" ["value"] spWhole := ⟨_, _, ok_lwhole M F12, b12, k12, m12⟩
  have KlwholeH : KnH l.prog w K mg base 1 "_law_whole" ["value"] spWholeH := ⟨_, _, ok_lwholeH M F12, b12, k12, m12⟩
  have Kcell : Kn l.prog w K mg base 1 "_law_cell" ["script", "k"] (spCell K) := ⟨_, _, ok_cell M F13, b13, k13, m13⟩
  have Kdig : Kn l.prog w K mg base 1 "_law_digits" ["cell", "sizes"] (spDigits K) := ⟨_, _, ok_digits M F14, b14, k14, m14⟩
  have Knum : Kn l.prog w K mg base 2 "is_number_to" ["value", "most"] spNumTo := ⟨_, _, ok_numto M F8 Kwhole, b8, k8, m8⟩
  have Ksucc : Kn l.prog w K mg base 2 "are_successors" ["value", "count"] spSucc := ⟨_, _, ok_succ M F9 Kwhole, b9, k9, m9⟩
  have KsuccT : Kn l.prog w K mg base 2 "are_successors" ["value", "count"] spSuccT := ⟨_, _, ok_succT M F9 Kwhole, b9, k9, m9⟩
  have Kas0 : Kn l.prog w K mg base 1 "as_tuples" ["value"] spAs0 := ⟨_, _, ok_as0 M F1 b1 m1, b1, k1, m1⟩
  have Kas1 : Kn l.prog w K mg base 2 "as_tuples" ["value"] spAs1 := ⟨_, _, ok_as1 M F1 Kas0, b1, k1, m1⟩
  have Kas2 : Kn l.prog w K mg base 3 "as_tuples" ["value"] spAs2 := ⟨_, _, ok_as2 M F1 Kas1, b1, k1, m1⟩
  have Kas1T : Kn l.prog w K mg base 2 "as_tuples" ["value"] spAs1T := ⟨_, _, ok_as1T M F1 Kas0, b1, k1, m1⟩
  have Kas2T : Kn l.prog w K mg base 3 "as_tuples" ["value"] spAs2T := ⟨_, _, ok_as2T M F1 Kas1T, b1, k1, m1⟩
  have GG : KG l.prog w K mg base C_Game := ⟨_, _, ⟨mk_Game, a3, i3, kc_Game⟩, ok_init M T F3 Knum Ksucc Kas2, b3⟩
  have GGT : KGT l.prog w K mg base C_Game := ⟨_, _, ⟨mk_Game, a3, i3, kc_Game⟩, ok_initT M T F3 Knum KsuccT Kas2T, b3⟩
  have GL : KL l.prog w K mg base C_Game := ⟨_, _, ok_lenG M T F4, b4, a4, i4⟩
  have Ge : KM l.prog w K mg base C_Game 1 "__eq__" ["self", "other"] CX0 (spEqG C_Game) := ⟨_, _, ok_eqG M T F5 GI, b5, ⟨a5, i5, k5⟩⟩
  have Gt : KM l.prog w K mg base C_Game 6 "turned" ["self"] CX0 (spTurned C_Game) := ⟨_, _, ok_turned M T F6 GGT, b6, ⟨a6, i6, k6⟩⟩
  have Gr : KM l.prog w K mg base C_Game 6 "restricted" ["self", "vertices"] (L2N.CX l.prog w) (spRestr C_Game C_DeadEnd) := ⟨_, _, ok_restr M T TD F7 GG, b7, ⟨a7, i7, k7⟩⟩
  have Kgraph : Kn l.prog w K mg base 2 "_law_graph" ["script", "at", "count", "top"] (spGraph K) := ⟨_, _, ok_graph M F15 Kcell Kdig, b15, k15, m15⟩
  have Ksame : Kn l.prog w K mg base 5 "_law_same" ["told", "due"] (spSameD 3) := ⟨_, _, ok_sameD M F16 b16 m16 Klwhole 3, b16, k16, m16⟩
  have Kreads : Kn l.prog w K mg base 6 "_law_reads" ["made", "game"] (spReads C_Game) := ⟨_, _, ok_reads M T F17 GI GL Ksame, b17, k17, m17⟩
  have Kpart : Kn l.prog w K mg base 1 "_law_part" ["game", "chosen"] spPart := ⟨_, _, ok_part M F18, b18, k18, m18⟩
  have Kchosen : Kn l.prog w K mg base 2 "_law_chosen" ["game", "cell", "prune"] spChosen := ⟨_, _, ok_chosen M F19 Kdig, b19, k19, m19⟩
  have Kwalk : Kn l.prog w K mg base 2 "_law_walk" ["game", "cell"] spWalk := ⟨_, _, ok_walk M F21 Kdig, b21, k21, m21⟩
  have Kck : KnE l.prog w K mg base 3 "check_walk" ["game", "walk", "steps"] (spCheck K C_Game C_NotAPlay) := ⟨_, _, ok_check M T TN F11 GL, b11, k11, m11⟩
  have Kwin : KnX l.prog w K mg base 4 "winner_of" ["game", "lead", "ring"] (spWin C_Game C_NotAPlay) := ⟨_, _, ok_win M T TN F10 Kck, b10, k10, m10⟩
  have Kright : Kn l.prog w K mg base 7 "_law_right" ["made", "chosen", "due", "shape"] (spRight C_Game) := ⟨_, _, ok_right M T TD F20 ER GG Gr Ge Kreads KlwholeH, b20, k20, m20⟩
  exact ok_law M T TD TN F22 GG Gr Ge Gt Kcell Kdig Kgraph Kwalk Kchosen (kn_imp Kpart partU) Kreads Klwhole Kwin Kright
end GM
open PySem PySem.W PyProof.Rows
set_option maxRecDepth 100000 in
set_option pp.maxSteps 100 in
set_option maxHeartbeats 0 in
theorem PySem.Challenge.cw_holdsalltrees_k31_turned_and_restricted_holds : PySem.Challenge.rw_holdsalltrees_k31_turned_and_restricted.Holds := by
  w_on; o_law; k_head; (case hw => w_witness2)
  k_fill
  refine L2.walk_of (l := PySem.Challenge.rw_holdsalltrees_k31_turned_and_restricted) (n := 63) (k := 8) (x := "script") (CX := fun _ => L2.CX0) (sp := fun w => GM.spLaw _) rfl (by decide) rfl ⟨rfl, by decide, by decide⟩ (fun w h Y => PySem.W.kIn_of Y) ?F (fun _ _ a ns hl _ hS => ⟨a, ns, rfl, hS, hl, fun _ => rfl⟩) (fun _ _ _ _ _ h => h)
  case F =>
    intro w mg fa h KX G hmg
    refine' GM.all_mk KX G hmg ?a1 ?l1 ?c1 ?k1 ?a2 ?l2 ?c2 ?k2 ?a3 ?i3 ?l3 ?c3 ?k3 ?a4 ?i4 ?l4 ?c4 ?k4 ?a5 ?i5 ?l5 ?c5 ?k5 ?a6 ?i6 ?l6 ?c6 ?k6 ?a7 ?i7 ?l7 ?c7 ?k7 ?a8 ?l8 ?c8 ?k8 ?a9 ?l9 ?c9 ?k9 ?a10 ?l10 ?c10 ?k10 ?a11 ?l11 ?c11 ?k11 ?a12 ?l12 ?c12 ?k12 ?a13 ?l13 ?c13 ?k13 ?a14 ?l14 ?c14 ?k14 ?a15 ?l15 ?c15 ?k15 ?a16 ?l16 ?c16 ?k16 ?a17 ?l17 ?c17 ?k17 ?a18 ?l18 ?c18 ?k18 ?a19 ?l19 ?c19 ?k19 ?a20 ?l20 ?c20 ?k20 ?a21 ?l21 ?c21 ?k21 ?a22 ?l22 ?c22 ?k22 ?aC_Game ?pg_Game ?hd_Game ?po_Game ?sa_Game ?mk_Game ?kc_Game ?n_Game_owners ?n_Game_priorities ?n_Game_successors ?n_Game_top ?n_Game_height ?n_Game_ceiling ?g_GREATEST_PRIORITY ?aC_NotAPlay ?aC_DeadEnd ?aC_TreesError ?aC_BadVertex ?aC_PlanGap ?aC_BadLine ?spN ?tkN ?xN1 ?saN1 ?gaN1 ?ggN1 ?nbN1 ?iCN1 ?tCN1 ?lI1 ?cI1 ?kCN1 ?eCN1 ?tyN1 ?hdN1 ?caN1 ?moN1 ?xN2 ?saN2 ?gaN2 ?ggN2 ?nbN2 ?iCN2 ?tCN2 ?lI2 ?cI2 ?kCN2 ?eCN2 ?tyN2 ?hdN2 ?caN2 ?moN2 ?icN ?ssN ?bT ?icT ?tyT ?ssT ?kiD ?kiT ?kiV ?kiN ?kiP ?kiL ?kiE ?gKi ?gCa ?gMo ?z1 ?z2 ?z3 ?z4 ?z5 ?z6 ?z7 ?z8 ?z9 ?z10 ?z11 ?z12 ?z13
    (case aC_Game => k_is)
    (case aC_NotAPlay => k_is)
    (case aC_DeadEnd => k_is)
    (case aC_TreesError => k_is)
    (case aC_BadVertex => k_is)
    (case aC_PlanGap => k_is)
    (case aC_BadLine => k_is)
    (case a1 => k_is)
    (case l1 => k_is)
    (case c1 => k_is)
    (case k1 => k_is)
    (case a2 => k_is)
    (case l2 => k_is)
    (case c2 => k_is)
    (case k2 => k_is)
    (case a3 => k_is)
    (case i3 => k_is)
    (case l3 => k_is)
    (case c3 => k_is)
    (case k3 => k_is)
    (case a4 => k_is)
    (case i4 => k_is)
    (case l4 => k_is)
    (case c4 => k_is)
    (case k4 => k_is)
    (case a5 => k_is)
    (case i5 => k_is)
    (case l5 => k_is)
    (case c5 => k_is)
    (case k5 => k_is)
    (case a6 => k_is)
    (case i6 => k_is)
    (case l6 => k_is)
    (case c6 => k_is)
    (case k6 => k_is)
    (case a7 => k_is)
    (case i7 => k_is)
    (case l7 => k_is)
    (case c7 => k_is)
    (case k7 => k_is)
    (case a8 => k_is)
    (case l8 => k_is)
    (case c8 => k_is)
    (case k8 => k_is)
    (case a9 => k_is)
    (case l9 => k_is)
    (case c9 => k_is)
    (case k9 => k_is)
    (case a10 => k_is)
    (case l10 => k_is)
    (case c10 => k_is)
    (case k10 => k_is)
    (case a11 => k_is)
    (case l11 => k_is)
    (case c11 => k_is)
    (case k11 => k_is)
    (case a12 => k_is)
    (case l12 => k_is)
    (case c12 => k_is)
    (case k12 => k_is)
    (case a13 => k_is)
    (case l13 => k_is)
    (case c13 => k_is)
    (case k13 => k_is)
    (case a14 => k_is)
    (case l14 => k_is)
    (case c14 => k_is)
    (case k14 => k_is)
    (case a15 => k_is)
    (case l15 => k_is)
    (case c15 => k_is)
    (case k15 => k_is)
    (case a16 => k_is)
    (case l16 => k_is)
    (case c16 => k_is)
    (case k16 => k_is)
    (case a17 => k_is)
    (case l17 => k_is)
    (case c17 => k_is)
    (case k17 => k_is)
    (case a18 => k_is)
    (case l18 => k_is)
    (case c18 => k_is)
    (case k18 => k_is)
    (case a19 => k_is)
    (case l19 => k_is)
    (case c19 => k_is)
    (case k19 => k_is)
    (case a20 => k_is)
    (case l20 => k_is)
    (case c20 => k_is)
    (case k20 => k_is)
    (case a21 => k_is)
    (case l21 => k_is)
    (case c21 => k_is)
    (case k21 => k_is)
    (case a22 => k_is)
    (case l22 => k_is)
    (case c22 => k_is)
    (case k22 => k_is)
    (case pg_Game => k_is)
    (case hd_Game => k_is)
    (case po_Game => k_is)
    (case sa_Game => k_is)
    (case mk_Game => k_is)
    (case kc_Game => k_is)
    (case n_Game_owners => k_is)
    (case n_Game_priorities => k_is)
    (case n_Game_successors => k_is)
    (case n_Game_top => k_is)
    (case n_Game_height => k_is)
    (case n_Game_ceiling => k_is)
    (case g_GREATEST_PRIORITY => k_is)
    (case spN => k_is)
    (case tkN => k_is)
    (case xN1 => k_is)
    (case saN1 => k_is)
    (case gaN1 => k_is)
    (case ggN1 => k_is)
    (case nbN1 => k_is)
    (case iCN1 => k_is)
    (case tCN1 => k_is)
    (case lI1 => k_is)
    (case cI1 => k_is)
    (case kCN1 => k_is)
    (case eCN1 => k_is)
    (case tyN1 => k_is)
    (case hdN1 => k_is)
    (case caN1 => k_is)
    (case moN1 => k_is)
    (case xN2 => k_is)
    (case saN2 => k_is)
    (case gaN2 => k_is)
    (case ggN2 => k_is)
    (case nbN2 => k_is)
    (case iCN2 => k_is)
    (case tCN2 => k_is)
    (case lI2 => k_is)
    (case cI2 => k_is)
    (case kCN2 => k_is)
    (case eCN2 => k_is)
    (case tyN2 => k_is)
    (case hdN2 => k_is)
    (case caN2 => k_is)
    (case moN2 => k_is)
    (case icN => k_is)
    (case ssN => first | rfl | k_is)
    (case bT => k_is)
    (case icT => k_is)
    (case tyT => k_is)
    (case ssT => k_is)
    (case kiD => kit_is)
    (case kiT => kit_is)
    (case kiV => kit_is)
    (case kiN => kit_is)
    (case kiP => kit_is)
    (case kiL => kit_is)
    (case kiE => kit_is)
    (case gKi => kit_is)
    (case gCa => k_is)
    (case gMo => k_is)
    (case z1 => k_is)
    (case z2 => k_is)
    (case z3 => k_is)
    (case z4 => k_is)
    (case z5 => k_is)
    (case z6 => k_is)
    (case z7 => k_is)
    (case z8 => k_is)
    (case z9 => k_is)
    (case z10 => k_is)
    (case z11 => k_is)
    (case z12 => k_is)
    (case z13 => k_is)
