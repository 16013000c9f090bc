/-
  Several texts in one: Layer 6: entries as they come in, in memory, and valid. Conditions: as each theorem states. Layer 6: slices.Delete of any segments of a Wal's, and the first ones. Conditions: the segments are a row of the program's own.
-/
import Derived.Test.YtgmpdifggaggdaaGreatDoorJWalEnt
import Derived.Test.YtgmpdifggaggdaaGreatDoorJWalNm
import Derived.Test.YtgmpdifggaggdaaGreatDoorJWalLog
import Derived.Test.YtgmpdifggaggdaaGreatDoorJWalCutM
namespace Go.Proofs.YtgmpdifggaggdaaGreatDoor.Wl
open Go.RowKit Go.Proofs.YtgmpdifggaggdaaGreatDoor.Fld
set_option linter.unusedVariables false

/-- an entry as it comes in -/
structure XE where
  i : Int
  t : Int
  k : Int
  d : List Int
  A : Option Addr
  cap : Nat
def XE.cells (x : XE) : List Value := [.int .i64 x.i, .int .i64 x.t, .int .i64 x.k, .slice x.A x.d.length x.cap]
def XE.val (x : XE) : Value := .agg #[.int .i64 x.i, .int .i64 x.t, .int .i64 x.k, .slice x.A x.d.length x.cap]
def XE.At (w : World) (x : XE) : Prop := Rd w x.A x.d.length x.d ∧ (x.A = none → x.cap = 0)
theorem XE.At.below {w w' : World} {x : XE} (h : x.At w) (hb : Below w.heap.size w w') : x.At w' := ⟨h.1.below hb, h.2⟩
def okX (x : XE) : Bool := decide (1 ≤ x.i) && decide (x.i ≤ 1099511627776) && decide (0 ≤ x.t) && decide (x.t ≤ 1099511627776) && decide (0 ≤ x.k) && decide (x.k ≤ 7) && decide ((x.d.length : Int) ≤ 4096)
def XE.e (x : XE) : E := ⟨x.i.toNat, x.t.toNat, x.k.toNat, x.d⟩
theorem okX_iff (x : XE) : okX x = true ↔ ((((((1 ≤ x.i ∧ x.i ≤ 1099511627776) ∧ 0 ≤ x.t) ∧ x.t ≤ 1099511627776) ∧ 0 ≤ x.k) ∧ x.k ≤ 7) ∧ (x.d.length : Int) ≤ 4096) := by simp [okX]
theorem XE.e_ok {x : XE} (h : okX x = true) (hb : Bytes x.d) : x.e.Ok := by
  have := (okX_iff x).1 h
  refine ⟨?_, ?_, ?_, ?_, ?_, hb⟩ <;> simp only [XE.e, MI] <;> omega
theorem XE.val_e {x : XE} (h : okX x = true) : x.val = entV x.e x.A x.cap := by
  have := (okX_iff x).1 h
  unfold XE.val entV XE.e
  simp only
  rw [Int.toNat_of_nonneg (by omega), Int.toNat_of_nonneg (by omega), Int.toNat_of_nonneg (by omega)]
def xe0 : XE := ⟨0, 0, 0, [], none, 0⟩
/-- a slice of entries -/
def RdX (w : World) (A : Option Addr) (n : Nat) (l : List XE) : Prop :=
  l.length = n ∧ n ≤ maxLen ∧ (0 < n → ∃ b off, A = some ⟨b, off, none⟩ ∧ ∀ i (h : i < l.length) j, j < 4 → w.cell? ⟨b, off + i * 4 + j, none⟩ = l[i].cells[j]?) ∧ ∀ x ∈ l, x.At w
theorem RdX.at4 {w w' : World} {A : Option Addr} {n : Nat} {l : List XE} (h : RdX w A n l) (hb : Below w.heap.size w w') (k : Nat) (hk : k < l.length) : ∃ b off, A = some ⟨b, off, none⟩ ∧ ∀ j v, j < 4 → l[k].cells[j]? = some v → w'.cell? ⟨b, off + k * 4 + j, none⟩ = some v := by
  obtain ⟨b, off, hA, hc⟩ := h.2.2.1 (by have := h.1; omega)
  refine ⟨b, off, hA, fun j v hj hv => ?_⟩
  have h1 := hc k hk j hj
  rw [hv] at h1
  exact (hb.cell (lt_of_cell h1)).trans h1
theorem RdX.below {w w' : World} {A : Option Addr} {n : Nat} {l : List XE} (h : RdX w A n l) (hb : Below w.heap.size w w') : RdX w' A n l := by
  refine ⟨h.1, h.2.1, fun hn => ?_, fun x hx => (h.2.2.2 x hx).below hb⟩
  obtain ⟨b, off, hA, hc⟩ := h.2.2.1 hn
  refine ⟨b, off, hA, fun i hi j hj => ?_⟩
  have h1 := hc i hi j hj
  have h2 : ∃ v, l[i].cells[j]? = some v := by
    have : j < l[i].cells.length := hj
    exact ⟨_, List.getElem?_eq_getElem this⟩
  obtain ⟨v, hv⟩ := h2
  rw [hv] at h1 ⊢
  exact (hb.cell (lt_of_cell h1)).trans h1
set_option maxRecDepth 100000 in
set_option maxHeartbeats 3200000 in
theorem valid_any (x : XE) (w : World) : Calls Tryz.prog 21 #[x.val] w fun e w' => e = .returned (.bool (okX x)) ∧ Below w.heap.size w w' := by
  have HB := Lib.hid (alloc_below' w (.cells #[.int .i64 x.i, .int .i64 x.t, .int .i64 x.k, .slice x.A x.d.length x.cap] 49))
  have hk := Blk.new w #[.int .i64 x.i, .int .i64 x.t, .int .i64 x.k, .slice x.A x.d.length x.cap] 49
  have c0 := hk.cell 0 _ rfl
  have c1 := hk.cell 1 _ rfl
  have c2 := hk.cell 2 _ rfl
  have c3 := hk.cell 3 _ rfl
  have HF := Lib.hid (okX_iff x)
  unfold XE.val
  clear hk
  by_cases h0 : 1 ≤ x.i
  rotate_left
  · have d0 : decide (1 ≤ x.i) = false := decide_eq_false h0
    have HR := Lib.hid (show okX x = false by cases hq : okX x with | false => rfl | true => exact absurd (HF.out.1 hq) (by omega))
    clear h0
    go_enter Tryz.func21, Tryz.ntmps21
    go_wp2
    go_ret
    exact ⟨by rw [HR.out]; rfl, HB.out⟩
  have d0 : decide (1 ≤ x.i) = true := decide_eq_true h0
  by_cases h1 : x.i ≤ 1099511627776
  rotate_left
  · have d1 : decide (x.i ≤ 1099511627776) = false := decide_eq_false h1
    have HR := Lib.hid (show okX x = false by cases hq : okX x with | false => rfl | true => exact absurd (HF.out.1 hq) (by omega))
    clear h0 h1
    go_enter Tryz.func21, Tryz.ntmps21
    go_wp2
    go_ret
    exact ⟨by rw [HR.out]; rfl, HB.out⟩
  have d1 : decide (x.i ≤ 1099511627776) = true := decide_eq_true h1
  by_cases h2 : 0 ≤ x.t
  rotate_left
  · have d2 : decide (0 ≤ x.t) = false := decide_eq_false h2
    have HR := Lib.hid (show okX x = false by cases hq : okX x with | false => rfl | true => exact absurd (HF.out.1 hq) (by omega))
    clear h0 h1 h2
    go_enter Tryz.func21, Tryz.ntmps21
    go_wp2
    go_ret
    exact ⟨by rw [HR.out]; rfl, HB.out⟩
  have d2 : decide (0 ≤ x.t) = true := decide_eq_true h2
  by_cases h3 : x.t ≤ 1099511627776
  rotate_left
  · have d3 : decide (x.t ≤ 1099511627776) = false := decide_eq_false h3
    have HR := Lib.hid (show okX x = false by cases hq : okX x with | false => rfl | true => exact absurd (HF.out.1 hq) (by omega))
    clear h0 h1 h2 h3
    go_enter Tryz.func21, Tryz.ntmps21
    go_wp2
    go_ret
    exact ⟨by rw [HR.out]; rfl, HB.out⟩
  have d3 : decide (x.t ≤ 1099511627776) = true := decide_eq_true h3
  by_cases h4 : 0 ≤ x.k
  rotate_left
  · have d4 : decide (0 ≤ x.k) = false := decide_eq_false h4
    have HR := Lib.hid (show okX x = false by cases hq : okX x with | false => rfl | true => exact absurd (HF.out.1 hq) (by omega))
    clear h0 h1 h2 h3 h4
    go_enter Tryz.func21, Tryz.ntmps21
    go_wp2
    go_ret
    exact ⟨by rw [HR.out]; rfl, HB.out⟩
  have d4 : decide (0 ≤ x.k) = true := decide_eq_true h4
  by_cases h5 : x.k ≤ 7
  rotate_left
  · have d5 : decide (x.k ≤ 7) = false := decide_eq_false h5
    have HR := Lib.hid (show okX x = false by cases hq : okX x with | false => rfl | true => exact absurd (HF.out.1 hq) (by omega))
    clear h0 h1 h2 h3 h4 h5
    go_enter Tryz.func21, Tryz.ntmps21
    go_wp2
    go_ret
    exact ⟨by rw [HR.out]; rfl, HB.out⟩
  have d5 : decide (x.k ≤ 7) = true := decide_eq_true h5
  by_cases h6 : (x.d.length : Int) ≤ 4096
  rotate_left
  · have d6 : decide ((x.d.length : Int) ≤ 4096) = false := decide_eq_false h6
    have HR := Lib.hid (show okX x = false by cases hq : okX x with | false => rfl | true => exact absurd (HF.out.1 hq) (by omega))
    clear h0 h1 h2 h3 h4 h5 h6
    go_enter Tryz.func21, Tryz.ntmps21
    go_wp2
    go_ret
    exact ⟨by rw [HR.out]; rfl, HB.out⟩
  have d6 : decide ((x.d.length : Int) ≤ 4096) = true := decide_eq_true h6
  · have HR := Lib.hid (show okX x = true from HF.out.2 (by omega))
    clear h0 h1 h2 h3 h4 h5 h6
    go_enter Tryz.func21, Tryz.ntmps21
    go_wp2
    go_ret
    exact ⟨by rw [HR.out]; rfl, HB.out⟩
end Go.Proofs.YtgmpdifggaggdaaGreatDoor.Wl

namespace Go.Proofs.YtgmpdifggaggdaaGreatDoor.Wl
open Go.RowKit Go.Proofs.YtgmpdifggaggdaaGreatDoor.Fld
set_option linter.unusedVariables false

theorem add_atS (b off j : Nat) : Addr.add (⟨b, off, none⟩ : Addr) j = ⟨b, off + j, none⟩ := by
  unfold Addr.add
  split
  · simp_all
  · rfl
theorem zero_seg (w : World) : (zeroValue 69).run Tryz.prog w = .ok (.agg #[.int .i64 0, .int .i64 0, .int .i64 0]) w := by kernel_rfl
theorem rowS_take : ∀ (a : List Sg) (k : Nat), rowS (a.take k) = (rowS a).take (k * 3)
  | [], k => by simp [rowS]
  | x :: a, 0 => by simp [rowS]
  | x :: a, k + 1 => by
    have ih := rowS_take a k
    unfold rowS at *
    rw [List.take_succ_cons, List.flatMap_cons, List.flatMap_cons, ih, List.take_append]
    have : x.cells.length = 3 := rfl
    rw [this, show (k + 1) * 3 - 3 = k * 3 by omega, List.take_of_length_le (l := x.cells) (by rw [this]; omega)]
theorem rowS_drop (a : List Sg) (k : Nat) : rowS (a.drop k) = (rowS a).drop (k * 3) := by
  rcases Nat.lt_or_ge a.length k with h | h
  · rw [List.drop_eq_nil_of_le (by omega), List.drop_eq_nil_of_le (by rw [rowS_len]; omega)]; rfl
  · have h1 : rowS a = rowS (a.take k) ++ rowS (a.drop k) := by rw [← rowS_append, List.take_append_drop]
    have h2 : (rowS (a.take k)).length = k * 3 := by rw [rowS_len, List.length_take, Nat.min_eq_left h]
    rw [h1, ← h2, List.drop_left]
theorem rowS_one (a : List Sg) : ∀ u ∈ rowS a, u.oneCell' = true := by
  intro u hu
  unfold rowS at hu
  obtain ⟨x, _, hx⟩ := List.mem_flatMap.1 hu
  simp only [Sg.cells, List.mem_cons, List.not_mem_nil, or_false] at hx
  rcases hx with rfl | rfl | rfl <;> rfl
/-- what the move and the clearing leave of a row: m entries from place i on, then zeros behind q = i + m -/
theorem delS_end (g n cap i m lo : Nat) (xs : List Sg) (news zs : List Value) (w wq : World) (cur : Array Value) (hcur : Blk wq g cur 69) (hg : lo ≤ g) (hnc : n ≤ cap) (hcm : cap ≤ maxLen) (hcs : cur.size = cap * 3) (hcu : cur.toList.take (n * 3) = rowS xs) (hl : xs.length = n) (j : Nat) (hij : i + m ≤ n) (hj : j + m = n) (hnews : news = (rowS xs).drop (j * 3)) (hzl : zs.length = 3 * (n - (i + m))) (hfr : Dk.Fr [g] w wq) :
    ((wq.setCells g (0 + i * 3) news).setCells g (0 + (i + m) * 3) zs).ownsRow lo 69 3 (.slice (some ⟨g, 0, none⟩) (i + m) cap) (i + m) (rowS (xs.take i ++ xs.drop j)) ∧ Dk.Fr [g] w ((wq.setCells g (0 + i * 3) news).setCells g (0 + (i + m) * 3) zs) := by
  have hnl : news.length = m * 3 := by rw [hnews, List.length_drop, rowS_len]; omega
  rw [Nat.zero_add, Nat.zero_add]
  obtain ⟨c1, b1, s1, o1, n1⟩ := setCells_blk g 69 news (i * 3) wq cur hcur (by omega)
  obtain ⟨c2, b2, s2, o2, n2⟩ := setCells_blk g 69 zs ((i + m) * 3) _ c1 b1 (by omega)
  refine ⟨⟨by rw [rowS_len, List.length_append, List.length_take, List.length_drop]; omega, .inr ⟨g, cap, c2, rfl, hg, b2, by omega, hcm, by omega, ?_⟩⟩, fr_setCells (.inl (by simp)) zs _ _ (fr_setCells (.inl (by simp)) news _ _ hfr)⟩
  apply List.ext_getElem?
  intro t
  rw [List.getElem?_take]
  split
  · next ht =>
    rw [Array.getElem?_toList, o2 t (.inl ht), rowS_append, rowS_take, rowS_drop]
    rcases Nat.lt_or_ge t (i * 3) with h | h
    · rw [o1 t (.inl h), List.getElem?_append_left (by rw [List.length_take, rowS_len]; omega), List.getElem?_take, if_pos h, ← hcu, List.getElem?_take, if_pos (by omega), Array.getElem?_toList]
    · have hl2 : ((rowS xs).take (i * 3)).length = i * 3 := by rw [List.length_take, rowS_len]; omega
      rw [List.getElem?_append_right (by omega), hl2, ← hnews, ← n1 (t - i * 3) (by omega), show i * 3 + (t - i * 3) = t by omega]
  · next ht =>
    rw [List.getElem?_eq_none]
    rw [rowS_len, List.length_append, List.length_take, List.length_drop]
    omega
set_option maxRecDepth 100000 in
set_option maxHeartbeats 3200000 in
theorem delS_any (g n cap i j m lo : Nat) (xs : List Sg) (w : World) (hrow : w.ownsRow lo 69 3 (.slice (some ⟨g, 0, none⟩) n cap) n (rowS xs)) (hij : i < j) (hj : n = j + m) :
    Calls Tryz.prog 58 #[.slice (some ⟨g, 0, none⟩) n cap, .int .i64 (i : Int), .int .i64 (j : Int)] w fun e w' => e = .returned (.slice (some ⟨g, 0, none⟩) (i + m) cap) ∧ w'.ownsRow lo 69 3 (.slice (some ⟨g, 0, none⟩) (i + m) cap) (i + m) (rowS (xs.take i ++ xs.drop j)) ∧ Dk.Fr [g] w w' := by
  obtain ⟨hl, hv | ⟨g', cap', cur, hv, hg, hb, hnc, hcm, hcs, hcu⟩⟩ := hrow
  · cases hv.1
  simp only [Value.slice.injEq, Option.some.injEq, Addr.mk.injEq] at hv
  obtain ⟨⟨rfl, _, _⟩, _, rfl⟩ := hv
  rw [rowS_len] at hl
  have HB := Lib.hid (show Blk w g cur 69 from hb)
  obtain ⟨zs, hzs⟩ : ∃ zs, (Builtin.zeroCells (Value.agg #[.int .i64 0, .int .i64 0, .int .i64 0]).cells (n - (i + m))).toList = zs := ⟨_, rfl⟩
  obtain ⟨news, hnews⟩ : ∃ news, news = (rowS xs).drop (j * 3) := ⟨_, rfl⟩
  have hnl : news.length = m * 3 := by rw [hnews, List.length_drop, rowS_len]; omega
  have hzl : zs.length = 3 * (n - (i + m)) := by rw [← hzs, zcells_len]; rfl
  have hz1 : ∀ v ∈ zs, v.oneCell' = true := by
    intro v hv
    rw [← hzs] at hv
    simp only [Builtin.zeroCells, Array.toList_map, List.mem_map] at hv
    obtain ⟨q, _, rfl⟩ := hv
    have : q % 3 < 3 := Nat.mod_lt _ (by omega)
    show (#[Value.int .i64 0, .int .i64 0, .int .i64 0][q % 3]!).oneCell' = true
    generalize q % 3 = r at *
    obtain rfl | rfl | rfl : r = 0 ∨ r = 1 ∨ r = 2 := by omega
    all_goals rfl
  have hclear : ∀ (wq : World) (ty : TypeId) (c2 : Array Value), Blk wq g c2 69 → c2.size = cap * 3 → (Builtin.clear_ #[57] ty #[.slice (some ⟨g, 0 + (i + m) * 3, none⟩) (n - (i + m)) (cap - (i + m))]).run Tryz.prog wq = .ok (.tuple #[]) (wq.setCells g (0 + (i + m) * 3) zs) := by
    intro wq ty c2 hbq hsz
    have := run_clear_rows wq 57 69 ty _ Tryz.underlying57 zero_seg g (0 + (i + m) * 3) (n - (i + m)) (cap - (i + m)) (by omega) (by rw [hzs]; exact hz1) (by
      intro t ht
      rw [hzs, hzl] at ht
      rw [cell_of_row wq g _ _ _ (0, 0) hbq, Array.getElem?_eq_getElem (by omega)]
      rfl) (fun t _ => hbq.free _)
    rw [hzs] at this
    exact this
  have HCLS := Lib.hid (show ∀ (wq : World) (ty : TypeId), Blk wq g cur 69 → (Builtin.clear_ #[57] ty #[.slice (some ⟨g, (i + m) * 3, none⟩) (n - (i + m)) (cap - (i + m))]).run Tryz.prog (wq.setCells g (i * 3) news) = .ok (.tuple #[]) ((wq.setCells g (i * 3) news).setCells g ((i + m) * 3) zs) from by
    intro wq ty hbq
    obtain ⟨c1, b1, s1, _, _⟩ := setCells_blk g 69 news (i * 3) wq cur hbq (by omega)
    have := hclear _ ty c1 b1 (by omega)
    rw [Nat.zero_add] at this
    exact this)
  have HEND := Lib.hid (show ∀ wq : World, Still w wq → ((wq.setCells g (i * 3) news).setCells g ((i + m) * 3) zs).ownsRow lo 69 3 (.slice (some ⟨g, 0, none⟩) (i + m) cap) (i + m) (rowS (xs.take i ++ xs.drop j)) ∧ Dk.Fr [g] w ((wq.setCells g (i * 3) news).setCells g ((i + m) * 3) zs) from by
    intro wq hs
    have := delS_end g n cap i m lo xs news zs w wq cur (HB.out.still hs) hg hnc hcm hcs hcu (by omega) j (by omega) (by omega) hnews hzl (fr_still hs)
    rw [Nat.zero_add, Nat.zero_add] at this
    exact this)
  have HNW := Lib.hid (show ∀ (wq : World), Still w wq → ∀ (t : Nat) (u : Value), news[t]? = some u → wq.cell? ⟨g, j * 3 + t, none⟩ = some u from by
    intro wq hs t u hu
    rw [cell_of_row wq g _ _ _ (0, 0) (HB.out.still hs)]
    have ht : t < news.length := (List.getElem?_eq_some_iff.1 hu).1
    rw [hnews, List.getElem?_drop, ← hcu, List.getElem?_take, if_pos (by omega), Array.getElem?_toList] at hu
    exact hu)
  have HN1 := Lib.hid (show ∀ u ∈ news, u.oneCell' = true from fun u hu => rowS_one xs u (by rw [hnews] at hu; exact List.mem_of_mem_drop hu))
  have HSP := Lib.hid (show ∀ (wq : World), Still w wq → ∀ t, t < news.length → (wq.cell? ⟨g, 0 + i * 3 + t, none⟩).isSome = true ∧ wq.frozen? ⟨g, 0 + i * 3 + t, none⟩ = false from by
    intro wq hs t ht
    rw [cell_of_row wq g _ _ _ (0, 0) (HB.out.still hs), Array.getElem?_eq_getElem (by omega)]
    exact ⟨rfl, (HB.out.still hs).free _⟩)
  have HNL := Lib.hid hnl
  unfold maxLen at hcm
  clear hb hcs hcu hzs hz1 hclear hzl hnews hnl hl hg
  subst hj
  have g0 : ¬ cap = i := by omega
  have g1 : (0 : Int) ≤ (i : Int) := by omega
  have g2 : (i : Int) ≤ (j : Int) := by omega
  have g3 : (j : Int) ≤ ((j + m : Nat) : Int) := by omega
  have g4 : ¬ j + m = i := by omega
  have g5 : (i : Int) ≤ (cap : Int) := by omega
  have g6 : decide ((i : Int) = (j : Int)) = false := decide_eq_false (by omega)
  have g7 : ((j + m : Nat) : Int) ≤ (cap : Int) := by omega
  have g8 : (j : Int) ≤ (cap : Int) := by omega
  have g9 : ¬ cap = i + m := by omega
  have g10 : (i : Int) + (m : Int) ≤ (j : Int) + (m : Int) := by omega
  have g11 : (j : Int) ≤ (j : Int) + (m : Int) := by omega
  have g12 : (j : Int) + (m : Int) ≤ (cap : Int) := by omega
  have g13 : (0 : Int) ≤ (i : Int) + (m : Int) := by omega
  obtain ⟨inf, i1, i2, i3, i4⟩ := seg_info
  go_enter Tryz.func58, Tryz.ntmps58
  go_wp2_with fail
  by_cases hcj : cap = j
  · have hm0 : m = 0 := by omega
    subst hcj
    subst hm0
    have hn0 : news = [] := List.eq_nil_of_length_eq_zero (by rw [HNL.out])
    subst hn0
    go_region_law (refine step_append_room rfl _ _ 57 rfl 69 inf 3 Tryz.underlying57 i1 i3 g 0 i cap rfl ⟨g, 0, none⟩ 0 _ [] rfl rfl (fun t u hu => by cases hu) (fun u hu => by cases hu) (by omega) (fun t ht => by cases ht) ?_)
    all_goals
      go_wp2_with (refine wpList_clear rfl _ _ rfl _ rfl _ (HCLS.out w.drew _ HB.out) ?_)
      go_ret
      exact ⟨rfl, HEND.out w.drew (Still.refl w)⟩
  · have hcj' : ¬ j = cap := fun h => hcj h.symm
    go_region_law (refine step_append_room rfl _ _ 57 rfl 69 inf 3 Tryz.underlying57 i1 i3 g 0 i cap rfl ⟨g, j * 3, none⟩ m _ news rfl HNL.out (fun t u hu => by rw [add_atS]; exact HNW.out _ (Still.refl _) t u hu) HN1.out (by omega) (HSP.out _ (Still.refl _)) ?_)
    all_goals
      go_wp2_with (refine wpList_clear rfl _ _ rfl _ rfl _ (HCLS.out w.drew _ HB.out) ?_)
      go_ret
      exact ⟨rfl, HEND.out w.drew (Still.refl w)⟩
end Go.Proofs.YtgmpdifggaggdaaGreatDoor.Wl
