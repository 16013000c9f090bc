/-
  Layer 10, the laws' world: where its cells are; come. Conditions: as each theorem states.
-/
import Derived.Test.YtjajgjpkiofhmaaElHw
import Derived.Test.YtjajgjpkiofhmaaElK5
import Derived.Deep.CutRange
import Derived.Deep.CutBlock
namespace Go.Proofs.Ytjajgjpkiofhmaa.El
open Go.RowKit Go.Proofs.Ytjajgjpkiofhmaa.Qu Go.Proofs.Ytjajgjpkiofhmaa.Fld
set_option linter.unusedVariables false

theorem askAll_len (s : St) (kind term last lt : Int) : (askAll s kind term last lt).length ≤ s.vs.length := by
  unfold askAll
  rw [List.length_map]
  exact List.length_filter_le _ _
theorem run_len (s : St) (last lt : Int) : (run s last lt).2.length ≤ s.vs.length := by
  unfold run
  split
  · exact Nat.zero_le _
  split
  · exact Nat.zero_le _
  · exact askAll_len (stood s) _ _ _ _
theorem tick_len (s : St) (draw last lt : Int) : (tick s draw last lt).2.length ≤ s.vs.length := by
  unfold tick
  split
  · exact Nat.zero_le _
  split
  · exact Nat.zero_le _
  · unfold hope
    split
    · exact run_len _ _ _
    · exact askAll_len (hoped _) _ _ _ _
theorem take_len (s : St) (b : Bal) (last lt : Int) : (take s b last lt).2.length ≤ s.vs.length + 1 := by
  unfold take
  split
  · exact Nat.zero_le _
  split
  · exact Nat.succ_le_succ (Nat.zero_le _)
  split
  · unfold preSay
    split
    · exact Nat.zero_le _
    split
    · exact Nat.zero_le _
    split
    · exact Nat.le_succ_of_le (run_len (recS s b) _ _)
    split
    · exact Nat.zero_le _
    · exact Nat.zero_le _
  split
  · unfold askS
    split
    · exact Nat.succ_le_succ (Nat.zero_le _)
    · exact Nat.succ_le_succ (Nat.zero_le _)
  split
  · exact Nat.zero_le _
  · exact Nat.zero_le _
theorem keep_set {w : World} {p q : Addr} {u v : Value} (h : w.cell? q = some u) (hp : p ≠ q) : (w.setCell p v).cell? q = some u := (World.cell?_setCell_other (h := hp) ..).trans h
/-- the blocks that a node's answers may change -/
def Sk (u : Wl) (k : Nat) : List Nat := (u.p k).ft ++ u.sv.ownBlock.toList
theorem Sk_ft {u : Wl} {k i : Nat} (h : i ∈ (u.p k).ft) : i ∈ Sk u k := List.mem_append.2 (.inl h)
theorem Sk_sv {u : Wl} {k i : Nat} (h : u.sv.ownBlock = some i) : i ∈ Sk u k := List.mem_append.2 (.inr (by simp [h]))
theorem mem_Sk {u : Wl} {k i : Nat} : i ∈ Sk u k ↔ i ∈ (u.p k).ft ∨ u.sv.ownBlock = some i := by simp [Sk, List.mem_append]
theorem Wm.gSk {w0 : World} {vs : List Int} {w : World} {u : Wl} {d : Wd} (h : Wm w0 vs w u d) (k : Nat) (hk : k < d.ns.length) : u.g ∉ Sk u k := fun hm => by
  rcases mem_Sk.1 hm with hm | hm
  · exact (h.dis k hk _ (ft_all hm)).1 rfl
  · exact row_ne h.rs h.blk (by decide) hm
theorem Wm.loSk {w0 : World} {vs : List Int} {w : World} {u : Wl} {d : Wd} (h : Wm w0 vs w u d) (k : Nat) (hk : k < d.ns.length) : ∀ i ∈ Sk u k, w0.heap.size ≤ i ∧ i < w.heap.size := fun i hm => by
  rcases mem_Sk.1 hm with hm | hm
  · exact h.lt k hk _ (ft_all hm)
  · exact row_lo h.rs i hm
theorem Wm.rowSk {w0 : World} {vs : List Int} {w : World} {u : Wl} {d : Wd} (h : Wm w0 vs w u d) (k : Nat) (hk : k < d.ns.length) {e : TypeId} {s n : Nat} {v : Value} {xs : List Value} (hr : w.ownsRow w0.heap.size e s v n xs) (h1 : e ≠ 76) (h2 : e ≠ 40) : ∀ i, v.ownBlock = some i → i ∉ Sk u k := by
  intro i he hm
  have hi := h.im k hk
  rcases mem_Sk.1 hm with hm | hm
  · simp only [Pl.ft, List.mem_cons, List.not_mem_nil, or_false] at hm
    rcases hm with rfl | rfl
    · exact row_ne hr hi.blk h1 he
    · exact row_nm hr hi.map he
  · exact rows_ne hr h.rs h2 i he hm
/-- the cells that a node's turn reads -/
theorem Wm.cel {w0 : World} {vs : List Int} {w : World} {u : Wl} {d : Wd} (h : Wm w0 vs w u d) (k : Nat) (hk : k < d.ns.length) (hl : d.logs.length = d.ns.length) :
    ∃ nb no nc lb lo lc, u.nv = .slice (some ⟨nb, no, none⟩) d.ns.length nc ∧ no = 0 ∧ u.nv.ownBlock = some nb ∧ u.lv = .slice (some ⟨lb, lo, none⟩) d.ns.length lc ∧ d.ns.length ≤ maxLen ∧ (nb ≠ u.g ∧ lb ≠ u.g) ∧ ∀ W, Dk.Fr (Sk u k) w W →
      W.cell? ⟨u.g, 2, none⟩ = some (.slice (some ⟨nb, no, none⟩) d.ns.length nc) ∧ W.cell? ⟨u.g, 3, none⟩ = some (.slice (some ⟨lb, lo, none⟩) d.ns.length lc) ∧ W.cell? ⟨u.g, 4, none⟩ = some u.sv ∧ W.cell? ⟨nb, no + k, none⟩ = some (.pointer (some ⟨(u.p k).g, 0, none⟩)) ∧ W.cell? ⟨lb, lo + k * 2, none⟩ = some (.int .i64 (lg d k).1) ∧ W.cell? ⟨lb, lo + k * 2 + 1, none⟩ = some (.int .i64 (lg d k).2) := by
  obtain ⟨A, nc, hn, hn0, hnm, hna⟩ := row_form h.rn
  obtain ⟨B, lc, hlv, hl0, hlm, hla⟩ := row_form h.rl
  have hp := h.pl
  rw [hp] at hn hnm hn0
  rw [hl] at hlv hlm hl0
  cases A with
  | none => have := (hn0 rfl).2; omega
  | some a =>
  cases B with
  | none => have := (hl0 rfl).2; omega
  | some a' =>
  obtain ⟨nb, no, rfl, hno, hnb, hnc⟩ := hna a rfl
  obtain ⟨lb, lo, rfl, _, hlb, hlc⟩ := hla a' rfl
  refine ⟨nb, no, nc, lb, lo, lc, hn, hno, hnb, hlv, hnm, ⟨fun e => row_ne h.rn h.blk (by decide) (by rw [hnb, e]), fun e => row_ne h.rl h.blk (by decide) (by rw [hlb, e])⟩, fun W hf => ?_⟩
  have hB := blk_fr h.blk hf (h.gSk k hk)
  have c2 := hB.cell 2 u.nv rfl
  have c3 := hB.cell 3 u.lv rfl
  rw [hn] at c2
  rw [hlv] at c3
  have hnS := h.rowSk k hk h.rn (by decide) (by decide) nb hnb
  have hlS := h.rowSk k hk h.rl (by decide) (by decide) lb hlb
  have key : ∀ {b o : Nat} {v : Value}, b ∉ Sk u k → w.cell? ⟨b, o, none⟩ = some v → W.cell? ⟨b, o, none⟩ = some v := fun {b o v} hb hv => (World.cell?_of_block (w := w) (hf.block b (lt_of_cell hv) hb)).trans hv
  obtain ⟨r1, r2⟩ := rowP_at d.logs k (by omega)
  refine ⟨c2, c3, hB.cell 4 u.sv rfl, key hnS (hnc k _ (ptrs_at u k (by omega))), key hlS (hlc _ _ r1), ?_⟩
  have := key hlS (hlc _ _ r2)
  rwa [← Nat.add_assoc] at this
set_option maxRecDepth 100000 in
set_option maxHeartbeats 6400000 in
theorem come_any (w0 : World) (vs : List Int) (u : Wl) (d : Wd) (b : Bal) (w : World) (h : Wm w0 vs w u d) (hl : d.logs.length = d.ns.length) (hp : 0 < d.ns.length) (hsn : d.sent.length ≤ 1000000) (hvs : ∀ i, i < d.ns.length → (nd d i).vs.length ≤ 15) : Calls Try.prog 27 #[.pointer (some ⟨u.g, 0, none⟩), b.val] w fun e w' => e = .returned (.tuple #[]) ∧ ∃ u', u'.g = u.g ∧ Wm w0 vs w' u' (come d b) := by
  have hal := alloc_below w (.cells (ballC b) 40)
  have hm1 := h.below hal
  have HM := Lib.hid hm1
  have hkb := Blk.new w (ballC b) 40
  have HKB := Lib.hid hkb
  have hxg : w.heap.size ≠ u.g := by have := Blk.lt h.blk; omega
  obtain ⟨_, _, nc0, _, _, _, hnv, _⟩ := h.cel 0 hp hl
  obtain ⟨nb0, no0, _, _, _, _, hnv0, -, -, -, hnm, -, hc0⟩ := hm1.cel 0 hp hl
  obtain ⟨c2, _⟩ := hc0 _ (Dk.Fr.refl _ _)
  have HXS := Lib.hid (fun k hk => show w.heap.size ∉ Sk u k from fun hmm => absurd (h.loSk k hk _ hmm).2 (Nat.lt_irrefl _))
  have b0 := hkb.cell 0 (.int .i64 b.kind) rfl
  have b1 := hkb.cell 1 (.int .i64 b.frm) rfl
  have b2 := hkb.cell 2 (.int .i64 b.to) rfl
  have b3 := hkb.cell 3 (.int .i64 b.term) rfl
  have b4 := hkb.cell 4 (.int .i64 b.idx) rfl
  have b5 := hkb.cell 5 (.int .i64 b.lt) rfl
  have b6 := hkb.cell 6 (.bool b.yes) rfl
  unfold maxLen at hnm
  have HE := Lib.hid (show come d b = if 1 ≤ b.to ∧ b.to ≤ d.ns.length then doN d (b.to - 1).toNat (take (nd d (b.to - 1).toNat) b (lg d (b.to - 1).toNat).1 (lg d (b.to - 1).toNat).2) else d from rfl)
  unfold ballC at *
  unfold Bal.val
  clear h hal hm1 hkb hc0 hnv hnv0
  go_enter Try.func27, Try.ntmps27
  go_upto_region 1 with fail
  generalize hwx : (w.alloc (.cells #[.int .i64 b.kind, .int .i64 b.frm, .int .i64 b.to, .int .i64 b.term, .int .i64 b.idx, .int .i64 b.lt, .bool b.yes] 40)) = wq at *
  generalize hX : w.heap.size = X at *
  have HWX := Lib.hid (And.intro hwx hX)
  clear hwx hX
  by_cases a0 : b.to < 1
  · have q0 : decide (b.to < 1) = true := decide_eq_true a0
    have HR := Lib.hid (show come d b = d by rw [HE.out, if_neg (by omega)])
    clear a0 HE
    go_quiet (fail)
    go_wp2_with fail
    first | go_end0 | ((try simp only [Exit.inBlock, Exit.then]); refine bodyPost_ret (results_none rfl _ _ _) rfl ?_)
    exact ⟨rfl, u, rfl, by rw [HR.out]; exact HM.out.below (below_dr _ _)⟩
  have q0 : decide (b.to < 1) = false := decide_eq_false a0
  by_cases a1 : (d.ns.length : Int) < b.to
  · have q1 : decide ((d.ns.length : Int) < b.to) = true := decide_eq_true a1
    have HR := Lib.hid (show come d b = d by rw [HE.out, if_neg (by omega)])
    clear a0 a1 HE
    go_quiet (fail)
    go_wp2_with fail
    first | go_end0 | ((try simp only [Exit.inBlock, Exit.then]); refine bodyPost_ret (results_none rfl _ _ _) rfl ?_)
    exact ⟨rfl, u, rfl, by rw [HR.out]; exact HM.out.below (below_dr _ _)⟩
  have q1 : decide ((d.ns.length : Int) < b.to) = false := decide_eq_false a1
  obtain ⟨k, hbk⟩ : ∃ k : Nat, b.to = (k : Int) + 1 := ⟨(b.to - 1).toNat, by omega⟩
  have hk : k < d.ns.length := by omega
  have HR := Lib.hid (show come d b = doN d k (take (nd d k) b (lg d k).1 (lg d k).2) by rw [HE.out, if_pos (by omega), show (b.to - 1).toNat = k by omega])
  have HK := Lib.hid hk
  have HLN := Lib.hid (show (take (nd d k) b (lg d k).1 (lg d k).2).2.length ≤ 16 by have := take_len (nd d k) b (lg d k).1 (lg d k).2; have := hvs k hk; omega)
  have HSN := Lib.hid hsn
  have j1 : IntKind.i64.wrap (b.to - 1) = (k : Int) := by rw [hbk]; have := IntWalk.i64_in ((k : Int) + 1 - 1) (by omega); rw [this]; omega
  have k0 : (0 : Int) ≤ (k : Int) := by omega
  have k1 : (k : Int) < (d.ns.length : Int) := by omega
  clear hbk a0 a1
  have HQ := Lib.hid (fun W (hW : Below wq.heap.size wq W) => HM.out.below hW)
  go_cut [17] from 5 to 16 (fun c wx => c = .bool false ∧ Below wq.heap.size wq wx)
  case first =>
    go_quiet (fail)
    go_wp2_with fail
    go_meet
    exact ⟨rfl, by simpa using below_dr _ _⟩
  case rest =>
    obtain ⟨rfl, hbw⟩ := hcut
    obtain ⟨wa, rfl⟩ : ∃ wa, wa = wc := ⟨_, rfl⟩
    have HMA := Lib.hid (HQ.out wa hbw)
    have HKA := Lib.hid (HKB.out.below hbw)
    have HXA := Lib.hid (HXS.out k hk)
    clear hbw b0 b1 b2 b3 b4 b5 b6
    clear c2
    obtain ⟨nb, no, nc, lb, lo, lc, -, -, -, -, -, ⟨hnn, hln⟩, hc⟩ := HMA.out.cel k hk hl
    have HC := Lib.hid hc
    obtain ⟨c2, c3, c4, cn, cl, cm⟩ := hc wa (Dk.Fr.refl _ _)
    have HT := Lib.hid (fun W (hW : Im W (u.p k) (nd d k)) => take_any (u.p k) (nd d k) b (lg d k).1 (lg d k).2 W hW)
    unfold Bal.val at HT
    have HIM := Lib.hid (HMA.out.im k hk)
    have b0 := HKA.out.cell 0 (.int .i64 b.kind) rfl
    have b1 := HKA.out.cell 1 (.int .i64 b.frm) rfl
    have b2 := HKA.out.cell 2 (.int .i64 b.to) rfl
    have b3 := HKA.out.cell 3 (.int .i64 b.term) rfl
    have b4 := HKA.out.cell 4 (.int .i64 b.idx) rfl
    have b5 := HKA.out.cell 5 (.int .i64 b.lt) rfl
    have b6 := HKA.out.cell 6 (.bool b.yes) rfl
    clear hc
    go_wp2_with fail
    refine wp_region_noPanic ?_
    refine wp_region_held_drew (S := (fun w' => w'.cell? ⟨u.g, 2, none⟩ = some (.slice (some ⟨nb, no, none⟩) d.ns.length nc) ∧ w'.cell? ⟨u.g, 3, none⟩ = some (.slice (some ⟨lb, lo, none⟩) d.ns.length lc) ∧ w'.cell? ⟨nb, no + k, none⟩ = some (.pointer (some ⟨(u.p k).g, 0, none⟩)) ∧ w'.cell? ⟨lb, lo + k * 2, none⟩ = some (.int .i64 (lg d k).1) ∧ w'.cell? ⟨lb, lo + k * 2 + 1, none⟩ = some (.int .i64 (lg d k).2) ∧ w'.cell? ⟨X, 0, none⟩ = some (.int .i64 b.kind) ∧ w'.cell? ⟨X, 1, none⟩ = some (.int .i64 b.frm) ∧ w'.cell? ⟨X, 2, none⟩ = some (.int .i64 b.to) ∧ w'.cell? ⟨X, 3, none⟩ = some (.int .i64 b.term) ∧ w'.cell? ⟨X, 4, none⟩ = some (.int .i64 b.idx) ∧ w'.cell? ⟨X, 5, none⟩ = some (.int .i64 b.lt) ∧ w'.cell? ⟨X, 6, none⟩ = some (.bool b.yes))) (by kernel_rfl) ?_ (fun hHeld => ?_)
    · first | exact ⟨by assumption, by assumption, by assumption, by assumption, by assumption, by assumption, by assumption, by assumption, by assumption, by assumption, by assumption, by assumption⟩ | go_keep
    refine takeL (i := 0) (v := ?_) rfl (by kernel_rfl) (by kernel_rfl) (by kernel_rfl) (fun _ _ _ h => h) (Or.inl ⟨by rfl, ?_⟩) (by assumption) ?_
    rotate_left
    · intro w' hSw
      (try dsimp only at hSw)
      go_simp
      first | done | with_reducible rfl
    simp only [Act.put, List.setIfInBounds_toArray, List.set_cons_zero, List.set_cons_succ]
    refine takeL (i := 1) (v := ?_) rfl (by kernel_rfl) (by kernel_rfl) (by kernel_rfl) (fun _ _ _ h => h) (Or.inl ⟨by rfl, ?_⟩) (by assumption) ?_
    rotate_left
    · intro w' hSw
      (try dsimp only at hSw)
      go_simp
      first | done | with_reducible rfl
    simp only [Act.put, List.setIfInBounds_toArray, List.set_cons_zero, List.set_cons_succ]
    refine takeL (i := 2) (v := ?_) rfl (by kernel_rfl) (by kernel_rfl) (by kernel_rfl) (fun _ _ _ h => h) (Or.inl ⟨by rfl, ?_⟩) (by assumption) ?_
    rotate_left
    · intro w' hSw
      (try dsimp only at hSw)
      go_simp
      first | done | with_reducible rfl
    simp only [Act.put, List.setIfInBounds_toArray, List.set_cons_zero, List.set_cons_succ]
    refine takeL (i := 3) (v := ?_) rfl (by kernel_rfl) (by kernel_rfl) (by kernel_rfl) (fun _ _ _ h => h) (Or.inl ⟨by rfl, ?_⟩) (by assumption) ?_
    rotate_left
    · intro w' hSw
      (try dsimp only at hSw)
      go_simp
      first | done | with_reducible rfl
    simp only [Act.put, List.setIfInBounds_toArray, List.set_cons_zero, List.set_cons_succ]
    refine takeL (i := 5) (v := ?_) rfl (by kernel_rfl) (by kernel_rfl) (by kernel_rfl) (fun _ _ _ h => h) (Or.inl ⟨by rfl, ?_⟩) (by assumption) ?_
    rotate_left
    · intro w' hSw
      (try dsimp only at hSw)
      go_simp
      first | done | with_reducible rfl
    simp only [Act.put, List.setIfInBounds_toArray, List.set_cons_zero, List.set_cons_succ]
    refine takeL (i := 6) (v := ?_) rfl (by kernel_rfl) (by kernel_rfl) (by kernel_rfl) (fun _ _ _ h => h) (Or.inl ⟨by rfl, ?_⟩) (by assumption) ?_
    rotate_left
    · intro w' hSw
      (try dsimp only at hSw)
      go_simp
      first | done | with_reducible rfl
    simp only [Act.put, List.setIfInBounds_toArray, List.set_cons_zero, List.set_cons_succ]
    refine takeL (i := 7) (v := ?_) rfl (by kernel_rfl) (by kernel_rfl) (by kernel_rfl) (fun _ _ _ h => h) (Or.inl ⟨by rfl, ?_⟩) (by assumption) ?_
    rotate_left
    · intro w' hSw
      (try dsimp only at hSw)
      go_simp
      first | done | with_reducible rfl
    simp only [Act.put, List.setIfInBounds_toArray, List.set_cons_zero, List.set_cons_succ]
    refine takeL (i := 8) (v := ?_) rfl (by kernel_rfl) (by kernel_rfl) (by kernel_rfl) (fun _ _ _ h => h) (Or.inl ⟨by rfl, ?_⟩) (by assumption) ?_
    rotate_left
    · intro w' hSw
      (try dsimp only at hSw)
      go_simp
      first | done | with_reducible rfl
    simp only [Act.put, List.setIfInBounds_toArray, List.set_cons_zero, List.set_cons_succ]
    refine takeL (i := 9) (v := ?_) rfl (by kernel_rfl) (by kernel_rfl) (by kernel_rfl) (fun _ _ _ h => h) (Or.inl ⟨by rfl, ?_⟩) (by assumption) ?_
    rotate_left
    · intro w' hSw
      (try dsimp only at hSw)
      go_simp
      first | done | with_reducible rfl
    simp only [Act.put, List.setIfInBounds_toArray, List.set_cons_zero, List.set_cons_succ]
    refine takeL (i := 10) (v := ?_) rfl (by kernel_rfl) (by kernel_rfl) (by kernel_rfl) (fun _ _ _ h => h) (Or.inl ⟨by rfl, ?_⟩) (by assumption) ?_
    rotate_left
    · intro w' hSw
      (try dsimp only at hSw)
      go_simp
      first | done | with_reducible rfl
    simp only [Act.put, List.setIfInBounds_toArray, List.set_cons_zero, List.set_cons_succ]
    refine takeL (i := 11) (v := ?_) rfl (by kernel_rfl) (by kernel_rfl) (by kernel_rfl) (fun _ _ _ h => h) (Or.inl ⟨by rfl, ?_⟩) (by assumption) ?_
    rotate_left
    · intro w' hSw
      (try dsimp only at hSw)
      go_simp
      first | done | with_reducible rfl
    simp only [Act.put, List.setIfInBounds_toArray, List.set_cons_zero, List.set_cons_succ]
    refine takeL (i := 12) (v := ?_) rfl (by kernel_rfl) (by kernel_rfl) (by kernel_rfl) (fun _ _ _ h => h) (Or.inl ⟨by rfl, ?_⟩) (by assumption) ?_
    rotate_left
    · intro w' hSw
      (try dsimp only at hSw)
      go_simp
      first | done | with_reducible rfl
    simp only [Act.put, List.setIfInBounds_toArray, List.set_cons_zero, List.set_cons_succ]
    refine takeL (i := 13) (v := ?_) rfl (by kernel_rfl) (by kernel_rfl) (by kernel_rfl) (fun _ _ _ h => h) (Or.inl ⟨by rfl, ?_⟩) (by assumption) ?_
    rotate_left
    · intro w' hSw
      (try dsimp only at hSw)
      go_simp
      first | done | with_reducible rfl
    simp only [Act.put, List.setIfInBounds_toArray, List.set_cons_zero, List.set_cons_succ]
    refine takeL (i := 14) (v := ?_) rfl (by kernel_rfl) (by kernel_rfl) (by kernel_rfl) (fun _ _ _ h => h) (Or.inl ⟨by rfl, ?_⟩) (by assumption) ?_
    rotate_left
    · intro w' hSw
      (try dsimp only at hSw)
      go_simp
      first | done | with_reducible rfl
    simp only [Act.put, List.setIfInBounds_toArray, List.set_cons_zero, List.set_cons_succ]
    refine takeL (i := 15) (v := ?_) rfl (by kernel_rfl) (by kernel_rfl) (by kernel_rfl) (fun _ _ _ h => h) (Or.inl ⟨by rfl, ?_⟩) (by assumption) ?_
    rotate_left
    · intro w' hSw
      (try dsimp only at hSw)
      go_simp
      first | done | with_reducible rfl
    simp only [Act.put, List.setIfInBounds_toArray, List.set_cons_zero, List.set_cons_succ]
    refine takeL (i := 16) (v := ?_) rfl (by kernel_rfl) (by kernel_rfl) (by kernel_rfl) (fun _ _ _ h => h) (Or.inl ⟨by rfl, ?_⟩) (by assumption) ?_
    rotate_left
    · intro w' hSw
      (try dsimp only at hSw)
      go_simp
      first | done | with_reducible rfl
    simp only [Act.put, List.setIfInBounds_toArray, List.set_cons_zero, List.set_cons_succ]
    refine takeL (i := 17) (v := ?_) rfl (by kernel_rfl) (by kernel_rfl) (by kernel_rfl) (fun _ _ _ h => h) (Or.inl ⟨by rfl, ?_⟩) (by assumption) ?_
    rotate_left
    · intro w' hSw
      (try dsimp only at hSw)
      go_simp
      first | done | with_reducible rfl
    simp only [Act.put, List.setIfInBounds_toArray, List.set_cons_zero, List.set_cons_succ]
    refine takeL (i := 18) (v := ?_) rfl (by kernel_rfl) (by kernel_rfl) (by kernel_rfl) (fun _ _ _ h => h) (Or.inl ⟨by rfl, ?_⟩) (by assumption) ?_
    rotate_left
    · intro w' hSw
      (try dsimp only at hSw)
      go_simp
      first | done | with_reducible rfl
    simp only [Act.put, List.setIfInBounds_toArray, List.set_cons_zero, List.set_cons_succ]
    refine takeL (i := 19) (v := ?_) rfl (by kernel_rfl) (by kernel_rfl) (by kernel_rfl) (fun _ _ _ h => h) (Or.inl ⟨by rfl, ?_⟩) (by assumption) ?_
    rotate_left
    · intro w' hSw
      (try dsimp only at hSw)
      go_simp
      first | done | with_reducible rfl
    simp only [Act.put, List.setIfInBounds_toArray, List.set_cons_zero, List.set_cons_succ]
    refine takeL (i := 20) (v := ?_) rfl (by kernel_rfl) (by kernel_rfl) (by kernel_rfl) (fun _ _ _ h => h) (Or.inl ⟨by rfl, ?_⟩) (by assumption) ?_
    rotate_left
    · intro w' hSw
      (try dsimp only at hSw)
      go_simp
      first | done | with_reducible rfl
    simp only [Act.put, List.setIfInBounds_toArray, List.set_cons_zero, List.set_cons_succ]
    refine takeL (i := 21) (v := ?_) rfl (by kernel_rfl) (by kernel_rfl) (by kernel_rfl) (fun _ _ _ h => h) (Or.inl ⟨by rfl, ?_⟩) (by assumption) ?_
    rotate_left
    · intro w' hSw
      (try dsimp only at hSw)
      go_simp
      first | done | with_reducible rfl
    simp only [Act.put, List.setIfInBounds_toArray, List.set_cons_zero, List.set_cons_succ]
    refine takeL (i := 22) (v := ?_) rfl (by kernel_rfl) (by kernel_rfl) (by kernel_rfl) (fun _ _ _ h => h) (Or.inl ⟨by rfl, ?_⟩) (by assumption) ?_
    rotate_left
    · intro w' hSw
      (try dsimp only at hSw)
      go_simp
      first | done | with_reducible rfl
    simp only [Act.put, List.setIfInBounds_toArray, List.set_cons_zero, List.set_cons_succ]
    refine takeL (i := 23) (v := ?_) rfl (by kernel_rfl) (by kernel_rfl) (by kernel_rfl) (fun _ _ _ h => h) (Or.inl ⟨by rfl, ?_⟩) (by assumption) ?_
    rotate_left
    · intro w' hSw
      (try dsimp only at hSw)
      go_simp
      first | done | with_reducible rfl
    simp only [Act.put, List.setIfInBounds_toArray, List.set_cons_zero, List.set_cons_succ]
    refine takeL (i := 24) (v := ?_) rfl (by kernel_rfl) (by kernel_rfl) (by kernel_rfl) (fun _ _ _ h => h) (Or.inl ⟨by rfl, ?_⟩) (by assumption) ?_
    rotate_left
    · intro w' hSw
      (try dsimp only at hSw)
      go_simp
      first | done | with_reducible rfl
    simp only [Act.put, List.setIfInBounds_toArray, List.set_cons_zero, List.set_cons_succ]
    refine takeL (i := 25) (v := ?_) rfl (by kernel_rfl) (by kernel_rfl) (by kernel_rfl) (fun _ _ _ h => h) (Or.inl ⟨by rfl, ?_⟩) (by assumption) ?_
    rotate_left
    · intro w' hSw
      (try dsimp only at hSw)
      go_simp
      first | done | with_reducible rfl
    simp only [Act.put, List.setIfInBounds_toArray, List.set_cons_zero, List.set_cons_succ]
    refine takeL (i := 26) (v := ?_) rfl (by kernel_rfl) (by kernel_rfl) (by kernel_rfl) (fun _ _ _ h => h) (Or.inl ⟨by rfl, ?_⟩) (by assumption) ?_
    rotate_left
    · intro w' hSw
      (try dsimp only at hSw)
      go_simp
      first | done | with_reducible rfl
    simp only [Act.put, List.setIfInBounds_toArray, List.set_cons_zero, List.set_cons_succ]
    refine takeL (i := 27) (v := ?_) rfl (by kernel_rfl) (by kernel_rfl) (by kernel_rfl) (fun _ _ _ h => h) (Or.inl ⟨by rfl, ?_⟩) (by assumption) ?_
    rotate_left
    · intro w' hSw
      (try dsimp only at hSw)
      go_simp
      first | done | with_reducible rfl
    simp only [Act.put, List.setIfInBounds_toArray, List.set_cons_zero, List.set_cons_succ]
    refine takeL (i := 28) (v := ?_) rfl (by kernel_rfl) (by kernel_rfl) (by kernel_rfl) (fun _ _ _ h => h) (Or.inl ⟨by rfl, ?_⟩) (by assumption) ?_
    rotate_left
    · intro w' hSw
      (try dsimp only at hSw)
      go_simp
      first | done | with_reducible rfl
    simp only [Act.put, List.setIfInBounds_toArray, List.set_cons_zero, List.set_cons_succ]
    refine wpAnyH_ready (rs := [4, 29]) (by kernel_rfl) (by simp) ?_
    refine consL rfl (fun K hK => ?_) (consL rfl (fun K hK => ?_) AllReadyH.nil)
    · go_simp
      refine hK.out _ _ ?_ (fun hHeld1 => ?_)
      · first | exact ⟨by assumption, by assumption, by assumption, by assumption, by assumption, by assumption, by assumption, by assumption, by assumption, by assumption, by assumption, by assumption⟩ | go_keep
      clear hK K
      try simp only [Act.put, List.setIfInBounds_toArray, List.set_cons_zero, List.set_cons_succ]
      refine wpAnyH_ready (rs := [29]) (by kernel_rfl) (by simp) ?_
      refine consL rfl (fun K hK => ?_) AllReadyH.nil
      go_simp
      go_at_call 15
      refine (HT.out _ (by exact HIM.out.below (below_d1 wa))).mono ?_
      rintro e w4 ⟨v4, rfl, hA⟩
      have HM4 := Lib.hid ((HMA.out.below (below_d1 wa)).did k HK.out hA.did)
      have HF4 := Lib.hid ((Dk.Fr.below (S := Sk u k) (below_d1 wa)).same (hA.did.fr.mono fun i hi => Sk_ft hi))
      obtain ⟨y2, y3, y4, yn, yl, ym⟩ := HC.out w4 HF4.out
      have hkk := blk_fr HKA.out HF4.out HXA.out
      have z0 := hkk.cell 0 _ rfl
      have z1 := hkk.cell 1 _ rfl
      have z2 := hkk.cell 2 _ rfl
      have z3 := hkk.cell 3 _ rfl
      have z4 := hkk.cell 4 _ rfl
      have z5 := hkk.cell 5 _ rfl
      have z6 := hkk.cell 6 _ rfl
      obtain ⟨A4, n4, e4, _, _, _, hA0⟩ := row_slice hA.out
      subst e4
      have HO4 := Lib.hid (rowB_read hA.out)
      have HA0 := Lib.hid (fun e => (hA0 e).1)
      clear hA hkk hA0
      refine hK.out _ _ ?_ (fun hHeld2 => ?_)
      · first | exact ⟨by assumption, by assumption, by assumption, by assumption, by assumption, by assumption, by assumption, by assumption, by assumption, by assumption, by assumption, by assumption⟩ | go_keep
      clear hK K
      try simp only [Act.put, List.setIfInBounds_toArray, List.set_cons_zero, List.set_cons_succ]
      refine wpAnyH_ready (rs := [30]) (by kernel_rfl) (by simp) ?_
      refine consL rfl (fun K hK => ?_) AllReadyH.nil
      refine step_append_rowB rfl _ _ rfl w0.heap.size u.sv d.sent.length (rowB d.sent) rfl HM4.out.rs A4 _ n4 _ rfl HO4.out HA0.out (by have := HLN.out; have := HSN.out; omega) HM4.out.bel.size ?_
      intro v6 w6 hr6 hg6 ha6
      obtain ⟨A6, c6, e6, _⟩ := row_slice hr6
      subst e6
      have HR6 := Lib.hid hr6
      have HG6 := Lib.hid hg6
      have HA6 := Lib.hid ha6
      have HF6 := Lib.hid (HF4.out.grown hg6 (fun i hi => .inl (Sk_sv hi)))
      obtain ⟨x2, x3, x4, xn, xl, xm⟩ := HC.out w6 HF6.out
      have hkk := blk_fr HKA.out HF6.out HXA.out
      have t0 := hkk.cell 0 _ rfl
      have t1 := hkk.cell 1 _ rfl
      have t2 := hkk.cell 2 _ rfl
      have t3 := hkk.cell 3 _ rfl
      have t4 := hkk.cell 4 _ rfl
      have t5 := hkk.cell 5 _ rfl
      have t6 := hkk.cell 6 _ rfl
      have f4 := Blk.free (blk_fr HMA.out.blk HF6.out (HMA.out.gSk k HK.out)) 4
      clear hr6 hg6 ha6 hkk
      refine hK.out _ _ ?_ (fun hHeld3 => ?_)
      · first | exact ⟨by assumption, by assumption, by assumption, by assumption, by assumption, by assumption, by assumption, by assumption, by assumption, by assumption, by assumption, by assumption⟩ | go_keep
      clear hK K
      try simp only [Act.put, List.setIfInBounds_toArray, List.set_cons_zero, List.set_cons_succ]
      refine takeL (i := 31) (v := ?_) rfl (by kernel_rfl) (by kernel_rfl) (by kernel_rfl) (fun _ _ _ h => h) (Or.inl ⟨by rfl, ?_⟩) (by assumption) ?_
      rotate_left
      · intro w' hSw
        (try dsimp only at hSw)
        go_simp
        first | done | with_reducible rfl
      simp only [Act.put, List.setIfInBounds_toArray, List.set_cons_zero, List.set_cons_succ]
      refine takeL (i := 32) (v := ?_) rfl (by kernel_rfl) (by kernel_rfl) (by kernel_rfl) (fun _ _ _ h => h) (Or.inl ⟨by rfl, ?_⟩) (by assumption) ?_
      rotate_left
      · intro w' hSw
        (try dsimp only at hSw)
        go_simp
        first | done | with_reducible rfl
      simp only [Act.put, List.setIfInBounds_toArray, List.set_cons_zero, List.set_cons_succ]
      refine wpAnyH_ready (rs := [33]) (by kernel_rfl) (by simp) ?_
      refine consL rfl (fun K hK => ?_) AllReadyH.nil
      go_simp
      refine hK.out _ _ ?_ (fun hHeld4 => ?_)
      · exact ⟨keep_set (by assumption) (by simp), keep_set (by assumption) (by simp), keep_set (by assumption) (fun e => hnn (congrArg Addr.block e).symm), keep_set (by assumption) (fun e => hln (congrArg Addr.block e).symm), keep_set (by assumption) (fun e => hln (congrArg Addr.block e).symm), keep_set (by assumption) (fun e => hxg (congrArg Addr.block e).symm), keep_set (by assumption) (fun e => hxg (congrArg Addr.block e).symm), keep_set (by assumption) (fun e => hxg (congrArg Addr.block e).symm), keep_set (by assumption) (fun e => hxg (congrArg Addr.block e).symm), keep_set (by assumption) (fun e => hxg (congrArg Addr.block e).symm), keep_set (by assumption) (fun e => hxg (congrArg Addr.block e).symm), keep_set (by assumption) (fun e => hxg (congrArg Addr.block e).symm)⟩
      clear hK K
      refine wpAnyH_done (by kernel_rfl) ?_ _
      refine NoPanic.normal ?_
      go_wp2_with fail
      first | go_end0 | ((try simp only [Exit.inBlock, Exit.then]); refine bodyPost_ret (results_none rfl _ _ _) rfl ?_)
      exact ⟨rfl, _, (rfl : ({ u with sv := (Value.slice A6 _ c6) } : Wl).g = u.g), by rw [HR.out]; exact Wm.send HM4.out rfl HR6.out HG6.out HA6.out⟩
    · go_simp
      go_at_call 15
      refine (HT.out _ (by exact HIM.out.below (below_d1 wa))).mono ?_
      rintro e w4 ⟨v4, rfl, hA⟩
      have HM4 := Lib.hid ((HMA.out.below (below_d1 wa)).did k HK.out hA.did)
      have HF4 := Lib.hid ((Dk.Fr.below (S := Sk u k) (below_d1 wa)).same (hA.did.fr.mono fun i hi => Sk_ft hi))
      obtain ⟨y2, y3, y4, yn, yl, ym⟩ := HC.out w4 HF4.out
      have hkk := blk_fr HKA.out HF4.out HXA.out
      have z0 := hkk.cell 0 _ rfl
      have z1 := hkk.cell 1 _ rfl
      have z2 := hkk.cell 2 _ rfl
      have z3 := hkk.cell 3 _ rfl
      have z4 := hkk.cell 4 _ rfl
      have z5 := hkk.cell 5 _ rfl
      have z6 := hkk.cell 6 _ rfl
      obtain ⟨A4, n4, e4, _, _, _, hA0⟩ := row_slice hA.out
      subst e4
      have HO4 := Lib.hid (rowB_read hA.out)
      have HA0 := Lib.hid (fun e => (hA0 e).1)
      clear hA hkk hA0
      refine hK.out _ _ ?_ (fun hHeld1 => ?_)
      · first | exact ⟨by assumption, by assumption, by assumption, by assumption, by assumption, by assumption, by assumption, by assumption, by assumption, by assumption, by assumption, by assumption⟩ | go_keep
      clear hK K
      try simp only [Act.put, List.setIfInBounds_toArray, List.set_cons_zero, List.set_cons_succ]
      refine wpAnyH_ready (rs := [4]) (by kernel_rfl) (by simp) ?_
      refine consL rfl (fun K hK => ?_) AllReadyH.nil
      go_simp
      refine hK.out _ _ ?_ (fun hHeld2 => ?_)
      · first | exact ⟨by assumption, by assumption, by assumption, by assumption, by assumption, by assumption, by assumption, by assumption, by assumption, by assumption, by assumption, by assumption⟩ | go_keep
      clear hK K
      try simp only [Act.put, List.setIfInBounds_toArray, List.set_cons_zero, List.set_cons_succ]
      refine wpAnyH_ready (rs := [30]) (by kernel_rfl) (by simp) ?_
      refine consL rfl (fun K hK => ?_) AllReadyH.nil
      refine step_append_rowB rfl _ _ rfl w0.heap.size u.sv d.sent.length (rowB d.sent) rfl HM4.out.rs A4 _ n4 _ rfl HO4.out HA0.out (by have := HLN.out; have := HSN.out; omega) HM4.out.bel.size ?_
      intro v6 w6 hr6 hg6 ha6
      obtain ⟨A6, c6, e6, _⟩ := row_slice hr6
      subst e6
      have HR6 := Lib.hid hr6
      have HG6 := Lib.hid hg6
      have HA6 := Lib.hid ha6
      have HF6 := Lib.hid (HF4.out.grown hg6 (fun i hi => .inl (Sk_sv hi)))
      obtain ⟨x2, x3, x4, xn, xl, xm⟩ := HC.out w6 HF6.out
      have hkk := blk_fr HKA.out HF6.out HXA.out
      have t0 := hkk.cell 0 _ rfl
      have t1 := hkk.cell 1 _ rfl
      have t2 := hkk.cell 2 _ rfl
      have t3 := hkk.cell 3 _ rfl
      have t4 := hkk.cell 4 _ rfl
      have t5 := hkk.cell 5 _ rfl
      have t6 := hkk.cell 6 _ rfl
      have f4 := Blk.free (blk_fr HMA.out.blk HF6.out (HMA.out.gSk k HK.out)) 4
      clear hr6 hg6 ha6 hkk
      refine hK.out _ _ ?_ (fun hHeld3 => ?_)
      · first | exact ⟨by assumption, by assumption, by assumption, by assumption, by assumption, by assumption, by assumption, by assumption, by assumption, by assumption, by assumption, by assumption⟩ | go_keep
      clear hK K
      try simp only [Act.put, List.setIfInBounds_toArray, List.set_cons_zero, List.set_cons_succ]
      refine takeL (i := 31) (v := ?_) rfl (by kernel_rfl) (by kernel_rfl) (by kernel_rfl) (fun _ _ _ h => h) (Or.inl ⟨by rfl, ?_⟩) (by assumption) ?_
      rotate_left
      · intro w' hSw
        (try dsimp only at hSw)
        go_simp
        first | done | with_reducible rfl
      simp only [Act.put, List.setIfInBounds_toArray, List.set_cons_zero, List.set_cons_succ]
      refine takeL (i := 32) (v := ?_) rfl (by kernel_rfl) (by kernel_rfl) (by kernel_rfl) (fun _ _ _ h => h) (Or.inl ⟨by rfl, ?_⟩) (by assumption) ?_
      rotate_left
      · intro w' hSw
        (try dsimp only at hSw)
        go_simp
        first | done | with_reducible rfl
      simp only [Act.put, List.setIfInBounds_toArray, List.set_cons_zero, List.set_cons_succ]
      refine wpAnyH_ready (rs := [33]) (by kernel_rfl) (by simp) ?_
      refine consL rfl (fun K hK => ?_) AllReadyH.nil
      go_simp
      refine hK.out _ _ ?_ (fun hHeld4 => ?_)
      · exact ⟨keep_set (by assumption) (by simp), keep_set (by assumption) (by simp), keep_set (by assumption) (fun e => hnn (congrArg Addr.block e).symm), keep_set (by assumption) (fun e => hln (congrArg Addr.block e).symm), keep_set (by assumption) (fun e => hln (congrArg Addr.block e).symm), keep_set (by assumption) (fun e => hxg (congrArg Addr.block e).symm), keep_set (by assumption) (fun e => hxg (congrArg Addr.block e).symm), keep_set (by assumption) (fun e => hxg (congrArg Addr.block e).symm), keep_set (by assumption) (fun e => hxg (congrArg Addr.block e).symm), keep_set (by assumption) (fun e => hxg (congrArg Addr.block e).symm), keep_set (by assumption) (fun e => hxg (congrArg Addr.block e).symm), keep_set (by assumption) (fun e => hxg (congrArg Addr.block e).symm)⟩
      clear hK K
      refine wpAnyH_done (by kernel_rfl) ?_ _
      refine NoPanic.normal ?_
      go_wp2_with fail
      first | go_end0 | ((try simp only [Exit.inBlock, Exit.then]); refine bodyPost_ret (results_none rfl _ _ _) rfl ?_)
      exact ⟨rfl, _, (rfl : ({ u with sv := (Value.slice A6 _ c6) } : Wl).g = u.g), by rw [HR.out]; exact Wm.send HM4.out rfl HR6.out HG6.out HA6.out⟩
end Go.Proofs.Ytjajgjpkiofhmaa.El
