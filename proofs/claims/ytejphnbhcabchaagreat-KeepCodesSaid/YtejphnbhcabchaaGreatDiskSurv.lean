/-
  What a crash leaves of a file. Conditions: the file's bytes can be read.
-/
import Derived.Test.YtejphnbhcabchaaGreatDiskRead
namespace Go.Proofs.YtejphnbhcabchaaGreat.Dk
open Go.RowKit Go.Proofs.YtejphnbhcabchaaGreat.Fld

def nstay (k : Int) (n s : Nat) : Nat := s + (min (max k 0) ((n - s : Nat) : Int)).toNat
theorem own_set {w0 w : World} {v : Value} {zs : List Int} (h : Own w0 w v zs) (p : Addr) (hp : w0.heap.size ≤ p.block) (hv : v.ownBlock ≠ some p.block) (u : Value) : Own w0 (w.setCell p u) v zs := by
  obtain ⟨hb, hby, hl, h⟩ := h
  refine ⟨hb.setCell hp _, hby, hl, ?_⟩
  rcases h with h | ⟨q, cap, cur, rfl, hg, hh, r⟩
  · exact .inl h
  · exact .inr ⟨q, cap, cur, rfl, hg, (Below.heap_setCell _ _ _ _ (by intro e; apply hv; rw [e]; rfl)).trans hh, r⟩
theorem own_ge {w0 w : World} {v : Value} {zs : List Int} (h : Own w0 w v zs) {i : Nat} (hi : v.ownBlock = some i) : w0.heap.size ≤ i := by
  rcases h.2.2.2 with ⟨rfl, _⟩ | ⟨q, cap, cur, rfl, hg, _⟩
  · cases hi
  · cases hi; exact hg
set_option maxRecDepth 100000 in
set_option maxHeartbeats 3200000 in
theorem survivor_any (A : Option Addr) (n cap s : Nat) (k : Int) (zs : List Int) (w : World) (hr : Sl w A n cap zs) (hs : s ≤ n) (hn : n ≤ 16777216) :
    Calls Tryz.prog 44 #[.agg #[.slice A n cap, .int .i64 (s : Int)], .int .i64 k] w fun e w' => ∃ v, e = .returned (.agg #[v, .int .i64 (nstay k n s : Nat)]) ∧ Own w w' v (zs.take (nstay k n s)) := by
  obtain ⟨E, hE⟩ : ∃ E, E = nstay k n s := ⟨_, rfl⟩
  have hEn : E ≤ n := by rw [hE]; unfold nstay; omega
  have hle := hr.2.1
  rw [← hE]
  have hsum : (s : Int) + min (max k 0) ((n : Int) - (s : Int)) = (E : Int) := by rw [hE]; unfold nstay; omega
  have hmin : IntKind.i64.wrap ((n : Int) - (s : Int)) = (n : Int) - (s : Int) := IntWalk.i64_in _ (by omega)
  have hb2 : Below w.heap.size w ((w.alloc (.cells #[.slice A n cap, .int .i64 (s : Int)] 82)).alloc (.cells #[.slice none 0 0, .int .i64 0] 82)) := ((Below.refl _ _).alloc (Nat.le_refl _) _).alloc (by simp) _
  have hC := clone_any A E cap (zs.take E) _ ((hr.1.cut E hEn).below hb2) hr.2.2.2.1 (by omega)
  have hN : ((w.alloc (.cells #[.slice A n cap, .int .i64 (s : Int)] 82)).alloc (.cells #[.slice none 0 0, .int .i64 0] 82)).heap[w.heap.size + 1]? = some (.cells #[.slice none 0 0, .int .i64 0] 82 (0, 0)) := by
    have := heap_alloc_new (w.alloc (.cells #[.slice A n cap, .int .i64 (s : Int)] 82)) (.cells #[.slice none 0 0, .int .i64 0] 82)
    rwa [size_up] at this
  have hsz : ((w.alloc (.cells #[.slice A n cap, .int .i64 (s : Int)] 82)).alloc (.cells #[.slice none 0 0, .int .i64 0] 82)).heap.size = w.heap.size + 1 + 1 := by rw [size_up, size_up]
  have HC := Lib.hid hC
  have HB := Lib.hid hb2
  have HN := Lib.hid hN
  have HSZ := Lib.hid hsz
  have HL := Lib.hid (show (zs.take E).length = E by rw [List.length_take, hr.1.1]; omega)
  clear hr hE hC hb2 hN hsz
  go_enter Tryz.func44, Tryz.ntmps44
  go_wp2_with (go_at_call 83; refine HC.out.mono ?_; rintro e w' ⟨v, rfl, hO⟩; have hN' := (hO.1.block (w.heap.size + 1) (by rw [HSZ.out]; omega)).trans HN.out; have k0 := cell_of_row w' (w.heap.size + 1) 0 _ _ (0, 0) hN'; have k1 := cell_of_row w' (w.heap.size + 1) 1 _ _ (0, 0) hN'; have z0 := frozen_of_row w' (w.heap.size + 1) 0 _ _ hN'; have z1 := frozen_of_row w' (w.heap.size + 1) 1 _ _ hN'; have HO := Lib.hid hO; obtain ⟨A2, c2, hv2, _, _⟩ := hO.form E HL.out; subst hv2; have HN2 := Lib.hid hN'; clear hO hN')
  have hG := heap_setCell_same _ (w.heap.size + 1) 1 _ _ (.int .i64 (E : Int)) (heap_setCell_same w' (w.heap.size + 1) 0 _ _ (.slice A2 E c2) HN2.out)
  refine bodyPost_ret (results_cell_row rfl _ _ (w.heap.size + 1) _ #[.slice A2 E c2, .int .i64 (E : Int)] (0, 0) _ rfl hG Tryz.underlying82 rfl (by kernel_rfl)) rfl ?_
  have hO2 : Own w w' (.slice A2 E c2) (zs.take E) := HO.out.since HB.out
  have hne : (Value.slice A2 E c2).ownBlock ≠ some (w.heap.size + 1) := fun h => by have := own_ge HO.out h; rw [HSZ.out] at this; omega
  exact ⟨_, rfl, own_set (own_set hO2 ⟨w.heap.size + 1, 0, none⟩ (by simp) hne _) ⟨w.heap.size + 1, 1, none⟩ (by simp) hne _⟩
end Go.Proofs.YtejphnbhcabchaaGreat.Dk
