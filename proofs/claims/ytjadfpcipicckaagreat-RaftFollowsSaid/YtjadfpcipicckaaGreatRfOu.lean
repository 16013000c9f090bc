/-
  Layer 12, a node that does not lead, of which nothing is new: Out: the walk. Conditions: as in RfO.
-/
import Derived.Test.YtjadfpcipicckaaGreatJRfZ
namespace Go.Proofs.YtjadfpcipicckaaGreat.Rf
open Go.RowKit Go.Shelf Go.Proofs.YtjadfpcipicckaaGreat.Fld
open Go.Proofs.YtjadfpcipicckaaGreat.Qu (RdI)
set_option linter.unusedVariables false

/-- a block has changed that is none of its own -/
theorem Fo.apart {lo R : Nat} {w w' : World} {b : FB} {s : FS} {cs : Array Value} {ty : TypeId} (h : Fo lo w b s) (hf : Dk.Fr [R] w w') (hR : ∀ i ∈ b.foot, i ≠ R) (hA : ∀ i ∈ b.p.all, i ≠ R) (hk : Rg.Blk w R cs ty) (h8 : ty ≠ 5) (hI : ty ≠ 3) : Fo lo w' b s := by
  have nin : ∀ i, i ≠ R → i ∉ [R] := fun i h1 hm => h1 (by simpa using hm)
  have ni : NotI w [R] := fun i hi cs hb => by
    obtain rfl : i = R := by simpa using hi
    exact Rg.Blk.ne hk hb hI rfl
  have n8 : Rg.Not8 w [R] := fun i hi cs hb => by
    obtain rfl : i = R := by simpa using hi
    exact Rg.Blk.ne hk hb h8 rfl
  have hb : ∀ i ∈ b.foot, w'.heap[i]? = w.heap[i]? := fun i hi => hf.block i (h.foot_lt i hi) (nin i (hR i hi))
  refine ⟨(hb _ (fmem.2 (by simp))).trans h.blk, h.el.fr hf (fun i hi => nin i (hA i hi)), h.lg.fr hf (fun i hi => nin i (hR i ?_)) n8, Rg.row_of h.row (fun i hi => hb i (fmem.2 (by simp [hi]))), h.grp0.fr hf ni, fun t ht => (h.grp t ht).fr hf ni, fun i hi => ⟨Nat.lt_of_lt_of_le (h.all i hi).1 hf.size, (h.all i hi).2⟩, h.lo, h.last, h.few, h.fts, h.role⟩
  simp only [List.mem_cons, Option.mem_toList] at hi
  rcases hi with rfl | hi
  · exact fmem.2 (by simp)
  · exact fmem.2 (by simp [hi])
def OutNo (lo : Nat) (w : World) (b : FB) (s : FS) (e : Ending) (w' : World) : Prop := e = .returned (.agg #[.bool false, .int .i64 0, .int .i64 0, .bool false, .int .i64 0, .int .i64 0, .slice none 0 0, .slice none 0 0, .slice none 0 0, .int .i64 0, .slice none 0 0, .slice none 0 0]) ∧ Fo lo w' b s ∧ Dk.Fr [b.nb] w w'
set_option maxRecDepth 100000 in
set_option maxHeartbeats 800000 in
theorem fout {lo : Nat} {w : World} {b : FB} {s : FS} (h : Fo lo w b s) (hT : s.hT = s.e.term) (hV : s.hV = s.e.vote) : Calls Tryz.prog 11 #[.pointer (some ⟨b.nb, 0, none⟩)] w (OutNo lo w b s) := by
  have hR := Rg.alloc_below' w (.cells #[.bool false, .int .i64 0, .int .i64 0, .bool false, .int .i64 0, .int .i64 0, .slice none 0 0, .slice none 0 0, .slice none 0 0, .int .i64 0, .slice none 0 0, .slice none 0 0] 48)
  have h1 := h.below hR
  have l0 := ffr_range h1
  unfold fr0 at l0
  have HS := Lib.hid h
  have HBR := Lib.hid hR
  have hun := Tryz.underlying48
  have hin := ready_size
  have hR1 := Rg.alloc_below' (w.alloc (.cells #[.bool false, .int .i64 0, .int .i64 0, .bool false, .int .i64 0, .int .i64 0, .slice none 0 0, .slice none 0 0, .slice none 0 0, .int .i64 0, .slice none 0 0, .slice none 0 0] 48)) (.cells #[.bool false, .int .i64 0, .int .i64 0, .bool false, .int .i64 0, .int .i64 0, .slice none 0 0, .slice none 0 0, .slice none 0 0, .int .i64 0, .slice none 0 0, .slice none 0 0] 48)
  have e0 := (h1.below hR1).c0
  have HS2 := Lib.hid (h1.below hR1)
  have HB2 := Lib.hid (HBR.out.trans (hR1.mono HBR.out.size))
  have k0 := (Rg.Blk.new w #[.bool false, .int .i64 0, .int .i64 0, .bool false, .int .i64 0, .int .i64 0, .slice none 0 0, .slice none 0 0, .slice none 0 0, .int .i64 0, .slice none 0 0, .slice none 0 0] 48).past (.cells #[.bool false, .int .i64 0, .int .i64 0, .bool false, .int .i64 0, .int .i64 0, .slice none 0 0, .slice none 0 0, .slice none 0 0, .int .i64 0, .slice none 0 0, .slice none 0 0] 48)
  have k1 := Rg.Blk.new (w.alloc (.cells #[.bool false, .int .i64 0, .int .i64 0, .bool false, .int .i64 0, .int .i64 0, .slice none 0 0, .slice none 0 0, .slice none 0 0, .int .i64 0, .slice none 0 0, .slice none 0 0] 48)) #[.bool false, .int .i64 0, .int .i64 0, .bool false, .int .i64 0, .int .i64 0, .slice none 0 0, .slice none 0 0, .slice none 0 0, .int .i64 0, .slice none 0 0, .slice none 0 0] 48
  rw [World.size_alloc] at k1
  have HK0 := Lib.hid k0
  have HK1 := Lib.hid k1
  have HH := Lib.hid (El.hard_any b.p s.e _ HS2.out.el)
  have HTV := Lib.hid (And.intro hT hV)
  clear h hR h1 hR1 k0 k1 hT hV
  go_enter Tryz.func11, Tryz.ntmps11
  go_wp2_with (refine wpList_load_mid rfl 48 _ rfl b.nb 12 rfl _ _ l0 hun rfl hin ?_)
  generalize (w.alloc (.cells #[.bool false, .int .i64 0, .int .i64 0, .bool false, .int .i64 0, .int .i64 0, .slice none 0 0, .slice none 0 0, .slice none 0 0, .int .i64 0, .slice none 0 0, .slice none 0 0] 48)).alloc (.cells #[.bool false, .int .i64 0, .int .i64 0, .bool false, .int .i64 0, .int .i64 0, .slice none 0 0, .slice none 0 0, .slice none 0 0, .int .i64 0, .slice none 0 0, .slice none 0 0] 48) = w2 at *
  clear l0
  refine HH.out.mono ?_
  rintro e w3 ⟨rfl, hb3⟩
  have hb4 := hb3.alloc hb3.size (.cells #[.int .i64 s.e.term, .int .i64 s.e.vote] 23)
  have HB4 := Lib.hid (HB2.out.trans (hb4.mono HB2.out.size))
  have HS4 := Lib.hid (HS2.out.below hb4)
  have HK04 := Lib.hid (HK0.out.below hb4)
  have HK14 := Lib.hid (HK1.out.below hb4)
  have HKH := Lib.hid (Rg.Blk.new w3 #[.int .i64 s.e.term, .int .i64 s.e.vote] 23)
  clear hb3 hb4 e0
  go_wp2_with fail
  generalize w3.alloc (.cells #[.int .i64 s.e.term, .int .i64 s.e.vote] 23) = w4 at *
  generalize w3.heap.size = hb at *
  have c10 := HS4.out.c10
  have c11 := HS4.out.c11
  have g0 := HKH.out.cell 0 (.int .i64 s.e.term) rfl
  have g1 := HKH.out.cell 1 (.int .i64 s.e.vote) rfl
  rw [HTV.out.1] at c10
  rw [HTV.out.2] at c11
  generalize htt : s.e.term = tt at *
  generalize htv : s.e.vote = tv at *
  have HTT := Lib.hid (And.intro htt htv)
  clear htt htv
  have qn := fun w => neq_hard tt tv tt tv w
  rw [show (!(tt == tt && tv == tv)) = false by simp] at qn
  have qg := fun op x y w => guard_hard op x y #[.int .i64 tt, .int .i64 tv] #[.int .i64 tt, .int .i64 tv] w
  go_quiet (fail)
  have HB5 := Lib.hid (HB4.out.trans ((Qu.below_dr w4 nq).mono HB4.out.size))
  have HS5 := Lib.hid (HS4.out.below (Qu.below_dr w4 nq))
  have HK05 := Lib.hid (HK04.out.below (Qu.below_dr w4 nq))
  have HK15 := Lib.hid (HK14.out.below (Qu.below_dr w4 nq))
  clear c10 c11 g0 g1
  generalize w4.drewN nq = w5 at *
  have q3 := HK15.out.cell 3 (.bool false) rfl
  have e0 := HS5.out.c0
  have HH6 := Lib.hid (El.hard_any b.p s.e _ HS5.out.el)
  rw [HTT.out.1, HTT.out.2] at HH6
  go_wp2_with fail
  refine HH6.out.mono ?_
  rintro e w7 ⟨rfl, hb7⟩
  have HS7 := Lib.hid (HS5.out.below hb7)
  have HF7 := Lib.hid (show Dk.Fr [b.nb] w w7 from (Dk.Fr.below HB5.out).same (Dk.Fr.below hb7))
  have HK7 := Lib.hid (HK15.out.below hb7)
  have HK07 := Lib.hid (HK05.out.below hb7)
  have HA8 := Lib.hid HS7.out.outs
  have HT7 := Lib.hid (fthere12 HS7.out)
  have hone := fr0_one
  clear hb7 q3 e0
  have hbn := HS.out.blk.lt
  have HF8 := Lib.hid (HF7.out.same HA8.out.2)
  have HK8 := Lib.hid (show Rg.Blk (w7.setCells b.nb 12 fr0) (w.heap.size + 1) _ _ from (HA8.out.2.block (w.heap.size + 1) HK7.out.lt (fun hm => by simp at hm; omega)).trans HK7.out)
  have HK08 := Lib.hid (show Rg.Blk (w7.setCells b.nb 12 fr0) w.heap.size _ _ from (HA8.out.2.block w.heap.size HK07.out.lt (fun hm => by simp at hm; omega)).trans HK07.out)
  have HA8 := Lib.hid HA8.out.1
  clear hbn
  go_upto_region 8 with (refine wpList_store_mid rfl 48 _ _ rfl b.nb 12 #[.bool false, .int .i64 0, .int .i64 0, .bool false, .int .i64 0, .int .i64 0, .slice none 0 0, .slice none 0 0, .slice none 0 0, .int .i64 0, .slice none 0 0, .slice none 0 0] rfl rfl HT7.out hin hone ?_; change wpList _ _ _ _ _ (w7.setCells b.nb 12 fr0); generalize w7.setCells b.nb 12 fr0 = w8 at *; have d10 : w8.cell? ⟨b.nb, 10, none⟩ = some (.int .i64 s.hT) := HA8.out.c10; have d11 : w8.cell? ⟨b.nb, 11, none⟩ = some (.int .i64 s.hV) := HA8.out.c11; have z10 : w8.frozen? ⟨b.nb, 10, none⟩ = false := HA8.out.free 10; have z11 : w8.frozen? ⟨b.nb, 11, none⟩ = false := HA8.out.free 11)
  have h10 := HA8.out.keep 10 (.int .i64 tt) (by show some (Value.int .i64 s.hT) = some (Value.int .i64 tt); rw [HTV.out.1]) (by omega)
  have h11 := h10.1.keep 11 (.int .i64 tv) (by show some (Value.int .i64 s.hV) = some (Value.int .i64 tv); rw [HTV.out.2]) (by omega)
  have HF9 := Lib.hid (HF8.out.same (h10.2.same h11.2))
  have HS9 := Lib.hid h11.1
  have hbn := HS.out.blk.lt
  have HK9 := Lib.hid (show Rg.Blk ((w8.setCell ⟨b.nb, 10, none⟩ (.int .i64 tt)).setCell ⟨b.nb, 11, none⟩ (.int .i64 tv)) (w.heap.size + 1) _ _ from ((h10.2.same h11.2).block (w.heap.size + 1) HK8.out.lt (fun hm => by simp at hm; omega)).trans HK8.out)
  have HK09 := Lib.hid (show Rg.Blk ((w8.setCell ⟨b.nb, 10, none⟩ (.int .i64 tt)).setCell ⟨b.nb, 11, none⟩ (.int .i64 tv)) w.heap.size _ _ from ((h10.2.same h11.2).block w.heap.size HK08.out.lt (fun hm => by simp at hm; omega)).trans HK08.out)
  clear h10 h11 d10 d11 z10 z11 hbn
  generalize (w8.setCell ⟨b.nb, 10, none⟩ (.int .i64 tt)).setCell ⟨b.nb, 11, none⟩ (.int .i64 tv) = w9 at *
  have l1 := rangeB (cs := [.bool false, .int .i64 0, .int .i64 0, .bool false, .int .i64 0, .int .i64 0, .slice none 0 0, .slice none 0 0, .slice none 0 0, .int .i64 0, .slice none 0 0, .slice none 0 0]) HK9.out
  have HTR := Lib.hid (thereB HK09.out 12 rfl)
  have HX := Lib.hid (HS9.out.apart (R := w.heap.size) (show Dk.Fr [w.heap.size] w9 (w9.setCells w.heap.size 0 [.bool false, .int .i64 0, .int .i64 0, .bool false, .int .i64 0, .int .i64 0, .slice none 0 0, .slice none 0 0, .slice none 0 0, .int .i64 0, .slice none 0 0, .slice none 0 0]) from fr_setCells _ _ _ (Dk.Fr.refl _ _) (.inl (by simp))) (fun i hi => by have := HS.out.foot_lt i hi; omega) (fun i hi => by have := (HS.out.all i hi).1; omega) HK09.out (by decide) (by decide))
  have HFX := Lib.hid (show Dk.Fr [b.nb] w (w9.setCells w.heap.size 0 [.bool false, .int .i64 0, .int .i64 0, .bool false, .int .i64 0, .int .i64 0, .slice none 0 0, .slice none 0 0, .slice none 0 0, .int .i64 0, .slice none 0 0, .slice none 0 0]) from fr_setCells _ _ _ HF9.out (.inr (Nat.le_refl _)))
  have HRX := Lib.hid (show (w9.setCells w.heap.size 0 [.bool false, .int .i64 0, .int .i64 0, .bool false, .int .i64 0, .int .i64 0, .slice none 0 0, .slice none 0 0, .slice none 0 0, .int .i64 0, .slice none 0 0, .slice none 0 0]).rangeAt w.heap.size 0 [.bool false, .int .i64 0, .int .i64 0, .bool false, .int .i64 0, .int .i64 0, .slice none 0 0, .slice none 0 0, .slice none 0 0, .int .i64 0, .slice none 0 0, .slice none 0 0] from World.rangeAt_setCells_same _ _ _ _ (by exact HTR.out))
  go_wp2_with (first | refine wpList_load_mid rfl 48 _ rfl (w.heap.size + 1) 0 rfl _ _ l1 hun rfl hin ?_ | (refine wpList_store_mid rfl 48 _ _ rfl w.heap.size 0 #[.bool false, .int .i64 0, .int .i64 0, .bool false, .int .i64 0, .int .i64 0, .slice none 0 0, .slice none 0 0, .slice none 0 0, .int .i64 0, .slice none 0 0, .slice none 0 0] rfl rfl HTR.out hin hone ?_; change wpList _ _ _ _ _ (w9.setCells w.heap.size 0 [.bool false, .int .i64 0, .int .i64 0, .bool false, .int .i64 0, .int .i64 0, .slice none 0 0, .slice none 0 0, .slice none 0 0, .int .i64 0, .slice none 0 0, .slice none 0 0]); generalize w9.setCells w.heap.size 0 [.bool false, .int .i64 0, .int .i64 0, .bool false, .int .i64 0, .int .i64 0, .slice none 0 0, .slice none 0 0, .slice none 0 0, .int .i64 0, .slice none 0 0, .slice none 0 0] = wx at *))
  refine bodyPost_ret (results_cell_mid rfl _ _ w.heap.size _ _ rfl HRX.out hun rfl hin) rfl ?_
  exact ⟨rfl, HX.out, HFX.out⟩
end Go.Proofs.YtjadfpcipicckaaGreat.Rf
