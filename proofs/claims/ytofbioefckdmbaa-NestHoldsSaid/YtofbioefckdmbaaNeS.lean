/-
  Layer 14, the program's own: rooms: what each class's own limit leaves. Conditions: the limits and the sales can be read, as many of both, at most eight, all of them numbers of seats.
-/
import Derived.Test.YtofbioefckdmbaaNeR
import Derived.Test.YtofbioefckdmbaaRndIn
namespace Go.Proofs.Ytofbioefckdmbaa.Ne
open Go.RowKit Go.Shelf Go.Proofs.Ytofbioefckdmbaa.Fld
open Go.Proofs.Ytofbioefckdmbaa.Qu (Blk RdI RdI.below vI vI_at vI_len int_info alloc_below drew_add below_dr)
set_option linter.unusedVariables false
attribute [local go_sem] Oper.semAt_some

/-- the memory that rooms makes ahead of its rounds -/
def rW (w : World) (A : Option Addr) (n cap : Nat) (B : Option Addr) (cap2 : Nat) : World :=
  ((((((w.alloc (.cells #[.slice A n cap] 24)).alloc (.cells #[.slice B n cap2] 24)).alloc (.cells #[.int .i64 0] 3)).alloc (.cells #[.func (.func 34) #[] #[.pointer (some ⟨w.heap.size + 2, 0, none⟩), .pointer (some ⟨w.heap.size + 1, 0, none⟩), .pointer (some ⟨w.heap.size, 0, none⟩)]] 49)).alloc (.cells (iRow (List.replicate n 0)) 3)).alloc (.cells #[.slice (some ⟨w.heap.size + 4, 0, none⟩) n n] 24)).alloc (.cells #[.slice A n cap] 24)
theorem rW_facts (w : World) (A : Option Addr) (n cap : Nat) (B : Option Addr) (cap2 : Nat) :
    Below w.heap.size w (rW w A n cap B cap2) ∧ (rW w A n cap B cap2).heap.size = w.heap.size + 7 ∧ Blk (rW w A n cap B cap2) w.heap.size #[.slice A n cap] 24 ∧ Blk (rW w A n cap B cap2) (w.heap.size + 1) #[.slice B n cap2] 24 ∧ Blk (rW w A n cap B cap2) (w.heap.size + 2) #[.int .i64 0] 3 ∧
    Blk (rW w A n cap B cap2) (w.heap.size + 3) #[.func (.func 34) #[] #[.pointer (some ⟨w.heap.size + 2, 0, none⟩), .pointer (some ⟨w.heap.size + 1, 0, none⟩), .pointer (some ⟨w.heap.size, 0, none⟩)]] 49 ∧ Blk (rW w A n cap B cap2) (w.heap.size + 4) (iRow (List.replicate n 0)) 3 ∧
    Blk (rW w A n cap B cap2) (w.heap.size + 5) #[.slice (some ⟨w.heap.size + 4, 0, none⟩) n n] 24 ∧ Blk (rW w A n cap B cap2) (w.heap.size + 6) #[.slice A n cap] 24 := by
  have new' : ∀ (W : World) (cs : Array Value) (ty : TypeId) (k : Nat), W.heap.size = k → Blk (W.alloc (.cells cs ty)) k cs ty := fun W cs ty k h => by subst h; exact Qu.Blk.new _ _ _
  unfold rW
  refine ⟨((((((alloc_below w _).alloc (by simp) _).alloc (by simp; omega) _).alloc (by simp; omega) _).alloc (by simp; omega) _).alloc (by simp; omega) _).alloc (by simp; omega) _, by simp, ?_, ?_, ?_, ?_, ?_, ?_, ?_⟩
  · exact Qu.Blk.past (Qu.Blk.past (Qu.Blk.past (Qu.Blk.past (Qu.Blk.past (Qu.Blk.past (new' _ _ _ _ rfl) _) _) _) _) _) _
  · exact Qu.Blk.past (Qu.Blk.past (Qu.Blk.past (Qu.Blk.past (Qu.Blk.past (new' _ _ _ _ (by simp)) _) _) _) _) _
  · exact Qu.Blk.past (Qu.Blk.past (Qu.Blk.past (Qu.Blk.past (new' _ _ _ _ (by simp)) _) _) _) _
  · exact Qu.Blk.past (Qu.Blk.past (Qu.Blk.past (new' _ _ _ _ (by simp)) _) _) _
  · exact Qu.Blk.past (Qu.Blk.past (new' _ _ _ _ (by simp)) _) _
  · exact Qu.Blk.past (new' _ _ _ _ (by simp)) _
  · exact new' _ _ _ _ (by simp)
/-- what does not change from round to round -/
def Fix (z : Nat) (A : Option Addr) (n cap : Nat) (B : Option Addr) (cap2 : Nat) (W : World) : Prop :=
  Blk W z #[.slice A n cap] 24 ∧ Blk W (z + 1) #[.slice B n cap2] 24 ∧ Blk W (z + 3) #[.func (.func 34) #[] #[.pointer (some ⟨z + 2, 0, none⟩), .pointer (some ⟨z + 1, 0, none⟩), .pointer (some ⟨z, 0, none⟩)]] 49 ∧ Blk W (z + 5) #[.slice (some ⟨z + 4, 0, none⟩) n n] 24 ∧ Blk W (z + 6) #[.slice A n cap] 24
def Var (z : Nat) (s : Int × List Int) (W : World) : Prop := Blk W (z + 2) #[.int .i64 s.1] 3 ∧ Blk W (z + 4) (iRow s.2) 3
theorem blk_dr {W : World} {B : Nat} {cs : Array Value} {ty : TypeId} (h : Blk W B cs ty) (j : Nat) : Blk (W.drewN j) B cs ty := h
theorem Fix.run {z : Nat} {A : Option Addr} {n cap : Nat} {B : Option Addr} {cap2 : Nat} {W : World} (h : Fix z A n cap B cap2 W) (k : Nat) (v : Value) (hk : k = z + 2 ∨ k = z + 4) (i : Nat) : Fix z A n cap B cap2 (W.setCell ⟨k, i, none⟩ v) := by
  obtain ⟨f0, f1, f3, f5, f6⟩ := h
  exact ⟨Qu.Blk.far f0 _ (by show k ≠ _; omega) _, Qu.Blk.far f1 _ (by show k ≠ _; omega) _, Qu.Blk.far f3 _ (by show k ≠ _; omega) _, Qu.Blk.far f5 _ (by show k ≠ _; omega) _, Qu.Blk.far f6 _ (by show k ≠ _; omega) _⟩
theorem Fix.dr {z : Nat} {A : Option Addr} {n cap : Nat} {B : Option Addr} {cap2 : Nat} {W : World} (h : Fix z A n cap B cap2 W) (j : Nat) : Fix z A n cap B cap2 (W.drewN j) := h
theorem ko_dr (W : World) (j : Nat) : KeepsOthers W (W.drewN j) := ⟨Nat.le_refl _, fun _ _ h _ => h⟩
theorem rd_lt {w : World} {A : Option Addr} {n : Nat} {ks : List Int} (h : RdI w A n ks) (hn : 0 < n) : ∀ a, A = some a → a.block < w.heap.size := by
  intro a ha
  obtain ⟨b, off, he, hc⟩ := h.2.2 hn
  rw [ha] at he
  cases he
  exact lt_of_cell (hc 0 hn)
/-- what a round leaves: the cells of the total and of the row are written -/
theorem round_facts {z : Nat} {A : Option Addr} {n cap : Nat} {B : Option Addr} {cap2 : Nat} {L S : List Int} {s : Int × List Int} {w0 W : World} (x : Nat) (hx : x < s.2.length) (hv : Var z s W) (hf : Fix z A n cap B cap2 W) (hB : Below z w0 W) (h0 : z = w0.heap.size) (j : Nat) :
    Var z (stp L S s x) ((((W.setCell ⟨z + 2, 0, none⟩ (.int .i64 (s.1 + S.getD x 0))).drewN j).setCell ⟨z + 4, x, none⟩ (.int .i64 (L.getD x 0 - (s.1 + S.getD x 0))))) ∧ Fix z A n cap B cap2 ((((W.setCell ⟨z + 2, 0, none⟩ (.int .i64 (s.1 + S.getD x 0))).drewN j).setCell ⟨z + 4, x, none⟩ (.int .i64 (L.getD x 0 - (s.1 + S.getD x 0))))) ∧
    Below z w0 ((((W.setCell ⟨z + 2, 0, none⟩ (.int .i64 (s.1 + S.getD x 0))).drewN j).setCell ⟨z + 4, x, none⟩ (.int .i64 (L.getD x 0 - (s.1 + S.getD x 0))))) ∧ Kp z (z + 6) W ((((W.setCell ⟨z + 2, 0, none⟩ (.int .i64 (s.1 + S.getD x 0))).drewN j).setCell ⟨z + 4, x, none⟩ (.int .i64 (L.getD x 0 - (s.1 + S.getD x 0))))) ∧
    KeepsOthers W ((((W.setCell ⟨z + 2, 0, none⟩ (.int .i64 (s.1 + S.getD x 0))).drewN j).setCell ⟨z + 4, x, none⟩ (.int .i64 (L.getD x 0 - (s.1 + S.getD x 0))))) := by
  obtain ⟨v1, v2⟩ := hv
  have hb : Below z W ((((W.setCell ⟨z + 2, 0, none⟩ (.int .i64 (s.1 + S.getD x 0))).drewN j).setCell ⟨z + 4, x, none⟩ (.int .i64 (L.getD x 0 - (s.1 + S.getD x 0))))) :=
    (below_drewN ((Below.refl z W).setCell (p := ⟨z + 2, 0, none⟩) (by show z ≤ z + 2; omega) _) j).setCell (p := ⟨z + 4, x, none⟩) (by show z ≤ z + 4; omega) _
  refine ⟨⟨?_, ?_⟩, ?_, hB.trans hb, ⟨hb, fun cs ty q => ?_⟩, ((KeepsOthers.setCell _ _ _).trans (ko_dr _ j)).trans (KeepsOthers.setCell _ _ _)⟩
  · exact Qu.Blk.far (blk_dr (Qu.Blk.set v1 0 (.int .i64 (s.1 + S.getD x 0)) (by show 0 < 1; omega)) j) _ (by show z + 4 ≠ z + 2; omega) _
  · have := Qu.Blk.set (blk_dr (Qu.Blk.far v2 ⟨z + 2, 0, none⟩ (by show z + 2 ≠ z + 4; omega) (.int .i64 (s.1 + S.getD x 0))) j) x (.int .i64 (L.getD x 0 - (s.1 + S.getD x 0))) (by rw [iRow_size]; exact hx)
    rw [iRow_set] at this
    exact this
  · exact ((hf.run (z + 2) _ (.inl rfl) 0).dr j).run (z + 4) _ (.inr rfl) x
  · exact Qu.Blk.far (blk_dr (Qu.Blk.far q _ (by show z + 2 ≠ z + 6; omega) _) j) _ (by show z + 4 ≠ z + 6; omega) _
set_option maxRecDepth 100000 in
set_option maxHeartbeats 3200000 in
theorem rooms_in (A : Option Addr) (n cap : Nat) (L : List Int) (B : Option Addr) (cap2 : Nat) (S : List Int) (w : World) (ha : RdI w A n L) (hb : RdI w B n S) (hn : n ≤ 8) (hL : cntP L) (hS : cntP S) :
    CallsIn Fence.wide 8 Try.prog 27 #[.slice A n cap, .slice B n cap2] w fun e w' => e = .returned (.slice (some ⟨w.heap.size + 4, 0, none⟩) n n) ∧ Blk w' (w.heap.size + 4) (iRow (rmL L S)) 3 ∧ Below w.heap.size w w' := by
  refine callsIn_of_wp_marks Try.func27 rfl trivial ?_ rfl
  simp only [Try.ntmps27, List.size_toArray, List.length_cons, List.length_nil, Nat.reduceAdd, Nat.reduceSub, Array.replicate_succ, Array.replicate_zero, List.push_toArray, List.append_toArray, List.nil_append, List.cons_append]
  have HA := Lib.hid ha
  have HBB := Lib.hid hb
  have HLc := Lib.hid hL
  have HSc := Lib.hid hS
  have HF := Lib.hid (rW_facts w A n cap B cap2)
  have hmk := fun W => run_mkI n (by omega) W
  clear ha hb hL hS
  gi_wp2_with (refine ⟨trivial, ?_⟩; gi_at_call 35; refine (back_call _ A n cap _).mono ?_; rintro e w' ⟨rfl, rfl⟩)
  simp only [Nat.add_assoc, Nat.reduceAdd]
  obtain ⟨W0, hW0⟩ : ∃ W0, rW w A n cap B cap2 = W0 := ⟨_, rfl⟩
  have hW0' := hW0
  unfold rW at hW0'
  rw [hW0']
  clear hW0'
  rw [hW0] at HF
  obtain ⟨hB0, hs0, g0, g1, g2, g3, g4, g5, g6⟩ := HF.out
  clear HF hW0 hmk
  have HLN := Lib.hid HA.out.1
  have HSN := Lib.hid HBB.out.1
  refine wpIn_rangeFunc_ownF (α := Fin n) rfl (by omega) (gf := 40) (lb := #[.pointer (some ⟨w.heap.size + 6, 0, none⟩)]) rfl trivial (enters_of Try.func40 (by kernel_rfl) rfl)
    (back_stops 7 (by omega) (w.heap.size + 6) w W0 hB0 A n cap L HA.out 24 g6) kp_t (kp_b (by omega)) (Below.refl _ _) (fun _ => rfl)
    (fun pre W => (Var w.heap.size (st L S n pre) W ∧ Fix w.heap.size A n cap B cap2 W) ∧ Below w.heap.size w W)
    (fun _ _ _ => False)
    (fun s X Y row hs hg hr => ⟨⟨⟨blk_own (β := Unit) _ _ _ () X Y row hs.1.1.1 hg (fun r e => (hr r e).2), blk_own (β := Unit) _ _ _ () X Y row hs.1.1.2 hg (fun r e => (hr r e).2)⟩, ⟨blk_own (β := Unit) _ _ _ () X Y row hs.1.2.1 hg (fun r e => (hr r e).2), blk_own (β := Unit) _ _ _ () X Y row hs.1.2.2.1 hg (fun r e => (hr r e).2), blk_own (β := Unit) _ _ _ () X Y row hs.1.2.2.2.1 hg (fun r e => (hr r e).2), blk_own (β := Unit) _ _ _ () X Y row hs.1.2.2.2.2.1 hg (fun r e => (hr r e).2), blk_own (β := Unit) _ _ _ () X Y row hs.1.2.2.2.2.2 hg (fun r e => (hr r e).2)⟩⟩, ownFrom_below (β := Unit) (n₀ := w.heap.size) (B := W0.heap.size) (Nat.le_refl _) (by omega) () X Y row hs.2 hg hr⟩)
    (fun _ _ _ _ _ hs _ _ => hs.elim)
    ⟨⟨⟨g2, g4⟩, ⟨g0, g1, g3, g5, g6⟩⟩, hB0⟩
    (fun x => { tmps := #[.slice A n cap, .slice B n cap2, .pointer (some ⟨w.heap.size, 0, none⟩), .pointer (some ⟨w.heap.size + 1, 0, none⟩), .slice none 0 0, .pointer (some ⟨w.heap.size + 2, 0, none⟩), .pointer (some ⟨w.heap.size + 3, 0, none⟩), .pointer (some ⟨w.heap.size + 5, 0, none⟩), .int .i64 ((x.1 : Nat) : Int), .func (.func 34) #[] #[.pointer (some ⟨w.heap.size + 2, 0, none⟩), .pointer (some ⟨w.heap.size + 1, 0, none⟩), .pointer (some ⟨w.heap.size, 0, none⟩)], .slice A n cap, .int .i64 (n : Int), .slice (some ⟨w.heap.size + 4, 0, none⟩) n n, .slice A n cap, .func (.func 40) #[] #[.pointer (some ⟨w.heap.size + 6, 0, none⟩)], .int .i64 ((x.1 : Nat) : Int), .int .i64 (atI L x.1), undef, undef, undef, undef, undef, undef, undef], defers := [] })
    ?assign ?body ?done ?stop
  case assign =>
    intro l x W K hK
    gi_wp2
    exact hK
  case body =>
    rintro l pre x W ⟨⟨hv, hf⟩, hB⟩ hlt
    have hmx : Try.prog.follows .mixedOrders = true := by kernel_rfl
    have hsl := st_len L S n pre
    have hsb := st_bd (L := L) HSc.out HSN.out pre
    have HSS := Lib.hid (st_snoc L S n pre x)
    have HV := Lib.hid hv
    have HFX := Lib.hid hf
    have HBL := Lib.hid hB
    obtain ⟨i, hi⟩ := x
    have y1 := HLc.out i (by rw [HLN.out]; exact hi)
    have y2 := HSc.out i (by rw [HSN.out]; exact hi)
    dsimp only at HSS ⊢
    generalize st L S n pre = s at *
    have h0 : 0 < n := by omega
    have HR1 := Lib.hid (room1_any (w.heap.size + 2) (w.heap.size + 1) w.heap.size A n cap L B n cap2 S s.1 i W.drew HV.out.1 HFX.out.2.1 HFX.out.1 (HA.out.below HBL.out.drew) (HBB.out.below HBL.out.drew) (fun a h => by have := rd_lt HA.out h0 a h; omega) (fun a h => by have := rd_lt HBB.out h0 a h; omega) (by omega) (by omega) hi hi (by omega) (by omega))
    have HRF := Lib.hid (fun (j : Nat) => round_facts (L := L) (S := S) (W := W.drew) i (by omega) (HV.out) (HFX.out) HBL.out.drew rfl j)
    have HW5 := Lib.hid (fun (j : Nat) => ((show Fix w.heap.size A n cap B cap2 W.drew from HFX.out).run (w.heap.size + 2) (.int .i64 (s.1 + S.getD i 0)) (.inl rfl) 0).dr j)
    have HG5 := Lib.hid (fun (j : Nat) => blk_dr (Qu.Blk.far (show Blk W.drew (w.heap.size + 4) (iRow s.2) 3 from HV.out.2) ⟨w.heap.size + 2, 0, none⟩ (by show w.heap.size + 2 ≠ w.heap.size + 4; omega) (.int .i64 (s.1 + S.getD i 0))) j)
    have c5 := HFX.out.2.2.2.1.cell 0 (.slice (some ⟨w.heap.size + 4, 0, none⟩) n n) rfl
    have c3 := HFX.out.2.2.1.cell 0 (.func (.func 34) #[] #[.pointer (some ⟨w.heap.size + 2, 0, none⟩), .pointer (some ⟨w.heap.size + 1, 0, none⟩), .pointer (some ⟨w.heap.size, 0, none⟩)]) rfl
    clear hv hf hB
    obtain ⟨X, hX⟩ : ∃ X, L.getD i 0 - (s.1 + S.getD i 0) = X := ⟨_, rfl⟩
    rw [hX] at HR1 HRF
    clear hX
    have i0 : (0 : Int) ≤ (i : Int) := by omega
    have i1 : (i : Int) < (n : Int) := by omega
    gi_wp2_with fail
    refine wpIn_region_any hmx ?_
    try (change wpAnyIn _ _ _ _ _ _ _ _ _ (World.drew _))
    refine wpAnyIn_round (no_defer (by kernel_rfl)) _ _ _ _ ?_
    refine wpAnyIn_take (i := 1) (v := .int .i64 (i : Int)) rfl rfl (by kernel_rfl) (by kernel_rfl) (by kernel_rfl) (fun _ _ _ h => h) ⟨Or.inl ⟨by kernel_rfl, fun w => by go_simp⟩, fun w => by rfl⟩ ?_
    refine wpAnyIn_take (i := 3) (v := .int .i64 (i : Int)) rfl rfl (by kernel_rfl) (by kernel_rfl) (by kernel_rfl) (fun _ _ _ h => h) ⟨Or.inl ⟨by kernel_rfl, fun w => by go_simp⟩, fun w => by rfl⟩ ?_
    try simp only [Act.put]
    repeat' (first
      | refine wpAnyIn_done (by decide +kernel) ?_ _
      | refine wpAnyIn_ready (rs := [0, 2]) (by decide +kernel) (by simp) (AllReadyIn.cons rfl (fun K hK => ?_) (AllReadyIn.cons rfl (fun K hK => ?_) AllReadyIn.nil))
      | refine wpAnyIn_ready (rs := [2, 5]) (by decide +kernel) (by simp) (AllReadyIn.cons rfl (fun K hK => ?_) (AllReadyIn.cons rfl (fun K hK => ?_) AllReadyIn.nil))
      | refine wpAnyIn_ready (rs := [0, 4]) (by decide +kernel) (by simp) (AllReadyIn.cons rfl (fun K hK => ?_) (AllReadyIn.cons rfl (fun K hK => ?_) AllReadyIn.nil))
      | refine wpAnyIn_ready (rs := [4, 5]) (by decide +kernel) (by simp) (AllReadyIn.cons rfl (fun K hK => ?_) (AllReadyIn.cons rfl (fun K hK => ?_) AllReadyIn.nil))
      | refine wpAnyIn_ready (rs := [2, 6]) (by decide +kernel) (by simp) (AllReadyIn.cons rfl (fun K hK => ?_) (AllReadyIn.cons rfl (fun K hK => ?_) AllReadyIn.nil))
      | refine wpAnyIn_ready (rs := [4, 6]) (by decide +kernel) (by simp) (AllReadyIn.cons rfl (fun K hK => ?_) (AllReadyIn.cons rfl (fun K hK => ?_) AllReadyIn.nil))
      | refine wpAnyIn_ready (rs := [0]) (by decide +kernel) (by simp) (AllReadyIn.cons rfl (fun K hK => ?_) AllReadyIn.nil)
      | refine wpAnyIn_ready (rs := [2]) (by decide +kernel) (by simp) (AllReadyIn.cons rfl (fun K hK => ?_) AllReadyIn.nil)
      | refine wpAnyIn_ready (rs := [4]) (by decide +kernel) (by simp) (AllReadyIn.cons rfl (fun K hK => ?_) AllReadyIn.nil)
      | refine wpAnyIn_ready (rs := [5]) (by decide +kernel) (by simp) (AllReadyIn.cons rfl (fun K hK => ?_) AllReadyIn.nil)
      | refine wpAnyIn_ready (rs := [6]) (by decide +kernel) (by simp) (AllReadyIn.cons rfl (fun K hK => ?_) AllReadyIn.nil)
      | (go_simp; refine ⟨trivial, ?_⟩; gi_at_call 34; refine (callsIn_wide.2 HR1.out).mono ?_; rintro e w5 ⟨rfl, j, hw5⟩; have HJ := Lib.hid hw5; have e5 : w5.cell? ⟨w.heap.size + 5, 0, none⟩ = some (.slice (some ⟨w.heap.size + 4, 0, none⟩) n n) := (by rw [hw5]; exact (HW5.out j).2.2.2.1.cell 0 _ rfl); have e4 : w5.cell? ⟨w.heap.size + 4, i, none⟩ = some (.int .i64 (s.2.getD i 0)) := (by rw [hw5]; exact (HG5.out j).cell i _ (iRow_at _ i (by omega))); have e4f : w5.frozen? ⟨w.heap.size + 4, i, none⟩ = false := (by rw [hw5]; exact (HG5.out j).free i); clear hw5; dsimp only; refine hK _ _ ?_; clear hK K)
      | (go_simp; refine hK _ _ ?_; clear hK K))
    all_goals
      have h5 := HRF.out j
      rw [← HJ.out] at h5
      obtain ⟨r1, r2, r3, r4, r5⟩ := h5
      refine ⟨(KeepsOthers.drew _).trans r5, kp_t ⟨(Below.refl _ _).drew, fun _ _ q => q⟩ r4, ⟨?_, r2⟩, r3⟩
      rw [HSS.out]
      exact r1
  case done =>
    rintro D xs W hD rfl ⟨⟨hv, hf⟩, hB⟩ hK
    have HV := Lib.hid hv
    have HBL := Lib.hid hB
    have HKK := Lib.hid hK
    have HSA := Lib.hid (st_all (L := L) (S := S) HSN.out HLN.out)
    have c5 := hf.2.2.2.1.cell 0 (.slice (some ⟨w.heap.size + 4, 0, none⟩) n n) rfl
    clear hv hf hB hK
    gi_wp2
    refine ⟨by simp, .inl ⟨_, _, rfl, run_takeDeferred HKK.out, ?_⟩⟩
    have k3 := blk_own (β := Unit) _ _ _ () _ _ _ HV.out.2 (grownBy_putObj' W D (.deferred none)) (fun r e => by cases e; exact ⟨_, HKK.out, rfl⟩)
    rw [HSA.out] at k3
    exact ⟨_, results_tmp rfl _ _ _, rfl, k3, HBL.out.trans (belowK_b (w := w) (Nat.le_refl _) W D _ _ (by omega) HKK.out rfl rfl)⟩
  case stop =>
    rintro D c pre W hD hp h hK
    exact h.elim
theorem rooms_any (A : Option Addr) (n cap : Nat) (L : List Int) (B : Option Addr) (cap2 : Nat) (S : List Int) (w : World) (ha : RdI w A n L) (hb : RdI w B n S) (hn : n ≤ 8) (hL : cntP L) (hS : cntP S) :
    Calls Try.prog 27 #[.slice A n cap, .slice B n cap2] w fun e w' => ∃ g, e = .returned (.slice (some ⟨g, 0, none⟩) n n) ∧ RdI w' (some ⟨g, 0, none⟩) n (rmL L S) ∧ Below w.heap.size w w' := by
  refine ((callsIn_wide (n := 8)).1 (rooms_in A n cap L B cap2 S w ha hb hn hL hS)).mono ?_
  rintro e w' ⟨rfl, hk, hb'⟩
  refine ⟨_, rfl, ⟨by rw [rmL_len, ha.1], by unfold maxLen; omega, fun _ => ⟨_, 0, rfl, fun i hi => ?_⟩⟩, hb'⟩
  rw [Nat.zero_add]
  exact hk.cell i _ (iRow_at _ i (by rw [rmL_len, ha.1]; exact hi))
end Go.Proofs.Ytofbioefckdmbaa.Ne
