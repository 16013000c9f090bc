/-
  Layer 7: hard states, loaded: single, load and LoadHard. Conditions: the disk lies in memory as it was made.
-/
import Derived.Test.YtejphnbhcabchaaGreatKeepOne
import Derived.Test.YtejphnbhcabchaaGreatDiskKeep
import Derived.Test.YtejphnbhcabchaaGreatRecSame
namespace Go.Proofs.YtejphnbhcabchaaGreat.Kp
open Go.RowKit Go.Proofs.YtejphnbhcabchaaGreat.Dk Go.Proofs.YtejphnbhcabchaaGreat.Fld
set_option linter.unusedVariables false

theorem single_none {zs : List Int} {ts : List (List Int)} (hb : Bytes zs) (h : Rc.Sc zs ts) (hn : ts.length ≠ 1 ∨ (Rc.recs ts).length ≠ zs.length) : single zs = none := by
  unfold single
  cases hf : Rc.first zs with
  | none => rfl
  | some c =>
    simp only
    by_cases he : zs = Rc.recd c
    · exfalso
      have hl := (Rc.first_some hb hf).2
      have h2 : Rc.Sc zs [c] := by
        have := Rc.Sc.all (ts := [c]) (fun t ht => by rw [List.mem_singleton] at ht; rw [ht]; exact hl)
        rw [show Rc.recs [c] = zs by rw [he]; simp [Rc.recs]] at this
        exact this
      obtain rfl := h.uniq h2
      rcases hn with hn | hn
      · exact hn rfl
      · exact hn (by rw [he]; simp [Rc.recs])
    · rw [if_neg he]
theorem single_some {zs : List Int} {ts : List (List Int)} (h : Rc.Sc zs ts) (h1 : ts.length = 1) (h2 : (Rc.recs ts).length = zs.length) : single zs = some (ts.getD 0 []) := by
  match ts, h1 with
  | [c], _ =>
    obtain ⟨rest, e, hs, _⟩ := h
    have hl := hs c (by simp)
    have hr : rest = [] := by
      apply List.eq_nil_of_length_eq_zero
      rw [e, List.length_append] at h2
      omega
    rw [hr] at e
    have e2 : zs = Rc.recd c := by rw [e]; simp [Rc.recs]
    unfold single
    rw [show Rc.first zs = some c by rw [e2, ← List.append_nil (Rc.recd c)]; exact Rc.first_recd c [] hl]
    simp only
    rw [if_pos e2]
    rfl
theorem single_len {zs c : List Int} (h : single zs = some c) : zs.length = 8 + c.length := by
  unfold single at h
  split at h
  · split at h
    · rename_i hz
      injection h with h
      subst h
      conv => lhs; rw [hz]
      exact Rc.recd_len _
    · cases h
  · cases h
def SingleIs (w : World) (zs : List Int) (e : Ending) (w' : World) : Prop := ∃ A n c, e = .returned (.tuple #[.slice A n c, .bool (single zs).isSome]) ∧ Rd w' A n ((single zs).getD []) ∧ (A = none → c = 0) ∧ Below w.heap.size w w'
set_option maxRecDepth 100000 in
set_option maxHeartbeats 1600000 in
theorem single_any (A : Option Addr) (n cap : Nat) (zs : List Int) (w : World) (hs : Sl w A n cap zs) (hn : n ≤ 16777216) : Calls Tryz.prog 88 #[.slice A n cap] w (SingleIs w zs) := by
  have HS := Lib.hid (Rc.scan_any A n cap zs w (Rc.Sl.of hs) (by omega))
  have HL := Lib.hid hs.1.1
  have HBY := Lib.hid hs.1.2.2.1
  clear hs
  go_enter Tryz.func88, Tryz.ntmps88
  go_wp2_with fail
  refine HS.out.mono ?_
  rintro e w1 ⟨ts, v, rfl, hsc, hrows, hb1⟩
  have hu := hsc.used.2
  have hge := Rc.recs_ge ts
  rw [HL.out] at hu
  obtain ⟨B, c1, rfl, hrdl, hcap, _⟩ := Rc.rows_rdl hrows (by unfold maxLen; omega)
  have HSC := Lib.hid hsc
  have HR := Lib.hid hrdl
  have HB1 := Lib.hid hb1
  clear hsc hrows hrdl hb1
  by_cases h1 : ts.length = 1
  · by_cases h2 : (Rc.recs ts).length = n
    · have HX := Lib.hid (single_some HSC.out h1 (by rw [HL.out]; exact h2))
      obtain ⟨b', o', A', n', c', rfl, hcell, hrd, hA'⟩ := Rc.rdl_at HR.out 0 (by omega)
      have HRD := Lib.hid hrd
      have HA := Lib.hid hA'
      clear hrd hA' HR
      rw [Nat.add_zero] at hcell
      have i1 : ((ts.length : Int) != 1) = false := by simp; omega
      have i2 : (((Rc.recs ts).length : Int) != (n : Int)) = false := by simp; omega
      rw [h1] at *
      generalize (Rc.recs ts).length = u at *
      go_wp2
      go_ret2
      exact ⟨A', n', c', by rw [HX.out]; rfl, by rw [HX.out]; exact HRD.out, HA.out, HB1.out⟩
    · have HX := Lib.hid (single_none HBY.out HSC.out (.inr (by rw [HL.out]; exact h2)))
      have i1 : ((ts.length : Int) != 1) = false := by simp; omega
      have i2 : (((Rc.recs ts).length : Int) != (n : Int)) = true := by simp; omega
      rw [h1] at *
      generalize (Rc.recs ts).length = u at *
      go_wp2
      go_ret2
      exact ⟨none, 0, 0, by rw [HX.out]; rfl, by rw [HX.out]; exact Rd.nil _, fun _ => rfl, HB1.out⟩
  · have HX := Lib.hid (single_none HBY.out HSC.out (.inl h1))
    have i1 : ((ts.length : Int) != 1) = true := by simp; omega
    generalize (Rc.recs ts).length = u at *
    generalize ts.length = k at *
    go_wp2
    go_ret2
    exact ⟨none, 0, 0, by rw [HX.out]; rfl, by rw [HX.out]; exact Rd.nil _, fun _ => rfl, HB1.out⟩
/-- what LoadHard tells of a disk -/
def ldHard (t : St) : (Int × Int) × Int :=
  if (stRead hardN t).1 = 2 then ((0, 0), 0) else if (stRead hardN t).1 ≠ 0 then ((0, 0), (stRead hardN t).1)
  else match single (stRead hardN t).2 with | some c => decHard c | none => ((0, 0), 6)
theorem Blk.two {w : World} {B : Nat} {a b : Value} {ty : TypeId} (h : Blk w B #[a, b] ty) (x y : Value) : Blk ((w.setCell ⟨B, 0, none⟩ x).setCell ⟨B, 1, none⟩ y) B #[x, y] ty := (h.set 0 x (by simp)).set 1 y (by simp)
theorem below_two {w W : World} (hb : Below w.heap.size w W) (x y : Value) (B : Nat) (hB : w.heap.size ≤ B) : Below w.heap.size w ((W.setCell ⟨B, 0, none⟩ x).setCell ⟨B, 1, none⟩ y) := (hb.setCell (p := ⟨B, 0, none⟩) hB x).setCell (p := ⟨B, 1, none⟩) hB y
set_option maxRecDepth 100000 in
set_option maxHeartbeats 3200000 in
theorem load_any (g b : Nat) (m : List Ent) (t : St) (w : World) (h : Im w g b m t) :
    Calls Tryz.prog 50 #[.pointer (some ⟨g, 0, none⟩), .string ⟨#[104, 97, 114, 100]⟩, .func (.func 51) #[] #[]] w (HardIs w (ldHard t)) := by
  have hb1 := alloc_below' w (.cells #[.int .i64 0, .int .i64 0] 32)
  have hb2 : Below w.heap.size w ((w.alloc (.cells #[.int .i64 0, .int .i64 0] 32)).alloc (.cells #[.int .i64 0, .int .i64 0] 32)) := hb1.alloc hb1.size _
  have HB := Lib.hid hb2
  have HR := Lib.hid (read_fresh g b m t ⟨#[104, 97, 114, 100]⟩ _ (h.below hb2))
  have K0 := Lib.hid ((Blk.new w #[.int .i64 0, .int .i64 0] 32).past (.cells #[.int .i64 0, .int .i64 0] 32))
  have K1 := Lib.hid (show Blk ((w.alloc (.cells #[.int .i64 0, .int .i64 0] 32)).alloc (.cells #[.int .i64 0, .int .i64 0] 32)) (w.heap.size + 1) #[.int .i64 0, .int .i64 0] 32 by
    have := Blk.new (w.alloc (.cells #[.int .i64 0, .int .i64 0] 32)) #[.int .i64 0, .int .i64 0] 32
    simpa using this)
  have HF := Lib.hid (show ldHard t = if (stRead hardN t).1 = 2 then ((0, 0), 0) else if (stRead hardN t).1 ≠ 0 then ((0, 0), (stRead hardN t).1) else match single (stRead hardN t).2 with | some c => decHard c | none => ((0, 0), 6) from rfl)
  rw [show (ByteArray.mk #[104, 97, 114, 100]).data.toList = hardN from rfl] at HR
  clear h hb1 hb2
  generalize stRead hardN t = r at *
  generalize ldHard t = R at *
  obtain ⟨c, zs⟩ := r
  go_enter Tryz.func50, Tryz.ntmps50
  go_wp2_with fail
  generalize (w.alloc (.cells #[.int .i64 0, .int .i64 0] 32)).alloc (.cells #[.int .i64 0, .int .i64 0] 32) = w2 at *
  refine HR.out.mono ?_
  rintro e w3 ⟨A, n, cap, rfl, hs, hn, _, hb3⟩
  simp only at hs HF ⊢
  have HS := Lib.hid (single_any A n cap zs w3 hs hn)
  have HLZ := Lib.hid hs.1.1
  have HB3 := Lib.hid (HB.out.trans (hb3.mono HB.out.size))
  have K03 := Lib.hid (K0.out.below hb3)
  have K13 := Lib.hid (K1.out.below hb3)
  clear hs hb3 HR HB K0 K1
  by_cases h2 : c = 2
  · subst h2
    rw [if_pos rfl] at HF
    have d0 := K13.out.cell 0 _ rfl
    have d1 := K13.out.cell 1 _ rfl
    have r0 := K03.out.cell 0 _ rfl
    have r1 := K03.out.cell 1 _ rfl
    have g0 := K03.out.free 0
    have g1 := K03.out.free 1
    go_wp2
    refine bodyPost_ret (v := .tuple #[.agg #[.int .i64 0, .int .i64 0], .int .i64 0]) ?_ ?_ ?_
    · exact results_two Tryz.results50 _ _ w.heap.size 32 #[.int .i64 0, .int .i64 0] (0, 0) _ rfl (K03.out.two _ _) Tryz.underlying32 rfl (by kernel_rfl)
    · rfl
    · exact ⟨by rw [HF.out], below_two HB3.out _ _ _ (Nat.le_refl _)⟩
  rw [if_neg h2] at HF
  by_cases h0 : c = 0
  · subst h0
    rw [if_neg (by simp)] at HF
    go_wp2_with fail
    refine HS.out.mono ?_
    rintro e w4 ⟨A4, n4, c4, rfl, hrd, hA4, hb4⟩
    have HB4 := Lib.hid (HB3.out.trans (hb4.mono HB3.out.size))
    have K04 := Lib.hid (K03.out.below hb4)
    have K14 := Lib.hid (K13.out.below hb4)
    clear hb4 HB3 K03 K13 HS
    cases hsg : single zs with
    | none =>
      rw [hsg] at HF
      clear hrd hA4
      have d0 := K14.out.cell 0 _ rfl
      have d1 := K14.out.cell 1 _ rfl
      have r0 := K04.out.cell 0 _ rfl
      have r1 := K04.out.cell 1 _ rfl
      have g0 := K04.out.free 0
      have g1 := K04.out.free 1
      go_wp2
      refine bodyPost_ret (v := .tuple #[.agg #[.int .i64 0, .int .i64 0], .int .i64 6]) ?_ ?_ ?_
      · exact results_two Tryz.results50 _ _ w.heap.size 32 #[.int .i64 0, .int .i64 0] (0, 0) _ rfl (K04.out.two _ _) Tryz.underlying32 rfl (by kernel_rfl)
      · rfl
      · exact ⟨by rw [HF.out], below_two HB4.out _ _ _ (Nat.le_refl _)⟩
    | some cc =>
      rw [hsg] at HF hrd
      have HLC := Lib.hid (single_len hsg)
      have HD := Lib.hid (decodeHard_any A4 n4 c4 cc w4 hrd hA4 (by have h5 : cc.length = n4 := hrd.1; have := HLC.out; have := HLZ.out; omega))
      clear hrd hA4
      simp only at HF
      rw [← HF.out] at HD
      go_wp2_with fail
      refine HD.out.mono ?_
      rintro e w5 ⟨rfl, hb5⟩
      have HB5 := Lib.hid (HB4.out.trans (hb5.mono HB4.out.size))
      have K05 := Lib.hid (K04.out.below hb5)
      clear hb5 HB4 K04 K14
      obtain ⟨⟨p, q⟩, e5⟩ := R
      have r0 := K05.out.cell 0 _ rfl
      have r1 := K05.out.cell 1 _ rfl
      have g0 := K05.out.free 0
      have g1 := K05.out.free 1
      go_wp2
      refine bodyPost_ret (v := .tuple #[.agg #[.int .i64 p, .int .i64 q], .int .i64 e5]) ?_ ?_ ?_
      · exact results_two Tryz.results50 _ _ w.heap.size 32 #[.int .i64 p, .int .i64 q] (0, 0) _ rfl (K05.out.two _ _) Tryz.underlying32 rfl (by kernel_rfl)
      · rfl
      · exact ⟨rfl, below_two HB5.out _ _ _ (Nat.le_refl _)⟩
  · rw [if_pos h0] at HF
    have d0 := K13.out.cell 0 _ rfl
    have d1 := K13.out.cell 1 _ rfl
    have r0 := K03.out.cell 0 _ rfl
    have r1 := K03.out.cell 1 _ rfl
    have g0 := K03.out.free 0
    have g1 := K03.out.free 1
    go_wp2
    refine bodyPost_ret (v := .tuple #[.agg #[.int .i64 0, .int .i64 0], .int .i64 c]) ?_ ?_ ?_
    · exact results_two Tryz.results50 _ _ w.heap.size 32 #[.int .i64 0, .int .i64 0] (0, 0) _ rfl (K03.out.two _ _) Tryz.underlying32 rfl (by kernel_rfl)
    · rfl
    · exact ⟨by rw [HF.out], below_two HB3.out _ _ _ (Nat.le_refl _)⟩
set_option maxRecDepth 100000 in
theorem loadHard_any (g b : Nat) (m : List Ent) (t : St) (w : World) (h : Im w g b m t) :
    Calls Tryz.prog 23 #[.pointer (some ⟨g, 0, none⟩)] w (HardIs w (ldHard t)) := by
  have hb1 := alloc_below' w (.cells #[.int .i64 0, .int .i64 0] 32)
  have HL := Lib.hid (load_any g b m t _ (h.below hb1))
  have HB := Lib.hid hb1
  have K0 := Lib.hid (Blk.new w #[.int .i64 0, .int .i64 0] 32)
  clear h hb1
  generalize ldHard t = R at *
  obtain ⟨⟨p, q⟩, e5⟩ := R
  go_enter Tryz.func23, Tryz.ntmps23
  go_wp2_with fail
  refine HL.out.mono ?_
  rintro e w5 ⟨rfl, hb5⟩
  have HB5 := Lib.hid (HB.out.trans (hb5.mono HB.out.size))
  have K05 := Lib.hid (K0.out.below hb5)
  clear hb5
  have r0 := K05.out.cell 0 _ rfl
  have r1 := K05.out.cell 1 _ rfl
  have g0 := K05.out.free 0
  have g1 := K05.out.free 1
  go_wp2
  refine bodyPost_ret (v := .tuple #[.agg #[.int .i64 p, .int .i64 q], .int .i64 e5]) ?_ ?_ ?_
  · exact results_two Tryz.results23 _ _ w.heap.size 32 #[.int .i64 p, .int .i64 q] (0, 0) _ rfl (K05.out.two _ _) Tryz.underlying32 rfl (by kernel_rfl)
  · rfl
  · exact ⟨rfl, below_two HB5.out _ _ _ (Nat.le_refl _)⟩
end Go.Proofs.YtejphnbhcabchaaGreat.Kp
