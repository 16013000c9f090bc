/-
  Layer 12, a node that is alone: meet (no peers come, none goes), regroup (no turns). Conditions: the node lies in memory.
-/
import Derived.Test.YtnhcbampojpgfaaGreatRfA
import Derived.Test.YtnhcbampojpgfaaGreatQuD
import Derived.Deep.RegionHeld3
namespace Go.Proofs.YtnhcbampojpgfaaGreat.Rf
open Go.RowKit Go.Shelf Go.Proofs.YtnhcbampojpgfaaGreat.Fld
open Go.Proofs.YtnhcbampojpgfaaGreat.Qu (RdI)
set_option linter.unusedVariables false

theorem field_v (A B : Option Addr) (n c m d : Nat) (W : World) : (Instr.field 46 (.agg #[.slice A n c, .slice B m d]) 0).run Tryz.prog W = .ok (.slice A n c) W := by kernel_rfl
theorem field_l (A B : Option Addr) (n c m d : Nat) (W : World) : (Instr.field 46 (.agg #[.slice A n c, .slice B m d]) 1).run Tryz.prog W = .ok (.slice B m d) W := by kernel_rfl
set_option maxHeartbeats 800000 in
theorem index0 (fv : Value) (w : World) : Calls Tryz.prog 173 #[.slice none 0 0, fv] w fun e w' => e = .returned (.int .i64 (-1)) ∧ w = w' := by
  go_enter Tryz.func173, Tryz.ntmps173
  go_wp2
  go_loopw [8] (fun i wr => i = .int .i64 0 ∧ w = wr) (fun _ _ => 0)
  case atStart => exact ⟨rfl, rfl⟩
  case round =>
    obtain ⟨rfl, rfl⟩ := hrel
    go_wp2
    go_ret
    exact ⟨rfl, rfl⟩
set_option maxHeartbeats 800000 in
theorem delete0 (fv : Value) (w : World) : Calls Tryz.prog 100 #[.slice none 0 0, fv] w fun e w' => e = .returned (.slice none 0 0) ∧ w = w' := by
  go_enter Tryz.func100, Tryz.ntmps100
  go_wp2_with fail
  refine (index0 fv _).mono ?_
  rintro e w' ⟨rfl, rfl⟩
  go_wp2
  go_ret
  exact ⟨rfl, rfl⟩
theorem rdl_two (W : World) (A B : Option Addr) (n1 n2 c1 c2 : Nat) (l1 l2 : List Int) (ty : TypeId) (h1 : RdI W A n1 l1) (h2 : RdI W B n2 l2) (e1 : A = none → c1 = 0) (e2 : B = none → c2 = 0) :
    Qu.RdL (W.alloc (.cells #[.slice A n1 c1, .slice B n2 c2] ty)) (some ⟨W.heap.size, 0, none⟩) 2 [l1, l2] := by
  have hb := Rg.alloc_below' W (.cells #[.slice A n1 c1, .slice B n2 c2] ty)
  have hk := Rg.Blk.new W #[.slice A n1 c1, .slice B n2 c2] ty
  refine ⟨rfl, by unfold maxLen; omega, fun _ => ⟨_, 0, rfl, fun i hi => ?_⟩⟩
  rcases i with _ | _ | i
  · exact ⟨A, n1, c1, hk.cell 0 _ rfl, h1.below hb, e1⟩
  · exact ⟨B, n2, c2, hk.cell 1 _ rfl, h2.below hb, e2⟩
  · omega
set_option maxRecDepth 100000 in
theorem mdel_any (m : Nat) (fv : Nat) (lb : Array Value) (w : World) (h : EmptyM w m) (eg : ∀ args w, (callFunc fv args).run Tryz.prog w = .ok (.enter fv args) w) :
    Calls Tryz.prog 179 #[.map (some m), .func (.func fv) #[] lb] w fun e w' => e = .returned (.tuple #[]) ∧ EmptyM w' m ∧ w.grownBy w' (some m) :=
  AnyDf.maps_DeleteFunc Tryz.mdelI (Maps.int_keyed Tryz.underlying3) noR (fun _ _ => false) fv lb m 0 (.map []) w eg h (fun W key val kl yd yp _ _ hv => by cases hv)
set_option maxRecDepth 100000 in
set_option maxHeartbeats 1600000 in
theorem meet_any {lo m : Nat} {w : World} {b : PB} {s : AS} (h : Al lo w b s) (hm : b.pm = some m) : Calls Tryz.prog 104 #[.pointer (some ⟨b.nb, 0, none⟩)] w fun e w' => e = .returned (.tuple #[]) ∧ Aft lo w w' b b s := by
  have HG := Lib.hid h.group
  have HS := Lib.hid h
  have HM := Lib.hid hm
  have HSV := Lib.hid (show b.SV = none → b.svc = 0 by intro e; have := h.sv.2.2 (by omega); obtain ⟨x, y, z, _⟩ := this; rw [e] at z; cases z)
  have HCC := Lib.hid (fun W (hW : Below w.heap.size w W) ty => Qu.concat_any (some ⟨W.heap.size, 0, none⟩) 2 2 [[s.e.id], []] _ (rdl_two W b.SV b.SL 1 0 b.svc b.slc [s.e.id] [] ty (h.sv.below hW) (Qu.RdI.nil _ _) HSV.out h.slz) (by omega) (by simp) (by simp))
  simp only [List.flatten_cons, List.flatten_nil, List.append_nil] at HCC
  unfold grp1 at HG
  have HC1 := Lib.hid h.c1
  have HC24 := Lib.hid h.c24
  rw [hm] at HC24
  clear h hm
  generalize hnb : b.nb = nb at *
  have HNB := Lib.hid hnb
  clear hnb
  generalize b.SV = SV at *
  generalize b.svc = svc at *
  generalize b.SL = SL at *
  generalize b.slc = slc at *
  generalize s.e.id = id at *
  have qv := fun W => field_v SV SL 1 svc 0 slc W
  have ql := fun W => field_l SV SL 1 svc 0 slc W
  go_enter Tryz.func104, Tryz.ntmps104
  go_wp2_with fail
  refine (HG.out w (Below.refl _ _)).mono ?_
  rintro e w1 ⟨rfl, hb1⟩
  have HB1 := Lib.hid hb1
  clear hb1
  go_wp2_with fail
  refine (HG.out w1 HB1.out).mono ?_
  rintro e w2 ⟨rfl, hb2⟩
  have HB2 := Lib.hid (HB1.out.trans (hb2.mono HB1.out.size))
  clear hb2
  go_wp2_with fail
  refine (HCC.out w2 HB2.out _).mono ?_
  rintro e w3 ⟨v, rfl, hO⟩
  obtain ⟨A, cap, hv, hrd, _, _, _, hbk⟩ := hO.form (by simp)
  rw [show [id].length = 1 from rfl] at hv hrd
  subst hv
  obtain ⟨bk, off, rfl, hcl⟩ := hrd.2.2 (by omega)
  have hc0 := hcl 0 (by omega)
  simp only [List.getD_cons_zero, Nat.add_zero] at hc0
  have HB3 := Lib.hid (HB2.out.trans (((Rg.alloc_below' w2 _).trans (hO.1.mono (by simp))).mono HB2.out.size))
  have hb4 := HB3.out.alloc HB3.out.size (.cells #[.slice (some ⟨bk, off, none⟩) 1 cap] 44)
  have HB4 := Lib.hid hb4
  have hc4 := ((Rg.alloc_below' w3 (.cells #[.slice (some ⟨bk, off, none⟩) 1 cap] 44)).cell (p := ⟨bk, off, none⟩) (lt_of_cell hc0)).trans hc0
  have HC4 := Lib.hid hc4
  clear hO hbk hcl hc0 hb4 hc4 hrd
  go_wp2
  go_loopw [15] (fun i wr => ∃ k : Nat, k ≤ 1 ∧ i = .int .i64 k ∧ wr = w3.alloc (.cells #[.slice (some ⟨bk, off, none⟩) 1 cap] 44)) (fun i _ => 1 - (intOf i).toNat)
  case atStart => exact ⟨0, by omega, rfl, rfl⟩
  case round =>
    obtain ⟨k, hk, rfl, rfl⟩ := hrel
    rcases k with _ | _ | k
    · have hc4 := HC4.out
      have c1 := (HB4.out.cell (p := ⟨nb, 1, none⟩) (lt_of_cell HC1.out)).trans HC1.out
      go_wp2
      go_roundw
      case rel => exact ⟨1, by omega, by go_num, by first | trivial | rfl⟩
      case measure => simp [intOf]
    · have c24 := (HB4.out.cell (p := ⟨nb, 24, none⟩) (lt_of_cell HC24.out)).trans HC24.out
      have hs4 := HS.out.below HB4.out
      have HMD := Lib.hid (mdel_any m 180 #[.pointer (some ⟨w3.heap.size, 0, none⟩)] _ (hs4.pm m HM.out) (enters_of Tryz.func180 (by kernel_rfl) rfl))
      clear hs4
      go_wp2_with fail
      refine HMD.out.mono ?_
      rintro e w5 ⟨rfl, he, hg⟩
      have HFIN := Lib.hid (Aft.past HS.out HB4.out ((HS.out.below HB4.out).mapped HM.out hg he))
      clear he hg
      go_wp2
      go_end0
      exact ⟨rfl, HFIN.out⟩
    · omega
end Go.Proofs.YtnhcbampojpgfaaGreat.Rf
