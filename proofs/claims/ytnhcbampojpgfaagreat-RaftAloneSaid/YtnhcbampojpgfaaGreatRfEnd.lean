/-
  Several texts in one: Arguments opened to cells: a slice of slices of bytes (RdL), as the given row reads it. No condition. Layer 12: what New asks of a snapshot, and its copies. Conditions: as each theorem states. Layer 12: New, of a node that is alone in its group. Conditions: the snapshot is valid, its group is the node alone; the entries follow it, and none of them is a change. Layer 12: New, of a node that is alone in its group: the walk. Conditions: as in RfP; what comes in can be read. Layer 12, the law RaftAlone: its first question, and what a round makes of the node. Conditions: as each theorem states. Layer 12, the law RaftAlone: its first question: a node that is alone leads behind one tick. No condition.
-/
import Derived.Test.YtnhcbampojpgfaaGreatFieldBase
import Derived.Deep.Slices
import Derived.ChangeSame
import Derived.OpenShut
import Derived.Test.YtnhcbampojpgfaaGreatRfL
namespace Go.Proofs.YtnhcbampojpgfaaGreat.Fld
open Go.RowKit Go.ChangeShapes Go.WideShapes Go.Deep

/-- a slice that holds slices of the bytes ls -/
def RdL (w : World) (B : Option Addr) (m : Nat) (ls : List (List Int)) : Prop :=
  ls.length = m ∧ m ≤ maxLen ∧ (0 < m → ∃ b off, B = some ⟨b, off, none⟩ ∧ ∀ i, i < m → ∃ A n cap, w.cell? ⟨b, off + i, none⟩ = some (.slice A n cap) ∧ Rd w A n (ls.getD i []) ∧ (A = none → cap = 0))
theorem RdL.below {w w' : World} {B : Option Addr} {m : Nat} {ls : List (List Int)} (h : RdL w B m ls) (hb : Below w.heap.size w w') : RdL w' B m ls := by
  obtain ⟨h1, h2, h3⟩ := h
  refine ⟨h1, h2, fun hm => ?_⟩
  obtain ⟨b, off, e, hc⟩ := h3 hm
  refine ⟨b, off, e, fun i hi => ?_⟩
  obtain ⟨A, n, cap, c0, hs, hA⟩ := hc i hi
  exact ⟨A, n, cap, (hb.cell (lt_of_cell c0)).trans c0, hs.below hb, hA⟩
section
variable {H : Type} {encH : TypeId × Value → H} {w : World} {base : Nat} {spare : Nat → Bool} {held : Bool}
theorem open_bytes {fuel : Nat} {v : Value} {x : DataW H × List MemPlace} (h : DataW.trod encH Tryz.prog w base spare held fuel 38 [v] = some x) : ∃ A n cap zs, v = .slice A n cap ∧ Rd w A n zs ∧ (A = none → cap = 0) := by
  rcases open_ints Tryz.underlying38 Tryz.underlying5 (by kernel_rfl) h with ⟨hcs, _⟩ | ⟨a, l, c, zs, hcs, _, hl, hm, hz, _, hcell, hwz⟩
  · simp at hcs
    exact ⟨none, 0, 0, [], hcs, Rd.nil w, fun _ => rfl⟩
  · simp at hcs
    refine ⟨some a, l, c, zs.take l, hcs, ?_, fun h => by cases h⟩
    have hzl : l ≤ zs.length := by rw [hz]; split <;> omega
    have hzc : zs.length ≤ maxLen := by rw [hz]; split <;> omega
    exact Rd.of_cells hzl hzc rfl hcell hwz
theorem open_lists {fuel : Nat} {A : Option Addr} {len cap : Nat} {x : DataW H × List MemPlace} (h : DataW.trod encH Tryz.prog w base spare held fuel 70 [.slice A len cap] = some x) : ∃ ls, RdL w A len ls ∧ len ≤ cap := by
  rcases open_slice Tryz.underlying70 h with ⟨hcs, _⟩ | ⟨a, len', cap', m, n, D, Pl, hcs, hb, hl, hm, hmm, hx, hi⟩
  · simp at hcs
    obtain ⟨rfl, rfl, rfl⟩ := hcs
    exact ⟨[], ⟨rfl, by unfold maxLen; omega, fun h => by omega⟩, Nat.le_refl _⟩
  · simp at hcs
    obtain ⟨rfl, rfl, rfl⟩ := hcs
    have hlm : len ≤ m := by rw [hmm]; split <;> omega
    have hC : Tryz.prog.cellsOf 38 = 1 := by kernel_rfl
    have each : ∀ i, ∃ zs : List Int, i < len → ∃ A n cap, w.cell? (a.add i) = some (.slice A n cap) ∧ Rd w A n zs ∧ (A = none → cap = 0) := by
      intro i
      by_cases hil : i < len
      · obtain ⟨cs', hc, ht'⟩ := hi i (by omega)
        rw [hC, Nat.mul_one] at hc
        obtain ⟨_, hcl, hat⟩ := World.cells?_some hc
        match cs', hcl with
        | [v], _ =>
          obtain ⟨A1, n1, c1, zs, rfl, hr, hA⟩ := open_bytes ht'
          refine ⟨zs, fun _ => ⟨A1, n1, c1, ?_, hr, hA⟩⟩
          have := hat 0 (by omega)
          rw [add_add, Nat.add_zero] at this
          exact this
      · exact ⟨[], fun h => absurd h hil⟩
    obtain ⟨f, hf⟩ := Classical.axiomOfChoice each
    clear each
    refine ⟨(List.range len).map f, ⟨by simp, by omega, fun hp => ?_⟩, hl⟩
    obtain ⟨b, off, sp⟩ := a
    have hspot : sp = none := by
      obtain ⟨_, _, _, h0, _⟩ := hf 0 hp
      simpa [Addr.add] using World.cell?_spot h0
    subst hspot
    refine ⟨b, off, rfl, fun i hil => ?_⟩
    obtain ⟨A1, n1, c1, hc, hr, hA⟩ := hf i hil
    have ea : ∀ k, (⟨b, off, none⟩ : Addr).add k = ⟨b, off + k, none⟩ := fun k => by unfold Addr.add; split <;> simp_all
    rw [ea] at hc
    exact ⟨A1, n1, c1, hc, by simpa [hil] using hr, hA⟩
end
end Go.Proofs.YtnhcbampojpgfaaGreat.Fld

namespace Go.Proofs.YtnhcbampojpgfaaGreat.Rf
open Go.RowKit Go.Shelf Go.Proofs.YtnhcbampojpgfaaGreat.Fld
open Go.Proofs.YtnhcbampojpgfaaGreat.Qu (RdI)
set_option linter.unusedVariables false

theorem validIndex_any (n : Int) (w : World) : Calls Tryz.prog 76 #[.int .i64 n] w fun e w' => e = .returned (.bool (Rg.okN n)) ∧ w = w' := by
  have he : Rg.okN n = (decide (0 ≤ n) && decide (n ≤ 1099511627776)) := rfl
  by_cases h0 : 0 ≤ n
  · by_cases h1 : n ≤ 1099511627776
    · rw [he, decide_eq_true h0, decide_eq_true h1]
      clear he
      go_enter Tryz.func76, Tryz.ntmps76
      go_wp2
      go_ret
      exact ⟨rfl, rfl⟩
    · have h2 : decide (n ≤ 1099511627776) = false := decide_eq_false h1
      rw [he, decide_eq_true h0, h2]
      clear he
      go_enter Tryz.func76, Tryz.ntmps76
      go_wp2
      go_ret
      exact ⟨rfl, rfl⟩
  · have h2 : decide (0 ≤ n) = false := decide_eq_false h0
    rw [he, h2]
    clear he
    go_enter Tryz.func76, Tryz.ntmps76
    go_wp2
    go_ret
    exact ⟨rfl, rfl⟩
/-- a snapshot, by value -/
def snV (i t : Int) (VA : Option Addr) (vn vc : Nat) (LA : Option Addr) (ln lc : Nat) (DA : Option Addr) (dn dc : Nat) : Value := .agg #[.int .i64 i, .int .i64 t, .slice VA vn vc, .slice LA ln lc, .slice DA dn dc]
def snC (i t : Int) (VA : Option Addr) (vn vc : Nat) (LA : Option Addr) (ln lc : Nat) (DA : Option Addr) (dn dc : Nat) : Array Value := #[.int .i64 i, .int .i64 t, .slice VA vn vc, .slice LA ln lc, .slice DA dn dc]
def okSnap (i t : Int) (vs ls : List Int) (dn : Nat) : Bool := Rg.okN i && (Rg.okN t && (Qu.grpOk vs ls && decide (dn ≤ 60000)))
set_option maxHeartbeats 1600000 in
theorem validSnap_any (i t : Int) (VA : Option Addr) (vn vc : Nat) (vs : List Int) (LA : Option Addr) (ln lc : Nat) (ls : List Int) (DA : Option Addr) (dn dc : Nat) (w : World) (hv : RdI w VA vn vs) (hl : RdI w LA ln ls) :
    Calls Tryz.prog 41 #[snV i t VA vn vc LA ln lc DA dn dc] w fun e w' => e = .returned (.bool (okSnap i t vs ls dn)) ∧ Below w.heap.size w w' := by
  have hal := Rg.alloc_below' w (.cells (snC i t VA vn vc LA ln lc DA dn dc) 48)
  have hk := Rg.Blk.new w (snC i t VA vn vc LA ln lc DA dn dc) 48
  have HAL := Lib.hid hal
  have HK := Lib.hid hk
  have HR := Lib.hid (Qu.right_any VA vn vc vs LA ln lc ls _ (hv.below hal) (hl.below hal))
  have HI := Lib.hid (fun W => validIndex_any i W)
  have HT := Lib.hid (fun W => validIndex_any t W)
  have k0 := hk.cell 0 (.int .i64 i) rfl
  have k1 := hk.cell 1 (.int .i64 t) rfl
  have k2 := hk.cell 2 (.slice VA vn vc) rfl
  have k3 := hk.cell 3 (.slice LA ln lc) rfl
  unfold okSnap snV
  unfold Qu.grpV at HR
  unfold snC at *
  clear hal hk hv hl
  cases h1 : Rg.okN i with
  | false =>
    rw [h1] at HI
    clear h1
    go_enter Tryz.func41, Tryz.ntmps41
    go_wp2_with fail
    refine (HI.out _).mono ?_
    rintro e w' ⟨rfl, rfl⟩
    go_wp2
    go_ret
    exact ⟨rfl, HAL.out⟩
  | true =>
    rw [h1] at HI
    clear h1
    cases h2 : Rg.okN t with
    | false =>
      rw [h2] at HT
      clear h2
      go_enter Tryz.func41, Tryz.ntmps41
      go_wp2_with fail
      refine (HI.out _).mono ?_
      rintro e w' ⟨rfl, rfl⟩
      go_wp2_with fail
      refine (HT.out _).mono ?_
      rintro e w' ⟨rfl, rfl⟩
      go_wp2
      go_ret
      exact ⟨rfl, HAL.out⟩
    | true =>
      rw [h2] at HT
      clear h2
      cases h3 : Qu.grpOk vs ls with
      | false =>
        rw [h3] at HR
        clear h3
        go_enter Tryz.func41, Tryz.ntmps41
        go_wp2_with fail
        refine (HI.out _).mono ?_
        rintro e w' ⟨rfl, rfl⟩
        go_wp2_with fail
        refine (HT.out _).mono ?_
        rintro e w' ⟨rfl, rfl⟩
        go_wp2_with fail
        refine HR.out.mono ?_
        rintro e w1 ⟨rfl, hb1⟩
        have HB1 := Lib.hid (HAL.out.trans (hb1.mono HAL.out.size))
        clear hb1
        go_wp2
        go_ret
        exact ⟨rfl, HB1.out⟩
      | true =>
        rw [h3] at HR
        clear h3
        by_cases hd : dn ≤ 60000
        · have hq : decide (dn ≤ 60000) = true := by simp [hd]
          have hd' : (dn : Int) ≤ 60000 := by omega
          rw [hq]
          clear hq hd
          go_enter Tryz.func41, Tryz.ntmps41
          go_wp2_with fail
          refine (HI.out _).mono ?_
          rintro e w' ⟨rfl, rfl⟩
          go_wp2_with fail
          refine (HT.out _).mono ?_
          rintro e w' ⟨rfl, rfl⟩
          go_wp2_with fail
          refine HR.out.mono ?_
          rintro e w1 ⟨rfl, hb1⟩
          have HB1 := Lib.hid (HAL.out.trans (hb1.mono HAL.out.size))
          have k4 := (HK.out.below hb1).cell 4 (.slice DA dn dc) rfl
          clear hb1
          go_wp2
          go_ret
          exact ⟨rfl, HB1.out⟩
        · have hq : decide (dn ≤ 60000) = false := by simp [hd]
          have hd' : ¬ (dn : Int) ≤ 60000 := by omega
          have HQ2 := Lib.hid (decide_eq_false hd')
          rw [hq]
          clear hq hd
          go_enter Tryz.func41, Tryz.ntmps41
          go_wp2_with fail
          refine (HI.out _).mono ?_
          rintro e w' ⟨rfl, rfl⟩
          go_wp2_with fail
          refine (HT.out _).mono ?_
          rintro e w' ⟨rfl, rfl⟩
          go_wp2_with fail
          refine HR.out.mono ?_
          rintro e w1 ⟨rfl, hb1⟩
          have HB1 := Lib.hid (HAL.out.trans (hb1.mono HAL.out.size))
          have k4 := (HK.out.below hb1).cell 4 (.slice DA dn dc) rfl
          clear hb1
          go_wp2
          go_ret
          exact ⟨by show Ending.returned (Value.bool (decide ((dn : Int) ≤ 60000))) = _; rw [HQ2.out]; rfl, HB1.out⟩
/-- a group that shares no memory, nil having no capacity -/
def CgIs (w : World) (vs ls : List Int) (e : Ending) (w' : World) : Prop := ∃ A1 c1 A2 c2, e = .returned (.agg #[.slice A1 vs.length c1, .slice A2 ls.length c2]) ∧ (A1 = none → c1 = 0) ∧ (A2 = none → c2 = 0) ∧ RdI w' A1 vs.length vs ∧ RdI w' A2 ls.length ls ∧ (∀ a, A1 = some a → w.heap.size ≤ a.block ∧ a.block < w'.heap.size) ∧ (∀ a, A2 = some a → w.heap.size ≤ a.block ∧ a.block < w'.heap.size) ∧ Below w.heap.size w w'
set_option maxRecDepth 100000 in
set_option maxHeartbeats 3200000 in
theorem cgroup_any (VA : Option Addr) (vc : Nat) (vs : List Int) (LA : Option Addr) (lc : Nat) (ls : List Int) (w : World) (hv : RdI w VA vs.length vs) (hl : RdI w LA ls.length ls) (h1 : vs.length ≤ 1000) (h2 : ls.length ≤ 1000) :
    Calls Tryz.prog 74 #[Qu.grpV VA vs.length vc LA ls.length lc] w (CgIs w vs ls) := by
  have hb0 : Below w.heap.size w ((w.alloc (.cells #[.slice VA vs.length vc, .slice LA ls.length lc] 46)).alloc (.cells #[.slice none 0 0, .slice none 0 0] 46)) := (Qu.alloc_below w _).trans ((Qu.alloc_below (w.alloc (.cells #[.slice VA vs.length vc, .slice LA ls.length lc] 46)) _).mono (Qu.alloc_below w _).size)
  have hk1 := (Qu.Blk.new w #[.slice VA vs.length vc, .slice LA ls.length lc] 46).past (.cells #[.slice none 0 0, .slice none 0 0] 46)
  have hk2 := Qu.Blk.new (w.alloc (.cells #[.slice VA vs.length vc, .slice LA ls.length lc] 46)) #[.slice none 0 0, .slice none 0 0] 46
  rw [show (w.alloc (.cells #[.slice VA vs.length vc, .slice LA ls.length lc] 46)).heap.size = w.heap.size + 1 by simp] at hk2
  have HB0 := Lib.hid hb0
  have HK1 := Lib.hid hk1
  have HK2 := Lib.hid hk2
  have c0 := hk1.cell 0 (.slice VA vs.length vc) rfl
  have c1 := hk1.cell 1 (.slice LA ls.length lc) rfl
  have z0 := hk2.cell 0 (.slice none 0 0) rfl
  have z1 := hk2.cell 1 (.slice none 0 0) rfl
  have HV := Lib.hid (fun W (hW : Below w.heap.size w W) => El.cloneI_any VA vs.length vc vs W (hv.below hW) h1)
  have HL := Lib.hid (fun W (hW : Below w.heap.size w W) => El.cloneI_any LA ls.length lc ls W (hl.below hW) h2)
  have HN1 := Lib.hid (show vs.length ≤ 1000000 by omega)
  have HN2 := Lib.hid (show ls.length ≤ 1000000 by omega)
  unfold Qu.grpV CgIs
  generalize hwb : (w.alloc (.cells #[.slice VA vs.length vc, .slice LA ls.length lc] 46)).alloc (.cells #[.slice none 0 0, .slice none 0 0] 46) = wb at *
  have HDW := Lib.hid (El.below_d1 wb)
  subst hwb
  clear hb0 hk1 hk2 hv hl
  go_enter Tryz.func74, Tryz.ntmps74
  go_wp2_with fail
  go_region_held3 (fun w' => w'.cell? ⟨w.heap.size, 0, none⟩ = some (.slice VA vs.length vc) ∧ w'.cell? ⟨w.heap.size, 1, none⟩ = some (.slice LA ls.length lc)) (first | exact ⟨by assumption, by assumption⟩ | go_keep) (first
    | (go_at_call 151; have _ := HO1; refine (HL.out _ (by first | exact HB1.out)).mono ?_; rintro e w2 ⟨v2, rfl, hO2⟩; obtain ⟨A2, k2, rfl, hr2, hn2, _⟩ := hO2.form (by exact HN2.out); have HO2 := Lib.hid hO2; have HR2 := Lib.hid hr2; have HN22 := Lib.hid hn2; have HBB2 := Lib.hid (HBB1.out.trans (hO2.1.mono HBB1.out.size)); have d0 := (HK1.out.below HBB2.out).cell 0 _ rfl; have d1 := (HK1.out.below HBB2.out).cell 1 _ rfl; have y0 := (HK2.out.below HBB2.out).cell 0 _ rfl; have y1 := (HK2.out.below HBB2.out).cell 1 _ rfl; have f0 := Qu.Blk.free (HK2.out.below HBB2.out) 0; have f1 := Qu.Blk.free (HK2.out.below HBB2.out) 1; clear hO2 hr2 hn2)
    | (go_at_call 151; refine (HV.out _ (by exact HB0.out.drew)).mono ?_; rintro e w1 ⟨v1, rfl, hO1⟩; obtain ⟨A1, k1, rfl, hr1, hn1, _⟩ := hO1.form (by exact HN1.out); have HO1 := Lib.hid hO1; have HR1 := Lib.hid hr1; have HN11 := Lib.hid hn1; have HBB1 := Lib.hid (HDW.out.trans hO1.1); have HB1 := Lib.hid (HB0.out.trans (HBB1.out.mono HB0.out.size)); have c0 := (HK1.out.below HBB1.out).cell 0 _ rfl; have c1 := (HK1.out.below HBB1.out).cell 1 _ rfl; clear hO1 hr1 hn1))
  all_goals
    go_wp2
    have hK := HK2.out.below HBB2.out
    have hG := heap_setCell_same _ (w.heap.size + 1) 1 _ _ (.slice A2 ls.length k2) (heap_setCell_same w2 (w.heap.size + 1) 0 _ _ (.slice A1 vs.length k1) hK)
    refine bodyPost_ret (results_cell_row rfl _ _ (w.heap.size + 1) _ #[.slice A1 vs.length k1, .slice A2 ls.length k2] (0, 0) _ rfl hG Tryz.underlying46 rfl (by kernel_rfl)) rfl ?_
    have hf : Dk.Fr [w.heap.size + 1] w2 ((w2.setCell ⟨w.heap.size + 1, 0, none⟩ (.slice A1 vs.length k1)).setCell ⟨w.heap.size + 1, 1, none⟩ (.slice A2 ls.length k2)) := ((Dk.Fr.refl _ _).setCell _ (.inl (by simp)) _).setCell _ (.inl (by simp)) _
    have hs0 : ((w.alloc (.cells #[.slice VA vs.length vc, .slice LA ls.length lc] 46)).alloc (.cells #[.slice none 0 0, .slice none 0 0] 46)).drew.heap.size = w.heap.size + 2 := by show ((w.alloc (.cells #[.slice VA vs.length vc, .slice LA ls.length lc] 46)).alloc (.cells #[.slice none 0 0, .slice none 0 0] 46)).heap.size = _; simp
    have ho1 := El.ownI_lt HO1.out
    have ho2 := El.ownI_lt HO2.out
    have hs1 := HO1.out.1.size
    have hs2 := HO2.out.1.size
    have hs3 := hf.size
    refine ⟨A1, k1, A2, k2, rfl, HN11.out, HN22.out, El.rdI_fr (HR1.out.below HO2.out.1) hf ?_, El.rdI_fr HR2.out hf ?_, ?_, ?_, Dk.Fr.to_below (HB0.out.trans (HBB2.out.mono HB0.out.size)) hf (by intro i hi; simp at hi; omega)⟩
    · intro a ha hm
      have := ho1 a ha
      simp at hm
      omega
    · intro a ha hm
      have := ho2 a ha
      simp at hm
      omega
    · intro a ha
      have := ho1 a ha
      omega
    · intro a ha
      have := ho2 a ha
      omega
/-- a snapshot that shares no memory -/
structure CsP (w w' : World) (vs ls ds : List Int) (A1 : Option Addr) (c1 : Nat) (A2 : Option Addr) (c2 : Nat) (A3 : Option Addr) (c3 : Nat) : Prop where
  n2 : A2 = none → c2 = 0
  r1 : RdI w' A1 vs.length vs
  r2 : RdI w' A2 ls.length ls
  b1 : ∀ a, A1 = some a → w.heap.size ≤ a.block ∧ a.block < w'.heap.size
  b2 : ∀ a, A2 = some a → w.heap.size ≤ a.block ∧ a.block < w'.heap.size
  bel : Below w.heap.size w w'
def CsIs (w : World) (i t : Int) (vs ls ds : List Int) (e : Ending) (w' : World) : Prop := ∃ A1 c1 A2 c2 A3 c3, e = .returned (snV i t A1 vs.length c1 A2 ls.length c2 A3 ds.length c3) ∧ CsP w w' vs ls ds A1 c1 A2 c2 A3 c3
set_option maxRecDepth 100000 in
set_option maxHeartbeats 1600000 in
theorem csnap_any (i t : Int) (VA : Option Addr) (vc : Nat) (vs : List Int) (LA : Option Addr) (lc : Nat) (ls : List Int) (DA : Option Addr) (dc : Nat) (ds : List Int) (w : World) (hv : RdI w VA vs.length vs) (hl : RdI w LA ls.length ls) (h1 : vs.length ≤ 1000) (h2 : ls.length ≤ 1000) (hd : Fld.Rd w DA ds.length ds) (hz : DA = none → dc = 0) (hdl : ds.length ≤ 140737488351232) :
    Calls Tryz.prog 45 #[snV i t VA vs.length vc LA ls.length lc DA ds.length dc] w (CsIs w i t vs ls ds) := by
  have hb0 : Below w.heap.size w ((w.alloc (.cells (snC i t VA vs.length vc LA ls.length lc DA ds.length dc) 48)).alloc (.cells (snC 0 0 none 0 0 none 0 0 none 0 0) 48)) := (Rg.alloc_below' w _).trans ((Rg.alloc_below' _ _).mono (Rg.alloc_below' w _).size)
  have hk1 := (Rg.Blk.new w (snC i t VA vs.length vc LA ls.length lc DA ds.length dc) 48).past (.cells (snC 0 0 none 0 0 none 0 0 none 0 0) 48)
  have hk2 := Rg.Blk.new (w.alloc (.cells (snC i t VA vs.length vc LA ls.length lc DA ds.length dc) 48)) (snC 0 0 none 0 0 none 0 0 none 0 0) 48
  rw [World.size_alloc] at hk2
  have HB0 := Lib.hid hb0
  have HK1 := Lib.hid hk1
  have HK2 := Lib.hid hk2
  have z2 := hk1.cell 2 (.slice VA vs.length vc) rfl
  have z3 := hk1.cell 3 (.slice LA ls.length lc) rfl
  have z4 := hk1.cell 4 (.slice DA ds.length dc) rfl
  have f2 := hk1.free 2
  have f3 := hk1.free 3
  have f4 := hk1.free 4
  have HG := Lib.hid (fun W (hW : Below w.heap.size w W) => cgroup_any VA vc vs LA lc ls W (hv.below hW) (hl.below hW) h1 h2)
  have HD := Lib.hid (fun W (hW : Below w.heap.size w W) => Rg.clone8_any DA ds.length dc ds W (hd.below hW) hz (by omega))
  unfold Qu.grpV at HG
  unfold snV
  unfold snC at *
  generalize hvn : vs.length = vn at *
  generalize hln : ls.length = ln at *
  generalize hdn : ds.length = dn at *
  have HLN := Lib.hid (And.intro hvn (And.intro hln hdn))
  clear hb0 hk1 hk2 hv hl hd hz h1 h2 hvn hln hdn
  go_enter Tryz.func45, Tryz.ntmps45
  go_wp2_with fail
  generalize (w.alloc (.cells #[.int .i64 i, .int .i64 t, .slice VA vn vc, .slice LA ln lc, .slice DA dn dc] 48)).alloc (.cells #[.int .i64 0, .int .i64 0, .slice none 0 0, .slice none 0 0, .slice none 0 0] 48) = wb at *
  have HBd := Lib.hid (HB0.out.trans ((Below.refl wb.heap.size wb).drew.mono HB0.out.size))
  have HWD := Lib.hid (Below.refl wb.heap.size wb).drew
  go_region_with (first
    | (go_at_call 74; refine (HG.out _ (by exact HBd.out)).mono ?_; rintro e w1 ⟨A1, k1, A2, k2, he, n1, n2, r1, r2, b1, b2, hb⟩; have hx := HLN.out; rw [hx.1, hx.2.1] at he; subst he; have HB1 := Lib.hid (HBd.out.trans (hb.mono HBd.out.size)); have HW1 := Lib.hid (HWD.out.trans hb); have HP1 := Lib.hid (And.intro n2 (And.intro r1 (And.intro r2 (And.intro b1 b2)))); have y4 := (HK1.out.below HW1.out).cell 4 (.slice DA dn dc) rfl; clear n1 n2 r1 r2 b1 b2 hb hx)
    | (go_at_call 84; refine (HD.out _ (by exact HB1.out)).mono ?_; rintro e w2 ⟨v2, rfl, hO⟩; obtain ⟨A3, k3, hv3, _⟩ := hO.sl dn HLN.out.2.2; subst hv3; have HB2 := Lib.hid hO.1; have HW2 := Lib.hid (HW1.out.trans (hO.1.mono HW1.out.size)); have y2 := (HK1.out.below HW2.out).cell 2 (.slice VA vn vc) rfl; have y3 := (HK1.out.below HW2.out).cell 3 (.slice LA ln lc) rfl; have y4 := (HK1.out.below HW2.out).cell 4 (.slice DA dn dc) rfl; have f2 := (HK1.out.below HW2.out).free 2; have f3 := (HK1.out.below HW2.out).free 3; have f4 := (HK1.out.below HW2.out).free 4; clear hO))
  all_goals
    have hfr : Dk.Fr [w.heap.size] w2 (((w2.setCell ⟨w.heap.size, 2, none⟩ (.slice A1 vn k1)).setCell ⟨w.heap.size, 3, none⟩ (.slice A2 ln k2)).setCell ⟨w.heap.size, 4, none⟩ (.slice A3 dn k3)) := (((Dk.Fr.refl _ _).setCell _ (.inl (by simp)) _).setCell _ (.inl (by simp)) _).setCell _ (.inl (by simp)) _
    have HK13 := Lib.hid (Rg.Blk.set (Rg.Blk.set (Rg.Blk.set (HK1.out.below HW2.out) 2 (.slice A1 vn k1) (by show 2 < 5; omega)) 3 (.slice A2 ln k2) (by show 3 < 5; omega)) 4 (.slice A3 dn k3) (by show 4 < 5; omega))
    have HK23 := Lib.hid (show Rg.Blk (((w2.setCell ⟨w.heap.size, 2, none⟩ (.slice A1 vn k1)).setCell ⟨w.heap.size, 3, none⟩ (.slice A2 ln k2)).setCell ⟨w.heap.size, 4, none⟩ (.slice A3 dn k3)) (w.heap.size + 1) _ _ from (hfr.block (w.heap.size + 1) (HK2.out.below HW2.out).lt (by simp)).trans (HK2.out.below HW2.out))
    have HFR := Lib.hid hfr
    clear hfr y2 y3 y4 f2 f3 f4
    generalize ((w2.setCell ⟨w.heap.size, 2, none⟩ (.slice A1 vn k1)).setCell ⟨w.heap.size, 3, none⟩ (.slice A2 ln k2)).setCell ⟨w.heap.size, 4, none⟩ (.slice A3 dn k3) = w3 at *
    have l0 := HK13.out.cell 0 (.int .i64 i) rfl
    have l1 := HK13.out.cell 1 (.int .i64 t) rfl
    have l2 := HK13.out.cell 2 (.slice A1 vn k1) rfl
    have l3 := HK13.out.cell 3 (.slice A2 ln k2) rfl
    have l4 := HK13.out.cell 4 (.slice A3 dn k3) rfl
    have r0 := HK23.out.cell 0 (.int .i64 0) rfl
    have r1 := HK23.out.cell 1 (.int .i64 0) rfl
    have r2 := HK23.out.cell 2 (.slice none 0 0) rfl
    have r3 := HK23.out.cell 3 (.slice none 0 0) rfl
    have r4 := HK23.out.cell 4 (.slice none 0 0) rfl
    have s0 := HK23.out.free 0
    have s1 := HK23.out.free 1
    have s2 := HK23.out.free 2
    have s3 := HK23.out.free 3
    have s4 := HK23.out.free 4
    go_wp2
    have k9 := Rg.Blk.set (Rg.Blk.set (Rg.Blk.set (Rg.Blk.set (Rg.Blk.set HK23.out 0 (.int .i64 i) (by show 0 < 5; omega)) 1 (.int .i64 t) (by show 1 < 5; omega)) 2 (.slice A1 vn k1) (by show 2 < 5; omega)) 3 (.slice A2 ln k2) (by show 3 < 5; omega)) 4 (.slice A3 dn k3) (by show 4 < 5; omega)
    refine bodyPost_ret (results_cell_row rfl _ _ (w.heap.size + 1) _ _ (0, 0) _ rfl k9 Tryz.underlying48 rfl (by kernel_rfl)) rfl ?_
    have hx := HLN.out
    have hf9 : Dk.Fr [w.heap.size, w.heap.size + 1] w2 (((((w3.setCell ⟨w.heap.size + 1, 0, none⟩ (.int .i64 i)).setCell ⟨w.heap.size + 1, 1, none⟩ (.int .i64 t)).setCell ⟨w.heap.size + 1, 2, none⟩ (.slice A1 vn k1)).setCell ⟨w.heap.size + 1, 3, none⟩ (.slice A2 ln k2)).setCell ⟨w.heap.size + 1, 4, none⟩ (.slice A3 dn k3)) := (((((HFR.out.mono (fun i hi => by simp at hi; simp [hi])).setCell _ (.inl (by simp)) _).setCell _ (.inl (by simp)) _).setCell _ (.inl (by simp)) _).setCell _ (.inl (by simp)) _).setCell _ (.inl (by simp)) _
    obtain ⟨p1, p2, p3, p4, p5⟩ := HP1.out
    have hs1 : w.heap.size + 2 ≤ wb.heap.size := by have := HK2.out.lt; omega
    have q1 := HW1.out.size
    have q2 := HB2.out.size
    have q3 := hf9.size
    have hwd : wb.drew.heap.size = wb.heap.size := rfl
    refine ⟨A1, k1, A2, k2, A3, k3, by rw [hx.1, hx.2.1, hx.2.2]; rfl, ⟨p1, El.rdI_fr (p2.below HB2.out) hf9 (fun a ha hm => ?_), El.rdI_fr (p3.below HB2.out) hf9 (fun a ha hm => ?_), fun a ha => ?_, fun a ha => ?_, Dk.Fr.to_below (HB0.out.trans (HW2.out.mono HB0.out.size)) hf9 (by intro i hi; simp at hi; omega)⟩⟩
    · have := p4 a ha; simp at hm; omega
    · have := p5 a ha; simp at hm; omega
    · have := p4 a ha; have := HB0.out.size; omega
    · have := p5 a ha; have := HB0.out.size; omega
end Go.Proofs.YtnhcbampojpgfaaGreat.Rf

namespace Go.Proofs.YtnhcbampojpgfaaGreat.Rf
open Go.RowKit Go.Shelf Go.Proofs.YtnhcbampojpgfaaGreat.Fld
open Go.Proofs.YtnhcbampojpgfaaGreat.Qu (RdI)
set_option linter.unusedVariables false

/-- a node as it is made -/
def new0 (id hT hV sI sT pat win : Int) (l : List Rg.En) : AS := ⟨El.st0 id hT hV [id] [] pat, Rg.stAdd (Rg.st0 sI sT) l, win, sI, sT, hT, hV, 0, []⟩
structure NewOk (id hT hV sI sT pat win : Int) (dn : Nat) (l : List Rg.En) : Prop where
  el : El.newOk id hT hV [id] [] pat = true
  i : Rg.okN sI = true
  t : Rg.okN sT = true
  dn : dn ≤ 60000
  win : 1 ≤ win ∧ win ≤ 64
  add : Rg.addC (Rg.st0 sI sT) l = 0
  kind : ∀ x ∈ l, x.kind ≠ 2
  few : l.length ≤ 1000000
theorem new0_grp {id hT hV sI sT pat win : Int} {dn : Nat} {l : List Rg.En} (h : NewOk id hT hV sI sT pat win dn l) : Qu.grpOk [id] [] = true := by
  have := h.el
  simp only [El.newOk, Bool.and_eq_true] at this
  exact this.2.2.1
theorem new0_es {id hT hV sI sT pat win : Int} {dn : Nat} {l : List Rg.En} (h : NewOk id hT hV sI sT pat win dn l) : (Rg.stAdd (Rg.st0 sI sT) l).es = l ∧ (Rg.stAdd (Rg.st0 sI sT) l).base = sI := by
  have ha := h.add
  unfold Rg.addC at ha
  unfold Rg.stAdd
  by_cases h1 : Rg.okL l = true
  · by_cases h2 : Rg.fol l (Rg.st0 sI sT).last (Rg.st0 sI sT).lt = true
    · rw [if_pos ⟨h1, h2⟩]
      exact ⟨rfl, rfl⟩
    · rw [if_pos h1, if_neg h2] at ha; cases ha
  · rw [if_neg h1] at ha; cases ha
/-- its parts, one behind the other in memory, make the node -/
theorem al_made {w w3 w4 w5 w6 : World} {id hT hV sI sT pat win : Int} {dn : Nat} {l : List Rg.En} (ho : NewOk id hT hV sI sT pat win dn l) {p : El.Pl} {g : Nat} {v : Value} {xs : List Rg.EA} {A1 A2 A3 : Option Addr} {c1 c2 c3 : Nat} {ds : List Int} (hdn : ds.length = dn)
    (h3 : Below w.heap.size w w3) (he : El.Im w3 p (El.st0 id hT hV [id] [] pat)) (hp : ∀ i ∈ p.all, w.heap.size ≤ i ∧ i < w3.heap.size)
    (h4 : Below w3.heap.size w3 w4) (hg : w3.heap.size ≤ g) (h5 : Rg.Done w.heap.size w4 w5 g (.slice none 0 0) (Rg.stAdd (Rg.st0 sI sT) l) v xs) (h35 : Below w3.heap.size w3 w5)
    (h6 : CsP w5 w6 [id] [] ds A1 c1 A2 c2 A3 c3) :
    Al w.heap.size (w6.alloc (.cells (ndR ⟨w6.heap.size, p, g, v, xs, A1, c1, A2, c2, A3, dn, c3, .slice none 0 0, none⟩ (new0 id hT hV sI sT pat win l)) 60)) ⟨w6.heap.size, p, g, v, xs, A1, c1, A2, c2, A3, dn, c3, .slice none 0 0, none⟩ (new0 id hT hV sI sT pat win l) := by
  have hal := Rg.alloc_below' w6 (.cells (ndR ⟨w6.heap.size, p, g, v, xs, A1, c1, A2, c2, A3, dn, c3, .slice none 0 0, none⟩ (new0 id hT hV sI sT pat win l)) 60)
  have h67 := h6.bel.trans (hal.mono h6.bel.size)
  have s3 := h3.size
  have s4 := h4.size
  have s5 := h35.size
  have s45 := h5.fr.size
  have s6 := h6.bel.size
  have hsz : (w6.alloc (.cells (ndR ⟨w6.heap.size, p, g, v, xs, A1, c1, A2, c2, A3, dn, c3, .slice none 0 0, none⟩ (new0 id hT hV sI sT pat win l)) 60)).heap.size = w6.heap.size + 1 := by simp
  have hgl := Rg.Blk.lt h5.im.blk
  have hvl := fun i hi => (Rg.row_lo h5.im.row i hi)
  have hv4 : ∀ i, v.ownBlock = some i → w4.heap.size ≤ i ∧ i < w5.heap.size := by
    intro i hi
    refine ⟨?_, (hvl i hi).2⟩
    rcases h5.at' i hi with h | h
    · simp [Value.ownBlock] at h
    · exact h
  have hgrp := new0_es ho
  have hrd : RdI w6 A1 1 [id] := h6.r1
  have hfoot : ∀ i, i ∈ (⟨w6.heap.size, p, g, v, xs, A1, c1, A2, c2, A3, dn, c3, .slice none 0 0, none⟩ : PB).foot → i = w6.heap.size ∨ (i = p.g ∨ i = p.b) ∨ i = g ∨ v.ownBlock = some i := by
    intro i hi
    rcases mem_foot.1 hi with h | h | h | h | h | h | h
    · exact .inl h
    · exact .inr (.inl (.inl h))
    · exact .inr (.inl (.inr h))
    · exact .inr (.inr (.inl h))
    · exact .inr (.inr (.inr h))
    · simp [Value.ownBlock] at h
    · cases h
  have hpg := hp p.g (by simp [El.Pl.all])
  have hpb := hp p.b (by simp [El.Pl.all])
  have hro : ∀ i, i ∈ (⟨w6.heap.size, p, g, v, xs, A1, c1, A2, c2, A3, dn, c3, .slice none 0 0, none⟩ : PB).ro → (i ∈ p.all ∧ i ≠ p.g ∧ i ≠ p.b) ∨ (w5.heap.size ≤ i ∧ i < w6.heap.size) := by
    intro i hi
    rcases mem_ro.1 hi with ⟨a, ha, rfl⟩ | ⟨a, ha, rfl⟩ | ⟨a, ha, rfl⟩
    · refine .inl ⟨?_, (he.va a ha).1, (he.va a ha).2⟩
      simp only [El.Pl.all, List.mem_cons, List.mem_append, Option.mem_toList, Option.map_eq_some_iff]
      exact .inl (.inr (.inr ⟨a, ha, rfl⟩))
    · refine .inl ⟨?_, (he.la a ha).1, (he.la a ha).2⟩
      simp only [El.Pl.all, List.mem_cons, List.mem_append, Option.mem_toList, Option.map_eq_some_iff]
      exact .inr ⟨a, ha, rfl⟩
    · exact .inr (h6.b1 a ha)
  refine ⟨Qu.Blk.new w6 _ _, (he.below h35).below h67, h5.im.below h67, hrd.below hal, Rg.row_nil _ _ _ _, (fun m hm => by cases hm), (fun e => by cases e), ?_, ?_, rfl, rfl, ?_, ?_, ho.win, ?_, h6.n2, ?_⟩
  · intro i hi
    rcases hfoot i hi with rfl | (rfl | rfl) | rfl | h
    · omega
    · exact hpg.1
    · exact hpb.1
    · omega
    · have := hv4 i h; omega
  · intro i hi hm
    rcases hro i hi with ⟨h1, h2, h3'⟩ | ⟨h1, h2⟩
    · have := hp i h1
      rcases hfoot i hm with rfl | (rfl | rfl) | rfl | h
      · omega
      · exact h2 rfl
      · exact h3' rfl
      · omega
      · have := hv4 i h; omega
    · rcases hfoot i hm with rfl | (rfl | rfl) | rfl | h
      · omega
      · omega
      · omega
      · omega
      · have := hv4 i h; omega
  · intro i hi
    rcases hro i hi with ⟨h1, _⟩ | ⟨_, h2⟩
    · have := hp i h1; omega
    · omega
  · intro x hx
    have hx' : x ∈ (Rg.stAdd (Rg.st0 sI sT) l).es := hx
    rw [hgrp.1] at hx'
    exact ho.kind x hx'
  · exact hgrp.2.symm
  · have := h5.im.n
    rw [hgrp.1] at this
    show xs.length ≤ 1000000
    rw [← this]; exact ho.few
end Go.Proofs.YtnhcbampojpgfaaGreat.Rf

namespace Go.Proofs.YtnhcbampojpgfaaGreat.Rf
open Go.RowKit Go.Shelf Go.Proofs.YtnhcbampojpgfaaGreat.Fld
open Go.Proofs.YtnhcbampojpgfaaGreat.Qu (RdI)
set_option linter.unusedVariables false

def bxs (w : World) (hT hV : Int) (sc : Array Value) (pat win : Int) : World := ((w.alloc (.cells #[.int .i64 hT, .int .i64 hV] 51)).alloc (.cells sc 48)).alloc (.cells #[.int .i64 pat, .int .i64 win] 73)
theorem bxs_all (w : World) (hT hV : Int) (sc : Array Value) (pat win : Int) : Below w.heap.size w (bxs w hT hV sc pat win) ∧ Rg.Blk (bxs w hT hV sc pat win) w.heap.size #[.int .i64 hT, .int .i64 hV] 51 ∧ Rg.Blk (bxs w hT hV sc pat win) (w.heap.size + 1) sc 48 ∧ Rg.Blk (bxs w hT hV sc pat win) (w.heap.size + 2) #[.int .i64 pat, .int .i64 win] 73 ∧ (bxs w hT hV sc pat win).heap.size = w.heap.size + 3 := by
  unfold bxs
  refine ⟨(((Below.refl _ w).alloc (Nat.le_refl _) _).alloc (by simp) _).alloc (by simp; omega) _, ((Rg.Blk.new w _ _).past _).past _, ?_, ?_, by simp⟩
  · have := (Rg.Blk.new (w.alloc (.cells #[.int .i64 hT, .int .i64 hV] 51)) sc 48).past (.cells #[.int .i64 pat, .int .i64 win] 73)
    rw [World.size_alloc] at this
    exact this
  · have := Rg.Blk.new ((w.alloc (.cells #[.int .i64 hT, .int .i64 hV] 51)).alloc (.cells sc 48)) #[.int .i64 pat, .int .i64 win] 73
    rw [World.size_alloc, World.size_alloc] at this
    exact this
def MadeIs (w : World) (s : AS) (e : Ending) (w' : World) : Prop := ∃ b, e = .returned (.tuple #[.pointer (some ⟨b.nb, 0, none⟩), .int .i64 0]) ∧ Al w.heap.size w' b s ∧ Below w.heap.size w w' ∧ b.pm = none ∧ b.rv = .slice none 0 0 ∧ b.xs.length = s.g.es.length
set_option maxRecDepth 100000 in
set_option maxHeartbeats 1600000 in
theorem new_any (id hT hV sI sT pat win : Int) (VA : Option Addr) (vc : Nat) (LA : Option Addr) (lc : Nat) (DA : Option Addr) (dn dc : Nat) (ds : List Int) (hdn : ds.length = dn) (EA : Option Addr) (m ec : Nat) (ls : List Rg.EA) (w : World)
    (ho : NewOk id hT hV sI sT pat win dn (Rg.ens ls)) (hv : RdI w VA 1 [id]) (hd : Fld.Rd w DA dn ds) (hz : DA = none → dc = 0) (he : Rg.RdE w EA m ls) (hez : EA = none → ec = 0) :
    Calls Tryz.prog 18 #[.int .i64 id, .agg #[.int .i64 hT, .int .i64 hV], snV sI sT VA 1 vc LA 0 lc DA dn dc, .slice EA m ec, .agg #[.int .i64 pat, .int .i64 win]] w (MadeIs w (new0 id hT hV sI sT pat win (Rg.ens ls))) := by
  obtain ⟨hb, k0, k1, k2, hsz⟩ := bxs_all w hT hV (snC sI sT VA 1 vc LA 0 lc DA dn dc) pat win
  have HB := Lib.hid hb
  have HK0 := Lib.hid k0
  have HK1 := Lib.hid k1
  have HK2 := Lib.hid k2
  have HSZ := Lib.hid hsz
  have HO := Lib.hid ho
  have hg := new0_grp ho
  have hok : okSnap sI sT [id] [] dn = true := by
    unfold okSnap
    rw [ho.i, ho.t, hg]
    simp [ho.dn]
  have HVS := Lib.hid (fun W (hW : Below w.heap.size w W) => validSnap_any sI sT VA 1 vc [id] LA 0 lc [] DA dn dc W (hv.below hW) (Qu.RdI.nil _ _))
  rw [hok] at HVS
  have HEN := Lib.hid (fun W (hW : Below w.heap.size w W) => El.new_ok id hT hV pat VA vc [id] LA lc [] W (hv.below hW) (Qu.RdI.nil _ _) ho.el)
  have HCS := Lib.hid (fun W (hW : Below w.heap.size w W) => csnap_any sI sT VA vc [id] LA lc [] DA dc ds W (hv.below hW) (Qu.RdI.nil _ _) (by simp) (by simp) (by rw [hdn]; exact hd.below hW) hz (by have := ho.dn; omega))
  have HRN := Lib.hid (fun W (hW : w.heap.size ≤ W.heap.size) => Rg.new_ok w.heap.size sI sT W hW ho.i ho.t)
  have hml : ls.length = m := he.len
  have HAD := Lib.hid (fun W (hW : Below w.heap.size w W) g (hI : Rg.Im w.heap.size W g (Rg.st0 sI sT) (.slice none 0 0) []) => Rg.add_any w.heap.size g (Rg.st0 sI sT) (.slice none 0 0) [] EA m ec ls W hI hW.size (he.below hW) hez (by have := ho.few; rw [Rg.ens_len] at this; omega) (by simp))
  rw [ho.add] at HAD
  unfold Qu.grpV at HEN
  unfold snV at HVS HCS ⊢
  unfold bxs snC at *
  have d0 := k2.cell 0 (.int .i64 pat) rfl
  have d1 := k2.cell 1 (.int .i64 win) rfl
  have q1 : ¬ win < 1 := by have := ho.win; omega
  have q2 : ¬ 64 < win := by have := ho.win; omega
  rw [hdn] at HCS
  simp only [List.length_cons, List.length_nil, Nat.zero_add] at HEN HCS
  clear hb k0 k1 k2 hsz hv hd hz he hez hg hok ho hml
  go_enter Tryz.func18, Tryz.ntmps18
  go_upto_region 1 with fail
  generalize ((w.alloc (.cells #[.int .i64 hT, .int .i64 hV] 51)).alloc (.cells #[.int .i64 sI, .int .i64 sT, .slice VA 1 vc, .slice LA 0 lc, .slice DA dn dc] 48)).alloc (.cells #[.int .i64 pat, .int .i64 win] 73) = wb at *
  go_quiet (fail)
  have HB1 := Lib.hid (HB.out.trans ((Qu.below_dr wb nq).mono HB.out.size))
  have HW1 := Lib.hid (Qu.below_dr wb nq)
  generalize wb.drewN nq = w1 at *
  have e0 := (HK1.out.below HW1.out).cell 0 (.int .i64 sI) rfl
  have e1 := (HK1.out.below HW1.out).cell 1 (.int .i64 sT) rfl
  have e2 := (HK1.out.below HW1.out).cell 2 (.slice VA 1 vc) rfl
  have e3 := (HK1.out.below HW1.out).cell 3 (.slice LA 0 lc) rfl
  have e4 := (HK1.out.below HW1.out).cell 4 (.slice DA dn dc) rfl
  clear d0 d1
  go_wp2_with fail
  refine (HVS.out _ HB1.out).mono ?_
  rintro e w2 ⟨rfl, hb2⟩
  have HB2 := Lib.hid (HB1.out.trans (hb2.mono HB1.out.size))
  have HW2 := Lib.hid (HW1.out.trans (hb2.mono HW1.out.size))
  clear hb2 e0 e1 e2 e3 e4
  have h0 := (HK0.out.below HW2.out).cell 0 (.int .i64 hT) rfl
  have h1 := (HK0.out.below HW2.out).cell 1 (.int .i64 hV) rfl
  have e2 := (HK1.out.below HW2.out).cell 2 (.slice VA 1 vc) rfl
  have e3 := (HK1.out.below HW2.out).cell 3 (.slice LA 0 lc) rfl
  go_wp2_with fail
  refine (HEN.out _ HB2.out).mono ?_
  rintro e w3 ⟨p, rfl, hM⟩
  have HM := Lib.hid hM
  have HB3 := Lib.hid (HB2.out.trans (hM.bel.mono HB2.out.size))
  have HW3 := Lib.hid (HW2.out.trans (hM.bel.mono HW2.out.size))
  clear hM h0 h1 e2 e3
  have e0 := (HK1.out.below HW3.out).cell 0 (.int .i64 sI) rfl
  have e1 := (HK1.out.below HW3.out).cell 1 (.int .i64 sT) rfl
  go_wp2_with fail
  refine (HRN.out _ HB3.out.size).mono ?_
  rintro e w4 ⟨g, rfl, hg, hI, hb4⟩
  have HG := Lib.hid hg
  have HB4 := Lib.hid (HB3.out.trans (hb4.mono HB3.out.size))
  have HW4 := Lib.hid hb4
  have HAD4 := Lib.hid (HAD.out _ HB4.out g hI)
  clear hg hI hb4 e0 e1
  go_wp2_with fail
  refine HAD4.out.mono ?_
  rintro e w5 ⟨v, xs, rfl, hD⟩
  have HD := Lib.hid hD
  have hs := HB3.out.size
  have HW35 := Lib.hid (Dk.Fr.to_below HW4.out hD.fr (fun i hi => by simp [Value.ownBlock] at hi; have := HG.out; omega))
  have HB5 := Lib.hid (HB3.out.trans (HW35.out.mono HB3.out.size))
  have HW5 := Lib.hid (HW3.out.trans (HW35.out.mono HW3.out.size))
  have HKX := Lib.hid (fun W (hW : Below wb.heap.size wb W) => And.intro (HK0.out.below hW) (HK1.out.below hW))
  clear hD hs
  have h0 := (HKX.out _ HW5.out).1.cell 0 (.int .i64 hT) rfl
  have h1 := (HKX.out _ HW5.out).1.cell 1 (.int .i64 hV) rfl
  have e0 := (HKX.out _ HW5.out).2.cell 0 (.int .i64 sI) rfl
  have e1 := (HKX.out _ HW5.out).2.cell 1 (.int .i64 sT) rfl
  have e2 := (HKX.out _ HW5.out).2.cell 2 (.slice VA 1 vc) rfl
  have e3 := (HKX.out _ HW5.out).2.cell 3 (.slice LA 0 lc) rfl
  have e4 := (HKX.out _ HW5.out).2.cell 4 (.slice DA dn dc) rfl
  have HB5d := Lib.hid (HB5.out.trans ((Below.refl w5.heap.size w5).drew.mono HB5.out.size))
  have HW5d := Lib.hid (HW5.out.trans ((Below.refl w5.heap.size w5).drew.mono HW5.out.size))
  go_wp2_with fail
  go_region_held3 (fun w' => w'.cell? ⟨w.heap.size, 0, none⟩ = some (.int .i64 hT) ∧ w'.cell? ⟨w.heap.size, 1, none⟩ = some (.int .i64 hV) ∧ w'.cell? ⟨w.heap.size + 1, 0, none⟩ = some (.int .i64 sI) ∧ w'.cell? ⟨w.heap.size + 1, 1, none⟩ = some (.int .i64 sT) ∧ w'.cell? ⟨w.heap.size + 1, 2, none⟩ = some (.slice VA 1 vc) ∧ w'.cell? ⟨w.heap.size + 1, 3, none⟩ = some (.slice LA 0 lc) ∧ w'.cell? ⟨w.heap.size + 1, 4, none⟩ = some (.slice DA dn dc)) (first | exact ⟨by assumption, by assumption, by assumption, by assumption, by assumption, by assumption, by assumption⟩ | exact ⟨((Rg.alloc_below' w6 _).cell (lt_of_cell h0)).trans h0, ((Rg.alloc_below' w6 _).cell (lt_of_cell h1)).trans h1, ((Rg.alloc_below' w6 _).cell (lt_of_cell e0)).trans e0, ((Rg.alloc_below' w6 _).cell (lt_of_cell e1)).trans e1, ((Rg.alloc_below' w6 _).cell (lt_of_cell e2)).trans e2, ((Rg.alloc_below' w6 _).cell (lt_of_cell e3)).trans e3, ((Rg.alloc_below' w6 _).cell (lt_of_cell e4)).trans e4⟩ | go_keep) (first
    | (go_at_call 45; refine (HCS.out _ (by exact HB5d.out)).mono ?_; rintro e w6 ⟨A1, c1, A2, c2, A3, c3, he, hC⟩; unfold snV at he; rw [hdn] at he; simp only [List.length_cons, List.length_nil, Nat.zero_add] at he; subst he; have HC := Lib.hid hC; have HW6 := Lib.hid (HW5d.out.trans (hC.bel.mono HW5d.out.size)); have h0 := (HKX.out _ HW6.out).1.cell 0 (.int .i64 hT) rfl; have h1 := (HKX.out _ HW6.out).1.cell 1 (.int .i64 hV) rfl; have e0 := (HKX.out _ HW6.out).2.cell 0 (.int .i64 sI) rfl; have e1 := (HKX.out _ HW6.out).2.cell 1 (.int .i64 sT) rfl; have e2 := (HKX.out _ HW6.out).2.cell 2 (.slice VA 1 vc) rfl; have e3 := (HKX.out _ HW6.out).2.cell 3 (.slice LA 0 lc) rfl; have e4 := (HKX.out _ HW6.out).2.cell 4 (.slice DA dn dc) rfl; clear hC))
  have HB6 := Lib.hid (HB5.out.trans (((Below.refl w5.heap.size w5).drew.trans HC.out.bel).mono HB5.out.size))
  have HM2 := Lib.hid (show ∀ i ∈ p.all, w.heap.size ≤ i ∧ i < w3.heap.size from fun i hi => ⟨Nat.le_trans HB2.out.size (HM.out.new i hi).1, (HM.out.new i hi).2⟩)
  have HAL := Lib.hid (al_made HO.out hdn HB3.out HM.out.im HM2.out HW4.out HG.out HD.out HW35.out (A1 := A1) (c1 := c1) (A2 := A2) (c2 := c2) (A3 := A3) (c3 := c3) ⟨HC.out.n2, HC.out.r1, HC.out.r2, HC.out.b1, HC.out.b2, (Below.refl w5.heap.size w5).drew.trans HC.out.bel⟩)
  have HB7 := Lib.hid (HB6.out.alloc HB6.out.size (.cells (ndR ⟨w6.heap.size, p, g, v, xs, A1, c1, A2, c2, A3, dn, c3, .slice none 0 0, none⟩ (new0 id hT hV sI sT pat win (Rg.ens ls))) 60))
  clear h0 h1 e0 e1 e2 e3 e4
  obtain ⟨nb, hnb⟩ : ∃ nb, nb = w6.heap.size := ⟨_, rfl⟩
  obtain ⟨w7, hw7⟩ : ∃ w7, w7 = w6.alloc (.cells (ndR ⟨w6.heap.size, p, g, v, xs, A1, c1, A2, c2, A3, dn, c3, .slice none 0 0, none⟩ (new0 id hT hV sI sT pat win (Rg.ens ls))) 60) := ⟨_, rfl⟩
  rw [← hw7, ← hnb] at HAL
  rw [← hw7] at HB7
  have hfst := Rg.first_any g _ _ _ _ _ w7 HAL.out.lg.blk HAL.out.lg.ok.b0 (by have h1 := HAL.out.lg.ok.bl; unfold Rg.St.last at h1; omega)
  have HFST := Lib.hid hfst
  have HRG := Lib.hid (fun f => regroup_any (b := ⟨nb, p, g, v, xs, A1, c1, A2, c2, A3, dn, c3, .slice none 0 0, none⟩) (s := new0 id hT hV sI sT pat win (Rg.ens ls)) f HAL.out (fun h => by cases h))
  rw [← hnb]
  generalize hobj : w6.alloc (.cells #[.pointer (some ⟨p.g, 0, none⟩), .int .i64 id, .int .i64 win, .pointer (some ⟨g, 0, none⟩), .int .i64 sI, .int .i64 sT, .slice A1 1 c1, .slice A2 0 c2, .slice A3 dn c3, .slice none 0 0, .int .i64 hT, .int .i64 hV, .bool false, .int .i64 0, .int .i64 0, .bool false, .int .i64 0, .int .i64 0, .slice none 0 0, .slice none 0 0, .slice none 0 0, .int .i64 0, .slice none 0 0, .slice none 0 0, .map none, .slice none 0 0, .int .i64 0] 60) = w8
  obtain rfl : w7 = w8 := hw7.trans hobj
  clear hobj hw7 hnb hfst
  generalize (new0 id hT hV sI sT pat win (Rg.ens ls)).g.base = bs at *
  go_wp2_with fail
  refine HFST.out.mono ?_
  rintro e w' ⟨rfl, rfl⟩
  go_wp2_with fail
  refine (HRG.out _).mono ?_
  rintro e w9 ⟨rfl, p', hA⟩
  have HA := Lib.hid hA
  clear hA
  go_wp2
  go_ret2
  refine ⟨_, rfl, HA.out.im, Dk.Fr.to_below HB7.out HA.out.fr HAL.out.lo, rfl, rfl, ?_⟩
  exact HAL.out.lg.n.symm
end Go.Proofs.YtnhcbampojpgfaaGreat.Rf

namespace Go.Proofs.YtnhcbampojpgfaaGreat.Rf
open Go.RowKit Go.Shelf Go.Proofs.YtnhcbampojpgfaaGreat.Fld
open Go.Proofs.YtnhcbampojpgfaaGreat.Qu (RdI)
set_option linter.unusedVariables false

/-- the elector of node 1 behind the tick by which it leads -/
def led (t : Int) : El.St := ⟨1, 1, t + 1, 1, [1], [], 3, 1, 0, 1, El.onlyA 1⟩
theorem tick_led (t : Int) (h : t ≠ El.MX) : El.tick (El.st0 1 t 0 [1] [] 1) 0 0 0 = (led t, []) := by
  have hw : El.wonA [1] (El.onlyA 1) = true := by decide
  have hh : Qu.hasI [1] 1 = true := by decide
  have e : (1 : Int) + (max (0 : Int) 0).tmod 1 = 1 := by decide
  unfold El.tick
  rw [if_neg (by show ¬ (0 : Int) = 3; omega), if_neg (by rintro (h0 | h0); exact absurd h0 (by show ¬ (0 : Int) + 1 < 1; omega); exact absurd h0 (by show ¬ Qu.hasI [1] 1 = false; rw [hh]; simp))]
  show El.hope ⟨1, 1, t, 0, [1], [], 0, 0, 0, 1 + (max (0 : Int) 0).tmod 1, El.noneA⟩ 0 0 = _
  rw [e]
  unfold El.hope
  rw [if_pos hw]
  unfold El.run
  rw [if_neg (show ¬ (El.hoped ⟨1, 1, t, 0, [1], [], 0, 0, 0, 1, El.noneA⟩).term = El.MX from h), if_pos (show El.wonA (El.hoped ⟨1, 1, t, 0, [1], [], 0, 0, 0, 1, El.noneA⟩).vs (El.onlyA (El.hoped ⟨1, 1, t, 0, [1], [], 0, 0, 0, 1, El.noneA⟩).id) = true from hw)]
  rfl
theorem new_led (t : Int) (h0 : 0 ≤ t) (h1 : t ≤ 1099511627776) : NewOk 1 t 0 0 0 1 1 0 [] := by
  refine ⟨?_, by decide, by decide, by omega, by omega, by decide, (fun x hx => by cases hx), by simp⟩
  simp only [El.newOk, El.okHard, El.okTerm, El.MX, El.okNode]
  have : Qu.grpOk [1] [] = true := by decide
  simp [this]
  omega
/-- what holds of the node behind each round -/
structure Rnd (t : Int) (n : Nat) (b : PB) (s : AS) : Prop where
  e : s.e = led t
  base : s.g.base = 0
  last : s.g.last = n
  com : s.g.com = n
  lt : s.g.lt = t + 1
  xs : b.xs.length = n
  rd : s.rd = []
  pm : ∃ m, b.pm = some m
theorem new_last (t : Int) : (new0 1 t 0 0 0 1 1 (Rg.ens [])).g.last = 0 ∧ (new0 1 t 0 0 0 1 1 (Rg.ens [])).g.lt = 0 := ⟨rfl, rfl⟩
theorem rnd_first (t : Int) {b b' : PB} (hx : b'.xs.length = b.xs.length + 1) (hb : b.xs.length = 0) {m : Nat} (hm : b'.pm = some m) : Rnd t 1 b' (putS { new0 1 t 0 0 0 1 1 (Rg.ens []) with e := led t } 0 []) := by
  refine ⟨rfl, rfl, ?_, rfl, lt_add { new0 1 t 0 0 0 1 1 (Rg.ens []) with e := led t } 0 [], by omega, rfl, ⟨m, hm⟩⟩
  exact last_add { new0 1 t 0 0 0 1 1 (Rg.ens []) with e := led t } 0 []
theorem rnd_add {t : Int} {n : Nat} {b : PB} {s : AS} (h : Rnd t n b s) (hn : n ≤ 1000) (data : List Int) (hd : data.length ≤ 4096) : AddOk s 1 data b.xs.length := by
  refine ⟨by rw [h.last]; omega, ?_, by omega, by omega, by omega, hd, by rw [h.xs]; omega⟩
  rw [h.lt, h.e]
  exact Int.le_refl _
theorem rnd_put {t : Int} {n : Nat} {b b' : PB} {s : AS} (h : Rnd t n b s) (data : List Int) (hx : b'.xs.length = b.xs.length + 1) (hm : b'.pm = b.pm) : Rnd t (n + 1) b' (putS s 1 data) := by
  have hl := last_add s 1 data
  have ht := lt_add s 1 data
  refine ⟨h.e, h.base, ?_, ?_, ?_, by rw [hx, h.xs], h.rd, by rw [hm]; exact h.pm⟩
  · show (putS s 1 data).g.last = _
    have : (putS s 1 data).g.last = s.g.last + 1 := hl
    rw [this, h.last]; simp
  · show s.g.last + 1 = _
    rw [h.last]; simp
  · have : (putS s 1 data).g.lt = s.e.term := ht
    rw [this, h.e]; rfl
theorem rnd_settled {t : Int} {n : Nat} {b : PB} {s : AS} (h : Rnd t n b s) : Rg.termV s.g s.g.com = s.e.term := by
  have e1 : s.g.com = s.g.last := by rw [h.com, h.last]
  rw [e1, (Rg.termV_last s.g).2, h.lt, h.e]
  rfl
theorem rnd_out {t : Int} {n : Nat} {b : PB} {s : AS} (h : Rnd t n b s) (v : Value) : Rnd t n { b with rv := v } { s with hT := s.e.term, hV := s.e.vote, frm := 0, rd := [] } := ⟨h.e, h.base, h.last, h.com, h.lt, h.xs, rfl, h.pm⟩
/-- the entry that was put is given -/
theorem get_put {s : AS} {data : List Int} (h0 : 0 ≤ s.g.base) : Rg.getE (putS s 1 data).g (s.g.last + 1) 1 = [entN s 1 data] := by
  have hl : (putS s 1 data).g.last = s.g.last + 1 := last_add s 1 data
  have hb : (putS s 1 data).g.base = s.g.base := rfl
  have hes : (putS s 1 data).g.es = s.g.es ++ [entN s 1 data] := rfl
  have hs : s.g.last = s.g.base + s.g.es.length := rfl
  unfold Rg.getE
  rw [hl, hb, hes, if_neg (by omega)]
  have : (s.g.last + 1 - s.g.base - 1).toNat = s.g.es.length := by omega
  rw [this, List.drop_left]
  rfl
end Go.Proofs.YtnhcbampojpgfaaGreat.Rf

namespace Go.Proofs.YtnhcbampojpgfaaGreat.Rf
open Go.RowKit Go.Shelf Go.Proofs.YtnhcbampojpgfaaGreat.Fld
open Go.Proofs.YtnhcbampojpgfaaGreat.Qu (RdI)
set_option linter.unusedVariables false

theorem new_tick {w : World} {t : Int} {b : PB} (h : Al w.heap.size w b (new0 1 t 0 0 0 1 1 (Rg.ens []))) : True := trivial
/-- node 1, alone, is made -/
theorem new_one (t : Int) (h0 : 0 ≤ t) (h1 : t ≤ 1099511627776) (w : World) : Calls Tryz.prog 18 #[.int .i64 1, .agg #[.int .i64 t, .int .i64 0], snV 0 0 (some ⟨w.heap.size, 0, none⟩) 1 1 none 0 0 none 0 0, .slice none 0 0, .agg #[.int .i64 1, .int .i64 1]] (w.alloc (.cells #[.int .i64 1] 3)) (MadeIs (w.alloc (.cells #[.int .i64 1] 3)) (new0 1 t 0 0 0 1 1 (Rg.ens []))) :=
  new_any 1 t 0 0 0 1 1 (some ⟨w.heap.size, 0, none⟩) 1 none 0 none 0 0 [] rfl none 0 0 [] _ (new_led t h0 h1) (Qu.rdI_one w 1) (Fld.Rd.nil _) (fun _ => rfl) ⟨rfl, by unfold maxLen; omega, fun h => by omega, fun x hx => by cases hx⟩ (fun _ => rfl)
theorem tick_one {lo : Nat} {w : World} {b : PB} (t : Int) (h0 : 0 ≤ t) (h1 : t ≠ El.MX) (h : Al lo w b (new0 1 t 0 0 0 1 1 (Rg.ens []))) (hx : b.xs.length = 0) :
    Calls Tryz.prog 19 #[.pointer (some ⟨b.nb, 0, none⟩), .int .i64 0] w fun e w' => e = .returned (.tuple #[]) ∧ ∃ b' s', Aft lo w w' b b' s' ∧ Rnd t 1 b' s' := by
  refine (tick_leads 0 (led t) h (by show (0 : Int) ≤ 1000000000; omega) (by show ¬ (0 : Int) = 3; omega) (tick_led t h1) rfl rfl rfl rfl ⟨by show (0 : Int) < 1099511627776; omega, by show (0 : Int) ≤ t + 1; omega, by omega, by omega, by omega, by simp, by omega⟩).mono ?_
  rintro e w' ⟨rfl, p', v', xs', m, hA, hl⟩
  exact ⟨rfl, _, _, hA, rnd_first t hl hx rfl⟩
set_option maxHeartbeats 800000 in
theorem awake_any (w : World) : Calls Tryz.prog 8 #[] w fun e w' => e = .returned (.bool true) ∧ Below w.heap.size w w' := by
  have hal := Rg.alloc_below' w (.cells #[.int .i64 1] 3)
  have HAL := Lib.hid hal
  have HN := Lib.hid (new_one 0 (by omega) (by omega) w)
  have HTK := Lib.hid (fun (W : World) (lo : Nat) (b : PB) (h : Al lo W b (new0 1 0 0 0 0 1 1 (Rg.ens []))) hx => tick_one 0 (by omega) (by unfold El.MX; omega) h hx)
  unfold snV at HN
  clear hal
  go_enter Tryz.func8, Tryz.ntmps8
  go_wp2_with fail
  refine HN.out.mono ?_
  rintro e w1 ⟨b, rfl, hA, hb, hpm, hrv, hxs⟩
  have HA := Lib.hid hA
  have HB1 := Lib.hid (HAL.out.trans (hb.mono HAL.out.size))
  have HT := Lib.hid (HTK.out w1 _ b hA hxs)
  clear hA hb hpm hrv hxs
  go_wp2_with fail
  refine HT.out.mono ?_
  rintro e w2 ⟨rfl, b2, s2, hA2, hr2⟩
  have HA2 := Lib.hid hA2
  have HR2 := Lib.hid hr2
  have HB2 := Lib.hid (Dk.Fr.to_below HB1.out hA2.fr (fun i hi => Nat.le_trans HAL.out.size (HA.out.lo i hi)))
  have c0 : w2.cell? ⟨b.nb, 0, none⟩ = some (.pointer (some ⟨b2.p.g, 0, none⟩)) := by rw [← hA2.nb]; exact hA2.im.c0
  have HRO := Lib.hid (El.role_any b2.p s2.e w2 hA2.im.el)
  have hco := committed_any hA2.im
  rw [hA2.nb] at hco
  have HCO := Lib.hid hco
  rw [hr2.e] at HRO
  rw [hr2.com] at HCO
  clear hA2 hr2 hco
  go_wp2_with fail
  refine HRO.out.mono ?_
  rintro e w' ⟨rfl, rfl⟩
  unfold led
  go_wp2_with fail
  refine HCO.out.mono ?_
  rintro e w' ⟨rfl, rfl⟩
  go_wp2
  go_ret
  exact ⟨by rfl, HB2.out⟩
end Go.Proofs.YtnhcbampojpgfaaGreat.Rf
