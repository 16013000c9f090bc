/-
  Several texts in one: Layer 6: what holds as the rounds of WalLasts begin, and how a round ends. Conditions: as each theorem states. Layer 6: behind the rounds of WalLasts: the crash, and the log opened again, beside the law's list. Conditions: as each theorem states. Arguments opened to cells: slices of entries, steps, numbers, as the given rows read them. No condition. Arguments opened to cells, with the reach: slices of entries and of steps. No condition but the reach.
-/
import Derived.Test.YtnppomiggajhnaaGreatDoorJWalLt4
import Derived.Test.YtnppomiggajhnaaGreatDoorJWalIny
import Derived.Deep.Slices
import Derived.Deep.Fields
import Derived.ChangeSame
import Derived.OpenShut
import Derived.SizedLaws
namespace Go.Proofs.YtnppomiggajhnaaGreatDoor.Wl
open Go.RowKit Go.Proofs.YtnppomiggajhnaaGreatDoor.Fld
set_option linter.unusedVariables false

theorem WmX.logs {lo W g b lim k : Nat} {m : List Dk.Ent} {ve vs mv : Value} {xs : List EA} {ys : List Value} {w w' : World} {c : Ct} {t : Dk.St} (h : WmX lo W g b lim m ve vs xs w c t) (hr : w.ownsRow lo 52 2 mv k ys) (hm : ∀ i, mv.ownBlock = some i → i ∉ WFt W g b m ve vs) (hf : Dk.Fr mv.ownBlock.toList w w') : WmX lo W g b lim m ve vs xs w' c t := by
  have hd : ∀ i ∈ mv.ownBlock.toList, i ∉ WFt W g b m ve vs := fun i hi => hm i (by simpa using hi)
  have hin : ∀ i, InFoot W ve vs xs i → i ∉ mv.ownBlock.toList := by
    rintro i (rfl | hi | hi | ⟨x, hx, hi⟩) hm2
    · exact hd _ hm2 (by simp [WFt, CtF])
    · exact hd _ hm2 (by simp [WFt, CtF, hi])
    · exact hd _ hm2 (by simp [WFt, CtF, hi])
    · exact rows_ne (h.ct.dat x hx).2 hr (by decide) i hi (by simpa using hm2)
  exact ⟨h.im.frame hf (fun i hi hm2 => hd i hi (wft_disk _ hm2)), h.ct.of (fun i hi => hf.block i (h.ct.lt i hi) (hin i hi)), h.apart, h.base_fr hf (fun i hi => (row_lo hr i (by simpa using hi)).1), h.low, h.glo, h.lim1, h.lim2⟩
theorem LaSt.logs {w0 w w' : World} {W g b lim R T k : Nat} {P : Lg → Prop} {cl : Option Lg} {F : List Nat} {mv : Value} {ys : List Value} (h : LaSt w0 W g b lim R T P cl F w) (hB0 : Base w0) (hr : w.ownsRow w0.heap.size 52 2 mv k ys) (hm : ∀ i, mv.ownBlock = some i → i ∉ F) (hf : Dk.Fr mv.ownBlock.toList w w') (hb : Below w0.heap.size w0 w') : LaSt w0 W g b lim R T P cl F w' := by
  rcases h with ⟨c, t, h1, ⟨m, ve, vs, xs, hX, hF⟩, h3⟩ | ⟨h1, m, t, h2, h3, h4⟩
  · subst hF
    exact .inl ⟨c, t, h1, ⟨m, ve, vs, xs, hX.logs hr hm hf, rfl⟩, h3⟩
  · subst h3
    have hd : ∀ i ∈ mv.ownBlock.toList, i ∉ W :: g :: b :: Dk.blks m := fun i hi => hm i (by simpa using hi)
    refine .inr ⟨h1, m, t, ⟨h2.im.frame hf (fun i hi hm2 => hd i hi (by simp at hm2 ⊢; exact .inr hm2)), h2.blk.of (hf.block W h2.blk.lt (fun hm2 => hd W hm2 (by simp))), h2.out, hB0.below hb, h2.low⟩, rfl, h4⟩
/-- Arm -/
theorem arm_la {w0 w : World} {W g b lim R T : Nat} {P : Lg → Prop} {cl : Option Lg} {F : List Nat} (h : LaSt w0 W g b lim R T P cl F w) (hB0 : Base w0) (hB : Below w0.heap.size w0 w) (n : Int) (hn : n ≤ 9223372036854775807) :
    Calls Tryz.prog 25 #[.pointer (some ⟨g, 0, none⟩), .int .i64 n] w fun e w' => (∃ z, e = .returned (.int .i64 z)) ∧ OpL w0 F w F w' ∧ LaSt w0 W g b lim R T P cl F w' := by
  have hft := h.foot
  have key : ∀ (m : List Dk.Ent) (t : Dk.St) (w' : World), Dk.Im w g b m t → Dk.DskT w' g b (Dk.stArm n t).2 → Dk.Fr [g] w w' → Dk.Im w' g b m (Dk.stArm n t).2 := fun m t w' hI hd hf => by
    refine hI.scheds hd hf (arm_same n t).1 (arm_same n t).2 ?_ ?_
    · intro k
      unfold Dk.stArm
      split
      · exact hI.fl k
      · exact hI.fl k
    · intro k
      unfold Dk.stArm
      split
      · exact hI.al k
      · intro hk
        cases hk
        omega
  rcases h with ⟨c, t, h1, ⟨m, ve, vs, xs, hX, hF⟩, h3⟩ | ⟨h1, m, t, h2, h3, h4⟩
  · subst hF
    refine (Dk.arm_any g b t n w hX.im.dsk).mono ?_
    rintro e w' ⟨rfl, hd, hf⟩
    obtain ⟨k1, k2, k3⟩ := hX.after (key m t w' hX.im hd hf) (m' := m) ⟨hf.mono (by simp), fun i hi => .inl hi⟩
    exact ⟨⟨_, rfl⟩, ⟨k2, fun i hi => .inl hi, k2.to_below hB fun i hi => (hft i hi).1⟩, .inl ⟨c, _, h1, ⟨m, ve, vs, xs, k1, rfl⟩, h3.of (arm_same n t).1 (arm_same n t).2⟩⟩
  · subst h3
    refine (Dk.arm_any g b t n w h2.im.dsk).mono ?_
    rintro e w' ⟨rfl, hd, hf⟩
    have hfF : Dk.Fr (W :: g :: b :: Dk.blks m) w w' := hf.mono (by simp)
    have hb' := hfF.to_below hB fun i hi => (hft i hi).1
    exact ⟨⟨_, rfl⟩, ⟨hfF, fun i hi => .inl hi, hb'⟩, .inr ⟨h1, m, _, ⟨key m t w' h2.im hd hf, h2.blk.of (hf.block W h2.blk.lt (fun hm => h2.out (by simp at hm; simp [hm]))), h2.out, hB0.below hb', h2.low⟩, rfl, h4.of (arm_same n t).1 (arm_same n t).2⟩⟩
def lgq (l : Lg) : Int × List (Int × Int × Int × List Int) := ((l.base : Int), l.es.map E.q)
/-- is it one of the law's logs? -/
def InM (mays : List LX) (g : Lg) : Prop := ∃ z ∈ mays, z.q = lgq g
def nsum (l : List Stp) : Nat := (l.map Stp.n).sum
theorem nsum_take (l : List Stp) (k : Nat) (h : k < l.length) : nsum (l.take (k + 1)) = nsum (l.take k) + l[k].n := by
  unfold nsum
  rw [List.take_add_one, List.getElem?_eq_getElem h, List.map_append, List.sum_append]
  simp only [Option.toList_some, List.map_cons, List.map_nil, List.sum_cons, List.sum_nil, Nat.add_zero]
theorem nsum_le (l : List Stp) : 30 * nsum l ≤ wsum l := by
  unfold nsum wsum
  induction l with
  | nil => simp
  | cons x l ih =>
    simp only [List.map_cons, List.sum_cons]
    unfold Stp.wt at ih ⊢
    omega
theorem nsum_mono (l : List Stp) (j k : Nat) (h : j ≤ k) : nsum (l.take j) ≤ nsum (l.take k) := by
  unfold nsum
  rw [← List.take_append_drop j (l.take k), List.take_take, Nat.min_eq_left h]
  simp
/-- what holds as a round begins -/
def LaI (w0 : World) (W g b lim : Nat) (l : List Stp) (i : Nat) (mv : Value) (wr : World) : Prop :=
  ∃ mays F T cl, MayOk w0 F wr mv mays ∧ LaSt w0 W g b lim 200000 T (InM mays) cl F wr ∧ Below w0.heap.size w0 wr ∧ T ≤ 35 + 35 * i + wsum (l.take i) + 58 * nsum (l.take i) ∧ mays.length ≤ 1 + i + nsum (l.take i) ∧ (∀ z ∈ mays, z.n ≤ nsum (l.take i)) ∧ (∀ lg, cl = some lg → ∃ z, mays.getLast? = some z ∧ z.q = lgq lg)
/-- a round in which nothing is added -/
theorem LaI.stay {w0 w' : World} {W g b lim i : Nat} {l : List Stp} {mv : Value} (hi : i < l.length) {mays : List LX} {F : List Nat} {T : Nat} {cl : Option Lg} (h1 : MayOk w0 F w' mv mays) (h2 : LaSt w0 W g b lim 200000 T (InM mays) cl F w') (h3 : Below w0.heap.size w0 w') (h4 : T ≤ 35 + 35 * i + wsum (l.take i) + 58 * nsum (l.take i)) (h5 : mays.length ≤ 1 + i + nsum (l.take i)) (h6 : ∀ z ∈ mays, z.n ≤ nsum (l.take i)) (h7 : ∀ lg, cl = some lg → ∃ z, mays.getLast? = some z ∧ z.q = lgq lg) : LaI w0 W g b lim l (i + 1) mv w' := by
  have e1 := wsum_mono l i (i + 1) (by omega)
  have e2 := nsum_mono l i (i + 1) (by omega)
  exact ⟨mays, F, T, cl, h1, h2, h3, by omega, by omega, fun z hz => Nat.le_trans (h6 z hz) e2, h7⟩
/-- a round in which logs are added -/
theorem LaI.more {w0 w w1 w' : World} {W g b lim i : Nat} {l : List Stp} {mv mv' : Value} (hB0 : Base w0) (hi : i < l.length) {mays out : List LX} {F : List Nat} {T T' : Nat} {cl' : Option Lg} {Q : Lg → Prop} {z0 : LX} {G : List (Int × List (Int × Int × Int × List Int))}
    (h1 : MayOk w0 F w mv mays) (h2 : LaSt w0 W g b lim 200000 T' (fun g => InM mays g ∨ Q g) cl' F w) (h3 : Below w0.heap.size w0 w) (h4 : T' ≤ 35 + 35 * (i + 1) + wsum (l.take (i + 1)) + 58 * nsum (l.take (i + 1))) (h5 : mays.length ≤ 1 + i + nsum (l.take i)) (h6 : ∀ z ∈ mays, z.n ≤ nsum (l.take i))
    (hb1 : Below w.heap.size w w1) (hz0 : mays.getLast? = some z0) (ho : ∀ z ∈ out, LX.At w1 z ∧ (0 < z.n → ∀ a, z.A = some a → w.heap.size ≤ a.block ∨ (z0.A = some a ∧ 0 < z0.n)) ∧ ∀ y ∈ z.ls, y ∈ z0.ls ∨ y.At w0) (hG : out.map LX.q = G)
    (hGb : ∀ q ∈ G, 0 ≤ q.1 ∧ q.1 + (q.2.length : Int) ≤ 1099511627776 ∧ q.2.length ≤ nsum (l.take (i + 1))) (hGl : G.length ≤ 1 + l[i].n) (hQ : ∀ g, Q g → lgq g ∈ G) (hL : ∀ lg, cl' = some lg → G.getLast? = some (lgq lg) ∨ (G = [] ∧ z0.q = lgq lg))
    (hr : w'.ownsRow w0.heap.size 52 2 mv' (mays.length + out.length) (rowL mays ++ rowL out)) (hgr : w1.grownBy w' mv.ownBlock) (hat : mv'.ownBlock = mv.ownBlock ∨ mv'.ownBlock = some w1.heap.size) : LaI w0 W g b lim l (i + 1) mv' w' := by
  have hft := h2.foot
  have hmem : z0 ∈ mays := List.mem_of_getLast? hz0
  have hq : ∀ z ∈ out, 0 ≤ z.base ∧ z.base + (z.n : Int) ≤ 1099511627776 ∧ z.n ≤ nsum (l.take (i + 1)) := fun z hz => by
    have h8 := hGb z.q (by rw [← hG]; exact List.mem_map_of_mem hz)
    have h9 : z.q.2.length = z.n := by show (z.ls.map XE.q).length = _; rw [List.length_map]; exact (ho z hz).1.rd.1
    rw [h9] at h8
    exact h8
  obtain ⟨k1, k2⟩ := h1.more (fun i hi => (hft i hi).2) h3 hb1 hmem ho (fun z hz => ⟨(hq z hz).1, (hq z hz).2.1⟩) hr hgr hat
  have hM1 := h1.below h3 hb1 (fun i hi => (hft i hi).2)
  have hfr : Dk.Fr mv.ownBlock.toList w1 w' := (Dk.Fr.refl _ _).grown hgr (fun k hk => .inl (by rw [hk]; simp))
  have hS := (h2.below hb1).logs hB0 hM1.row hM1.rb hfr k2
  have hol : out.length = G.length := by rw [← hG, List.length_map]
  have e2 := nsum_take l i hi
  refine ⟨mays ++ out, F, T', cl', k1, hS.mono ?_ (Nat.le_refl _), k2, h4, by rw [List.length_append]; omega, fun z hz => ?_, fun lg hlg => ?_⟩
  · rintro g (⟨z, hz, he⟩ | hg)
    · exact ⟨z, by simp [hz], he⟩
    · have h8 := hQ g hg
      rw [← hG] at h8
      obtain ⟨z, hz, he⟩ := List.mem_map.1 h8
      exact ⟨z, by simp [hz], he⟩
  · rcases List.mem_append.1 hz with hz | hz
    · have := h6 z hz; omega
    · exact (hq z hz).2.2
  · rcases hL lg hlg with h8 | ⟨h8, h9⟩
    · rw [← hG, List.getLast?_map] at h8
      obtain ⟨z, hz, he⟩ := Option.map_eq_some_iff.1 h8
      exact ⟨z, by rw [List.getLast?_append, hz]; rfl, he⟩
    · have : out = [] := List.eq_nil_of_length_eq_zero (by rw [hol, h8]; rfl)
      subst this
      exact ⟨z0, by simpa using hz0, h9⟩
end Go.Proofs.YtnppomiggajhnaaGreatDoor.Wl

namespace Go.Proofs.YtnppomiggajhnaaGreatDoor.Wl
open Go.RowKit Go.Proofs.YtnppomiggajhnaaGreatDoor.Fld
set_option linter.unusedVariables false

theorem LaSt.dk {w0 w : World} {W g b lim R T : Nat} {P : Lg → Prop} {cl : Option Lg} {F : List Nat} (h : LaSt w0 W g b lim R T P cl F w) : ∃ m t, Dk.Im w g b m t ∧ (∀ i ∈ g :: b :: Dk.blks m, i ∈ F) ∧ Cx R T P t := by
  rcases h with ⟨c, t, h1, ⟨m, ve, vs, xs, hX, hF⟩, h3⟩ | ⟨h1, m, t, h2, h3, h4⟩
  · subst hF
    exact ⟨m, t, hX.im, fun i hi => wft_disk _ hi, h3.x⟩
  · subst h3
    exact ⟨m, t, h2.im, fun i hi => List.mem_cons_of_mem _ hi, h4⟩
/-- the crash -/
theorem la_crash {w0 w : World} {W g b lim R T : Nat} {P : Lg → Prop} {cl : Option Lg} {F : List Nat} {mv : Value} {mays : List LX} (h : LaSt w0 W g b lim R T P cl F w) (hM : MayOk w0 F w mv mays) (hB : Below w0.heap.size w0 w) (hT : T ≤ 400000) (A : Option Addr) (n cap : Nat) (ks : List Int) (hr : Dk.RdI w0 A n ks) :
    Calls Tryz.prog 17 #[.pointer (some ⟨g, 0, none⟩), .slice A n cap] w fun e w' => e = .returned (.tuple #[]) ∧ ∃ m t, Dk.Sn w0 w' g b m (Dk.stCrash ks t) ∧ Cx R T P t ∧ MayOk w0 (g :: b :: Dk.blks m) w' mv mays := by
  have hft := h.foot
  obtain ⟨m, t, hI, hs, hc⟩ := h.dk
  have hA : 0 < n → ∀ a, A = some a → a.block ∉ g :: b :: Dk.blks m := fun hp a ha hm => by
    obtain ⟨kb, ko, hA, hcell⟩ := hr.2.2 hp
    rw [hA] at ha
    cases ha
    have h1 : kb < w0.heap.size := lt_of_cell (hcell 0 hp)
    have h2 : w0.heap.size ≤ kb := (hft _ (hs _ hm)).1
    omega
  refine (Dk.crash_any g b m t A n cap ks w hI (by have := hc.few; omega) (rdI_below hr hB) hA).mono ?_
  rintro e w' ⟨he, m', k1, k2, k3⟩
  have hb' : Below w0.heap.size w0 w' := k2.to_below hB (fun i hi => (hft i (hs i hi)).1)
  have hsub : ∀ i ∈ g :: b :: Dk.blks m', i ∈ F ∨ w.heap.size ≤ i := fun i hi => by
    simp only [List.mem_cons] at hi
    rcases hi with rfl | rfl | hi
    · exact .inl (hs _ (by simp))
    · exact .inl (hs _ (by simp))
    · rcases k3 i hi with h1 | h1
      · exact .inl (hs _ (by simp [h1]))
      · exact .inr h1
  refine ⟨he, m', t, ⟨k1, hb', fun i hi => ?_⟩, hc, hM.fr (k2.mono (fun i hi => hs i hi)) hb' hsub⟩
  rcases hsub i hi with h1 | h1
  · exact (hft i h1).1
  · exact Nat.le_trans hB.size h1
/-- the log is opened again -/
theorem la_open {w0 w : World} {g b lim R T : Nat} {P : Lg → Prop} {t : Dk.St} {m : List Dk.Ent} {mv : Value} {mays : List LX} {ks : List Int} (hB : Base w0) (hc : Cx R T P t) (hM : MayOk w0 (g :: b :: Dk.blks m) w mv mays) (hr : 2 * T + 35 ≤ R) (hT : T ≤ 400000) (hP : ∀ g, P g → g.last ≤ MI) (h : Dk.Sn w0 w g b m (Dk.stCrash ks t)) (h1 : 32 ≤ lim) (h2 : lim ≤ 65536) :
    Calls Tryz.prog 13 #[.pointer (some ⟨g, 0, none⟩), .int .i64 (lim : Int)] w fun e w' => e = .returned (.tuple #[.pointer (some ⟨w.heap.size, 0, none⟩), .int .i64 0]) ∧ ∃ c t F', Wa w0 w.heap.size g b lim w' c t ∧ P c.lg ∧ MayOk w0 F' w' mv mays ∧ ∀ i ∈ F', i < w'.heap.size := by
  obtain ⟨k1, k2, k3, k4⟩ := hc.crash hr hP ks ct0
  have q1 := hc.few
  refine (open_any (lo := w0.heap.size) (lim := lim) h.1 (hB.below h.2.1) h.2.2 h.2.1.size hB.lt h1 h2 k1 (by omega)).mono ?_
  rintro e w' ⟨hq, F', hS, hf, hs⟩
  rcases hq with ⟨_, rfl⟩ | ⟨hz, _⟩
  · refine ⟨rfl, _, _, F', Wa.of h.2.1 h.2.2 hS hf, k4, hM.fr hf (hf.to_below h.2.1 h.2.2) hs, ?_⟩
    obtain ⟨m', ve, vs, xs, hX, hF⟩ := hS
    subst hF
    exact hX.lt
  · exact absurd k3 hz
end Go.Proofs.YtnppomiggajhnaaGreatDoor.Wl

namespace Go.Proofs.YtnppomiggajhnaaGreatDoor.Wl
open Go.RowKit Go.ChangeShapes Go.WideShapes Go.Deep Go.Proofs.YtnppomiggajhnaaGreatDoor.Fld
set_option linter.unusedVariables false

theorem cell_one {α : Type} {l : List α} (j : Nat) {v : α} (h : l[j]? = some v) : (l.drop j).take 1 = [v] := by
  obtain ⟨hj, he⟩ := List.getElem?_eq_some_iff.1 h
  rw [List.drop_eq_getElem_cons hj, he]
  rfl
section
variable {H : Type} {encH : TypeId × Value → H} {w : World} {base : Nat} {spare : Nat → Bool} {held : Bool}
theorem open_bytes {fuel : Nat} {v : Value} {x : DataW H × List MemPlace} (h : DataW.trod encH Tryz.prog w base spare held fuel 61 [v] = some x) : ∃ A n cap zs, v = .slice A n cap ∧ Rd w A n zs ∧ (A = none → cap = 0) := by
  rcases open_ints Tryz.underlying61 Tryz.underlying5 (by kernel_rfl) h with ⟨hcs, _⟩ | ⟨a, l, c, zs, hcs, _, hl, hm, hz, _, hcell, hwz⟩
  · simp at hcs
    exact ⟨none, 0, 0, [], hcs, Rd.nil w, fun _ => rfl⟩
  · simp at hcs
    refine ⟨some a, l, c, zs.take l, hcs, ?_, fun h => by cases h⟩
    have hzl : l ≤ zs.length := by rw [hz]; split <;> omega
    have hzc : zs.length ≤ maxLen := by rw [hz]; split <;> omega
    exact Rd.of_cells hzl hzc rfl hcell hwz
theorem open_numsI {fuel : Nat} {v : Value} {x : DataW H × List MemPlace} (h : DataW.trod encH Tryz.prog w base spare held fuel 43 [v] = some x) : ∃ A n cap zs, v = .slice A n cap ∧ Dk.RdI w A n zs := by
  rcases open_ints Tryz.underlying43 Tryz.underlying3 (by kernel_rfl) h with ⟨hcs, _⟩ | ⟨a, l, c, zs, hcs, _, hl, hm, hz, _, hcell, hwz⟩
  · simp at hcs
    exact ⟨none, 0, 0, [], hcs, rfl, by unfold maxLen; omega, fun h => by omega⟩
  · simp at hcs
    have hzl : l ≤ zs.length := by rw [hz]; split <;> omega
    have hzc : zs.length ≤ maxLen := by rw [hz]; split <;> omega
    refine ⟨some a, l, c, zs.take l, hcs, by rw [List.length_take]; omega, by omega, fun hn => ?_⟩
    obtain ⟨b, off, spot⟩ := a
    have h0 := hcell 0 (by omega)
    have hspot : spot = none := by simpa [Addr.add] using World.cell?_spot h0
    subst hspot
    refine ⟨b, off, rfl, fun i hi => ?_⟩
    have := hcell i (by omega)
    rw [List.getD_eq_getElem?_getD, List.getElem?_take, if_pos hi, ← List.getD_eq_getElem?_getD, ← this, add_atB]
theorem cell_of {n off : Nat} {t : TypeId} {cs : List Value} {y : Option (DataW H × List MemPlace)} (hy : y.isSome = true) (hc : Tryz.prog.cellsOf t = 1) (hl : off < cs.length) (h : DataW.trod encH Tryz.prog w base spare held n t ((cs.drop off).take (Tryz.prog.cellsOf t)) = y) :
    ∃ v z, cs[off]? = some v ∧ DataW.trod encH Tryz.prog w base spare held n t [v] = some z := by
  obtain ⟨z, rfl⟩ := Option.isSome_iff_exists.1 hy
  rw [hc, cell_one off (List.getElem?_eq_getElem hl)] at h
  exact ⟨_, z, List.getElem?_eq_getElem hl, h⟩
/-- four cells that read as an entry -/
theorem open_entry {n : Nat} {cs : List Value} {x : DataW H × List MemPlace} (h : DataW.trod encH Tryz.prog w base spare held n 63 cs = some x) (hl : cs.length = 4) : ∃ y : XE, y.At w ∧ cs = y.cells := by
  obtain ⟨ys, n', _, _, _, hyl, hf⟩ := DataW.trod_struct Tryz.underlying63 h
  have hsz : ys.length = 4 := hyl
  obtain ⟨v0, z0, c0, t0⟩ := cell_of (off := 0) (t := 3) (by rw [List.getElem?_eq_getElem (by omega)]; rfl) (by kernel_rfl) (by omega) (hf 0 _ rfl)
  obtain ⟨v1, z1, c1, t1⟩ := cell_of (off := 1) (t := 3) (by rw [List.getElem?_eq_getElem (by omega)]; rfl) (by kernel_rfl) (by omega) (hf 1 _ rfl)
  obtain ⟨v2, z2, c2, t2⟩ := cell_of (off := 2) (t := 3) (by rw [List.getElem?_eq_getElem (by omega)]; rfl) (by kernel_rfl) (by omega) (hf 2 _ rfl)
  obtain ⟨v3, z3, c3, t3⟩ := cell_of (off := 3) (t := 61) (by rw [List.getElem?_eq_getElem (by omega)]; rfl) (by kernel_rfl) (by omega) (hf 3 _ rfl)
  obtain ⟨a, ha, _, _⟩ := DataW.trod_int Tryz.underlying3 t0
  obtain ⟨b, hb, _, _⟩ := DataW.trod_int Tryz.underlying3 t1
  obtain ⟨c, hc, _, _⟩ := DataW.trod_int Tryz.underlying3 t2
  obtain ⟨BA, bn, bc, bs, hbb, hbr, hbz⟩ := open_bytes t3
  simp only [List.cons.injEq, and_true] at ha hb hc
  have hbl := hbr.1
  subst hbl
  refine ⟨⟨a, b, c, bs, BA, bc⟩, ⟨hbr, hbz⟩, ?_⟩
  apply List.ext_getElem?
  intro k
  rcases k with _ | _ | _ | _ | k
  · rw [c0, ha]; rfl
  · rw [c1, hb]; rfl
  · rw [c2, hc]; rfl
  · rw [c3, hbb]; rfl
  · rw [List.getElem?_eq_none (by omega), List.getElem?_eq_none (by simp [XE.cells])]
set_option maxRecDepth 100000 in
theorem open_entries {fuel : Nat} {v : Value} {x : DataW H × List MemPlace} (h : DataW.trod encH Tryz.prog w base spare held fuel 42 [v] = some x) : ∃ A len cap ls, v = .slice A len cap ∧ RdX w A len ls := by
  rcases open_slice Tryz.underlying42 h with ⟨hcs, _⟩ | ⟨a, len, cap, m, n, D, Pl, hcs, hb, hl, hm, hmm, hx, hi⟩
  · simp at hcs
    exact ⟨none, 0, 0, [], hcs, rfl, by unfold maxLen; omega, fun h => by omega, fun x hx => by simp at hx⟩
  · simp at hcs
    have hlm : len ≤ m := by rw [hmm]; split <;> omega
    have hC : Tryz.prog.cellsOf 63 = 4 := by kernel_rfl
    have each : ∀ i, ∃ q : XE, i < len → q.At w ∧ ∀ j, j < 4 → w.cell? (a.add (i * 4 + j)) = q.cells[j]? := by
      intro i
      by_cases hil : i < len
      · obtain ⟨cs', hc, ht'⟩ := hi i (by omega)
        rw [hC] at hc
        obtain ⟨_, hcl, hat⟩ := World.cells?_some hc
        obtain ⟨q, hq, he⟩ := open_entry ht' (by omega)
        refine ⟨q, fun _ => ⟨hq, fun j hj => ?_⟩⟩
        rw [← he, ← hat j (by omega), add_add]
      · exact ⟨xe0, fun h => absurd h hil⟩
    obtain ⟨f, hf⟩ := Classical.axiomOfChoice each
    clear each
    refine ⟨some a, len, cap, (List.range len).map f, hcs, by simp, by omega, fun hp => ?_, ?_⟩
    · obtain ⟨b, off, sp⟩ := a
      have hspot : sp = none := by
        have h0 := (hf 0 hp).2 0 (by omega)
        have h1 : w.cell? ((⟨b, off, sp⟩ : Addr).add (0 * 4 + 0)) = some (.int .i64 (f 0).i) := h0
        simpa [Addr.add] using World.cell?_spot h1
      subst hspot
      refine ⟨b, off, rfl, fun i hi' j hj => ?_⟩
      simp only [List.length_map, List.length_range] at hi'
      have hq := (hf i hi').2 j hj
      rw [add_atB, ← Nat.add_assoc] at hq
      rw [hq]
      simp
    · intro q hq
      simp only [List.mem_map, List.mem_range] at hq
      obtain ⟨i, hi2, rfl⟩ := hq
      exact (hf i hi2).1
/-- five cells that read as a step -/
theorem open_step {n : Nat} {cs : List Value} {x : DataW H × List MemPlace} (h : DataW.trod encH Tryz.prog w base spare held n 45 cs = some x) (hl : cs.length = 5) : ∃ s : Stp, s.At w ∧ cs = s.cells := by
  obtain ⟨ys, n', _, _, _, hyl, hf⟩ := DataW.trod_struct Tryz.underlying45 h
  have hsz : ys.length = 5 := hyl
  obtain ⟨v0, z0, c0, t0⟩ := cell_of (off := 0) (t := 3) (by rw [List.getElem?_eq_getElem (by omega)]; rfl) (by kernel_rfl) (by omega) (hf 0 _ rfl)
  obtain ⟨v1, z1, c1, t1⟩ := cell_of (off := 1) (t := 3) (by rw [List.getElem?_eq_getElem (by omega)]; rfl) (by kernel_rfl) (by omega) (hf 1 _ rfl)
  obtain ⟨v2, z2, c2, t2⟩ := cell_of (off := 2) (t := 3) (by rw [List.getElem?_eq_getElem (by omega)]; rfl) (by kernel_rfl) (by omega) (hf 2 _ rfl)
  obtain ⟨v3, z3, c3, t3⟩ := cell_of (off := 3) (t := 42) (by rw [List.getElem?_eq_getElem (by omega)]; rfl) (by kernel_rfl) (by omega) (hf 3 _ rfl)
  obtain ⟨v4, z4, c4, t4⟩ := cell_of (off := 4) (t := 43) (by rw [List.getElem?_eq_getElem (by omega)]; rfl) (by kernel_rfl) (by omega) (hf 4 _ rfl)
  obtain ⟨a, ha, _, _⟩ := DataW.trod_int Tryz.underlying3 t0
  obtain ⟨b, hb, _, _⟩ := DataW.trod_int Tryz.underlying3 t1
  obtain ⟨c, hc, _, _⟩ := DataW.trod_int Tryz.underlying3 t2
  obtain ⟨LA, ln, lc, ls, hll, hlr⟩ := open_entries t3
  obtain ⟨KA, kn, kc, ks, hkk, hkr⟩ := open_numsI t4
  simp only [List.cons.injEq, and_true] at ha hb hc
  refine ⟨⟨a, b, c, LA, ln, lc, ls, KA, kn, kc, ks⟩, ⟨hlr, hkr⟩, ?_⟩
  apply List.ext_getElem?
  intro k
  rcases k with _ | _ | _ | _ | _ | k
  · rw [c0, ha]; rfl
  · rw [c1, hb]; rfl
  · rw [c2, hc]; rfl
  · rw [c3, hll]; rfl
  · rw [c4, hkk]; rfl
  · rw [List.getElem?_eq_none (by omega), List.getElem?_eq_none (by simp [Stp.cells])]
end
end Go.Proofs.YtnppomiggajhnaaGreatDoor.Wl

namespace Go.Proofs.YtnppomiggajhnaaGreatDoor.Wl
open Go.RowKit Go.ChangeShapes Go.WideShapes Go.Deep Go.Proofs.YtnppomiggajhnaaGreatDoor.Fld
set_option linter.unusedVariables false

theorem weights_all {H : Type} {P : Program} {e : TypeId} : ∀ {l : List (DataW H)} {d : DataW H}, d ∈ l → ∀ n ∈ d.weights P e, n ∈ DataW.weightsAll P e l
  | [], d, h, n, hn => by simp at h
  | x :: l, d, h, n, hn => by
    simp only [DataW.weightsAll, List.mem_append]
    rcases List.mem_cons.1 h with rfl | h
    · exact .inl hn
    · exact .inr (weights_all h n hn)
theorem weights_elem {H : Type} {P : Program} {t e : TypeId} {elems spare : List (DataW H)} (ht : P.underlying t = some (.slice e)) {d : DataW H} (hd : d ∈ elems) : ∀ n ∈ d.weights P e, n ∈ (DataW.slice elems spare).weights P t := by
  intro n hn
  simp only [DataW.weights, ht, List.mem_cons, List.mem_append]
  exact .inr (.inl (weights_all hd n hn))
theorem weights_part {H : Type} {P : Program} {t : TypeId} {fs : Array Field} {parts : List (DataW H)} (ht : P.underlying t = some (.struct fs)) {j : Nat} {f : Field} {d : DataW H} (hf : fs[j]? = some f) (hd : parts[j]? = some d) : ∀ n ∈ d.weights P f.type, n ∈ (DataW.agg parts).weights P t := by
  intro n hn
  simp only [DataW.weights, ht]
  exact DataW.weights_mem_each (j := j) (by rw [List.getElem?_map, Array.getElem?_toList, hf]; rfl) hd n hn
section
variable {H : Type} {encH : TypeId × Value → H} {w : World} {base : Nat} {spare : Nat → Bool} {held : Bool}
theorem open_bytesW {fuel : Nat} {v : Value} {x : DataW H × List MemPlace} (h : DataW.trod encH Tryz.prog w base spare held fuel 61 [v] = some x) (hw : ∀ n ∈ x.1.weights Tryz.prog 61, n ≤ reachBytes) : ∃ A n cap zs, v = .slice A n cap ∧ Rd w A n zs ∧ (A = none → cap = 0) ∧ n ≤ reachBytes := by
  rcases open_ints Tryz.underlying61 Tryz.underlying5 (by kernel_rfl) h with ⟨hcs, _⟩ | ⟨a, l, c, zs, hcs, _, hl, hm, hz, hx, hcell, hwz⟩
  · simp at hcs
    exact ⟨none, 0, 0, [], hcs, Rd.nil w, fun _ => rfl, Nat.zero_le _⟩
  · simp at hcs
    have hzl : l ≤ zs.length := by rw [hz]; split <;> omega
    have hzc : zs.length ≤ maxLen := by rw [hz]; split <;> omega
    refine ⟨some a, l, c, zs.take l, hcs, Rd.of_cells hzl hzc rfl hcell hwz, (fun h => by cases h), ?_⟩
    have hb : Tryz.prog.bytesOf 5 = 1 := by kernel_rfl
    have h1 := hw (((lits IntKind.u8 (zs.take l) : List (DataW H)).length + (lits IntKind.u8 (zs.drop l) : List (DataW H)).length) * Tryz.prog.bytesOf 5) (by rw [hx]; simp [DataW.weights, Tryz.underlying61])
    rw [hb, Nat.mul_one] at h1
    simp only [lits, List.length_map, List.length_take, List.length_drop] at h1
    omega
theorem open_entryW {n : Nat} {cs : List Value} {x : DataW H × List MemPlace} (h : DataW.trod encH Tryz.prog w base spare held n 63 cs = some x) (hl : cs.length = 4) (hw : ∀ n ∈ x.1.weights Tryz.prog 63, n ≤ reachBytes) : ∃ y : XE, y.At w ∧ cs = y.cells ∧ y.d.length ≤ reachBytes := by
  obtain ⟨ys, n', _, hxx, _, hyl, hf⟩ := DataW.trod_struct Tryz.underlying63 h
  have hsz : ys.length = 4 := hyl
  obtain ⟨v0, z0, c0, t0⟩ := cell_of (off := 0) (t := 3) (by rw [List.getElem?_eq_getElem (by omega)]; rfl) (by kernel_rfl) (by omega) (hf 0 _ rfl)
  obtain ⟨v1, z1, c1, t1⟩ := cell_of (off := 1) (t := 3) (by rw [List.getElem?_eq_getElem (by omega)]; rfl) (by kernel_rfl) (by omega) (hf 1 _ rfl)
  obtain ⟨v2, z2, c2, t2⟩ := cell_of (off := 2) (t := 3) (by rw [List.getElem?_eq_getElem (by omega)]; rfl) (by kernel_rfl) (by omega) (hf 2 _ rfl)
  have h3 := hf 3 _ rfl
  obtain ⟨v3, z3, c3, t3⟩ := cell_of (off := 3) (t := 61) (by rw [List.getElem?_eq_getElem (by omega)]; rfl) (by kernel_rfl) (by omega) h3
  obtain ⟨a, ha, _, _⟩ := DataW.trod_int Tryz.underlying3 t0
  obtain ⟨b, hb, _, _⟩ := DataW.trod_int Tryz.underlying3 t1
  obtain ⟨c, hc, _, _⟩ := DataW.trod_int Tryz.underlying3 t2
  have hy3 : ys[3]? = some z3 := by
    have e : (cs.drop 3).take (Tryz.prog.cellsOf 61) = [v3] := by rw [show Tryz.prog.cellsOf 61 = 1 by kernel_rfl]; exact cell_one 3 c3
    have h4 : DataW.trod encH Tryz.prog w base spare held n' 61 ((cs.drop 3).take (Tryz.prog.cellsOf 61)) = ys[3]? := h3
    rw [e, t3] at h4
    exact h4.symm
  obtain ⟨BA, bn, bc, bs, hbb, hbr, hbz, hbl2⟩ := open_bytesW t3 (fun n hn => hw n (by
    rw [hxx]
    exact weights_part (j := 3) Tryz.underlying63 rfl (by rw [List.getElem?_map, hy3]; rfl) n hn))
  simp only [List.cons.injEq, and_true] at ha hb hc
  have hbl := hbr.1
  subst hbl
  refine ⟨⟨a, b, c, bs, BA, bc⟩, ⟨hbr, hbz⟩, ?_, hbl2⟩
  apply List.ext_getElem?
  intro k
  rcases k with _ | _ | _ | _ | k
  · rw [c0, ha]; rfl
  · rw [c1, hb]; rfl
  · rw [c2, hc]; rfl
  · rw [c3, hbb]; rfl
  · rw [List.getElem?_eq_none (by omega), List.getElem?_eq_none (by simp [XE.cells])]
set_option maxRecDepth 100000 in
theorem open_entriesW {fuel : Nat} {v : Value} {x : DataW H × List MemPlace} (h : DataW.trod encH Tryz.prog w base spare held fuel 42 [v] = some x) (hw : ∀ n ∈ x.1.weights Tryz.prog 42, n ≤ reachBytes) : ∃ A len cap ls, v = .slice A len cap ∧ RdX w A len ls ∧ ∀ y ∈ ls, y.d.length ≤ reachBytes := by
  rcases open_slice Tryz.underlying42 h with ⟨hcs, _⟩ | ⟨a, len, cap, m, n, D, Pl, hcs, hb, hl, hm, hmm, hx, hi⟩
  · simp at hcs
    exact ⟨none, 0, 0, [], hcs, ⟨rfl, by unfold maxLen; omega, fun h => by omega, fun x hx => by simp at hx⟩, fun y hy => by simp at hy⟩
  · simp at hcs
    have hlm : len ≤ m := by rw [hmm]; split <;> omega
    have hC : Tryz.prog.cellsOf 63 = 4 := by kernel_rfl
    have each : ∀ i, ∃ q : XE, i < len → (q.At w ∧ q.d.length ≤ reachBytes) ∧ ∀ j, j < 4 → w.cell? (a.add (i * 4 + j)) = q.cells[j]? := by
      intro i
      by_cases hil : i < len
      · obtain ⟨cs', hc, ht'⟩ := hi i (by omega)
        rw [hC] at hc
        obtain ⟨_, hcl, hat⟩ := World.cells?_some hc
        obtain ⟨q, hq, he, hd⟩ := open_entryW ht' (by omega) (fun n hn => hw n (by
          rw [hx]
          exact weights_elem Tryz.underlying42 (List.mem_map.2 ⟨i, List.mem_range.2 hil, rfl⟩) n hn))
        refine ⟨q, fun _ => ⟨⟨hq, hd⟩, fun j hj => ?_⟩⟩
        rw [← he, ← hat j (by omega), add_add]
      · exact ⟨xe0, fun h => absurd h hil⟩
    obtain ⟨f, hf⟩ := Classical.axiomOfChoice each
    clear each
    refine ⟨some a, len, cap, (List.range len).map f, hcs, ⟨by simp, by omega, fun hp => ?_, ?_⟩, ?_⟩
    · obtain ⟨b, off, sp⟩ := a
      have hspot : sp = none := by
        have h0 := (hf 0 hp).2 0 (by omega)
        have h1 : w.cell? ((⟨b, off, sp⟩ : Addr).add (0 * 4 + 0)) = some (.int .i64 (f 0).i) := h0
        simpa [Addr.add] using World.cell?_spot h1
      subst hspot
      refine ⟨b, off, rfl, fun i hi' j hj => ?_⟩
      simp only [List.length_map, List.length_range] at hi'
      have hq := (hf i hi').2 j hj
      rw [add_atB, ← Nat.add_assoc] at hq
      rw [hq]
      simp
    · intro q hq
      simp only [List.mem_map, List.mem_range] at hq
      obtain ⟨i, hi2, rfl⟩ := hq
      exact (hf i hi2).1.1
    · intro q hq
      simp only [List.mem_map, List.mem_range] at hq
      obtain ⟨i, hi2, rfl⟩ := hq
      exact (hf i hi2).1.2
/-- five cells that read as a step -/
theorem open_stepW {n : Nat} {cs : List Value} {x : DataW H × List MemPlace} (h : DataW.trod encH Tryz.prog w base spare held n 45 cs = some x) (hl : cs.length = 5) (hw : ∀ n ∈ x.1.weights Tryz.prog 45, n ≤ reachBytes) : ∃ s : Stp, s.At w ∧ cs = s.cells ∧ s.N ≤ 9223372036854775807 ∧ ∀ y ∈ s.ls, y.d.length ≤ reachBytes := by
  obtain ⟨ys, n', _, hxx, _, hyl, hf⟩ := DataW.trod_struct Tryz.underlying45 h
  have hsz : ys.length = 5 := hyl
  obtain ⟨v0, z0, c0, t0⟩ := cell_of (off := 0) (t := 3) (by rw [List.getElem?_eq_getElem (by omega)]; rfl) (by kernel_rfl) (by omega) (hf 0 _ rfl)
  obtain ⟨v1, z1, c1, t1⟩ := cell_of (off := 1) (t := 3) (by rw [List.getElem?_eq_getElem (by omega)]; rfl) (by kernel_rfl) (by omega) (hf 1 _ rfl)
  obtain ⟨v2, z2, c2, t2⟩ := cell_of (off := 2) (t := 3) (by rw [List.getElem?_eq_getElem (by omega)]; rfl) (by kernel_rfl) (by omega) (hf 2 _ rfl)
  have h3 := hf 3 _ rfl
  obtain ⟨v3, z3, c3, t3⟩ := cell_of (off := 3) (t := 42) (by rw [List.getElem?_eq_getElem (by omega)]; rfl) (by kernel_rfl) (by omega) h3
  obtain ⟨v4, z4, c4, t4⟩ := cell_of (off := 4) (t := 43) (by rw [List.getElem?_eq_getElem (by omega)]; rfl) (by kernel_rfl) (by omega) (hf 4 _ rfl)
  obtain ⟨a, ha, _, _⟩ := DataW.trod_int Tryz.underlying3 t0
  obtain ⟨b, hb, _, hbw⟩ := DataW.trod_int Tryz.underlying3 t1
  obtain ⟨c, hc, _, _⟩ := DataW.trod_int Tryz.underlying3 t2
  have hy3 : ys[3]? = some z3 := by
    have e : (cs.drop 3).take (Tryz.prog.cellsOf 42) = [v3] := by rw [show Tryz.prog.cellsOf 42 = 1 by kernel_rfl]; exact cell_one 3 c3
    have h4 : DataW.trod encH Tryz.prog w base spare held n' 42 ((cs.drop 3).take (Tryz.prog.cellsOf 42)) = ys[3]? := h3
    rw [e, t3] at h4
    exact h4.symm
  obtain ⟨LA, ln, lc, ls, hll, hlr, hld⟩ := open_entriesW t3 (fun n hn => hw n (by
    rw [hxx]
    exact weights_part (j := 3) Tryz.underlying45 rfl (by rw [List.getElem?_map, hy3]; rfl) n hn))
  obtain ⟨KA, kn, kc, ks, hkk, hkr⟩ := open_numsI t4
  simp only [List.cons.injEq, and_true] at ha hb hc
  refine ⟨⟨a, b, c, LA, ln, lc, ls, KA, kn, kc, ks⟩, ⟨hlr, hkr⟩, ?_, (i64_of_wf hbw).2, hld⟩
  apply List.ext_getElem?
  intro k
  rcases k with _ | _ | _ | _ | _ | k
  · rw [c0, ha]; rfl
  · rw [c1, hb]; rfl
  · rw [c2, hc]; rfl
  · rw [c3, hll]; rfl
  · rw [c4, hkk]; rfl
  · rw [List.getElem?_eq_none (by omega), List.getElem?_eq_none (by simp [Stp.cells])]
set_option maxRecDepth 100000 in
theorem open_steps {fuel : Nat} {v : Value} {x : DataW H × List MemPlace} (h : DataW.trod encH Tryz.prog w base spare held fuel 41 [v] = some x) (hw : ∀ n ∈ x.1.weights Tryz.prog 41, n ≤ reachBytes) : ∃ A len cap l, v = .slice A len cap ∧ RdT w A len l ∧ tame l ∧ ∀ s ∈ l, s.N ≤ 9223372036854775807 := by
  rcases open_slice Tryz.underlying41 h with ⟨hcs, _⟩ | ⟨a, len, cap, m, n, D, Pl, hcs, hb, hl, hm, hmm, hx, hi⟩
  · simp at hcs
    exact ⟨none, 0, 0, [], hcs, ⟨rfl, by unfold maxLen; omega, fun h => by omega, fun x hx => by simp at hx⟩, fun s hs => by simp at hs, fun s hs => by simp at hs⟩
  · simp at hcs
    have hlm : len ≤ m := by rw [hmm]; split <;> omega
    have hC : Tryz.prog.cellsOf 45 = 5 := by kernel_rfl
    have each : ∀ i, ∃ q : Stp, i < len → (q.At w ∧ q.N ≤ 9223372036854775807 ∧ ∀ y ∈ q.ls, y.d.length ≤ reachBytes) ∧ ∀ j, j < 5 → w.cell? (a.add (i * 5 + j)) = q.cells[j]? := by
      intro i
      by_cases hil : i < len
      · obtain ⟨cs', hc, ht'⟩ := hi i (by omega)
        rw [hC] at hc
        obtain ⟨_, hcl, hat⟩ := World.cells?_some hc
        obtain ⟨q, hq, he, hd⟩ := open_stepW ht' (by omega) (fun n hn => hw n (by
          rw [hx]
          exact weights_elem Tryz.underlying41 (List.mem_map.2 ⟨i, List.mem_range.2 hil, rfl⟩) n hn))
        refine ⟨q, fun _ => ⟨⟨hq, hd⟩, fun j hj => ?_⟩⟩
        rw [← he, ← hat j (by omega), add_add]
      · exact ⟨⟨0, 0, 0, none, 0, 0, [], none, 0, 0, []⟩, fun h => absurd h hil⟩
    obtain ⟨f, hf⟩ := Classical.axiomOfChoice each
    clear each
    refine ⟨some a, len, cap, (List.range len).map f, hcs, ⟨by simp, by omega, fun hp => ?_, ?_⟩, ?_, ?_⟩
    · obtain ⟨b, off, sp⟩ := a
      have hspot : sp = none := by
        have h0 := (hf 0 hp).2 0 (by omega)
        have h1 : w.cell? ((⟨b, off, sp⟩ : Addr).add (0 * 5 + 0)) = some (.int .i64 (f 0).d) := h0
        simpa [Addr.add] using World.cell?_spot h1
      subst hspot
      refine ⟨b, off, rfl, fun i hi' j hj => ?_⟩
      simp only [List.length_map, List.length_range] at hi'
      have hq := (hf i hi').2 j hj
      rw [add_atB, ← Nat.add_assoc] at hq
      rw [hq]
      simp
    · intro q hq
      simp only [List.mem_map, List.mem_range] at hq
      obtain ⟨i, hi2, rfl⟩ := hq
      exact (hf i hi2).1.1
    · intro q hq
      simp only [List.mem_map, List.mem_range] at hq
      obtain ⟨i, hi2, rfl⟩ := hq
      intro y hy
      have h9 := (hf i hi2).1.2.2 y hy
      have : reachBytes = 140737488351232 := by decide
      omega
    · intro q hq
      simp only [List.mem_map, List.mem_range] at hq
      obtain ⟨i, hi2, rfl⟩ := hq
      exact (hf i hi2).1.2.1
end
end Go.Proofs.YtnppomiggajhnaaGreatDoor.Wl
