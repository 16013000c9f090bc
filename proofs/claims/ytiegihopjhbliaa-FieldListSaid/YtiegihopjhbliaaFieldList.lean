/-
  That the law FieldList answers true and leaves all memory that was there as it was. Conditions: the slices can be read.
-/
import Derived.Test.YtiegihopjhbliaaFieldTxt
import Derived.Test.YtiegihopjhbliaaFieldMore
namespace Go.Proofs.Ytiegihopjhbliaa.Fld
open Go.RowKit

/-- a slice that holds slices of the bytes ls -/
def RdL (w : World) (B : Option Addr) (m : Nat) (ls : List (List Int)) : Prop :=
  ls.length = m ∧ m ≤ maxLen ∧ (0 < m → ∃ b off, B = some ⟨b, off, none⟩ ∧ ∀ i, i < m → ∃ A n cap, w.cell? ⟨b, off + i, none⟩ = some (.slice A n cap) ∧ Rd w A n (ls.getD i []) ∧ (A = none → cap = 0))
theorem RdL.below {w w' : World} {B : Option Addr} {m : Nat} {ls : List (List Int)} (h : RdL w B m ls) (hb : Below w.heap.size w w') : RdL w' B m ls := by
  obtain ⟨h1, h2, h3⟩ := h
  refine ⟨h1, h2, fun hm => ?_⟩
  obtain ⟨b, off, e, hc⟩ := h3 hm
  refine ⟨b, off, e, fun i hi => ?_⟩
  obtain ⟨A, n, cap, c0, hs, hA⟩ := hc i hi
  exact ⟨A, n, cap, (hb.cell (lt_of_cell c0)).trans c0, hs.below hb, hA⟩
theorem RdL.cut {w : World} {B : Option Addr} {m : Nat} {ls : List (List Int)} (h : RdL w B m ls) (N : Nat) (hN : N ≤ m) : RdL w B N (ls.take N) := by
  obtain ⟨h1, h2, h3⟩ := h
  refine ⟨by rw [List.length_take]; omega, by omega, fun hm => ?_⟩
  obtain ⟨b, off, e, hc⟩ := h3 (by omega)
  refine ⟨b, off, e, fun i hi => ?_⟩
  obtain ⟨A, n, cap, c0, hs⟩ := hc i (by omega)
  refine ⟨A, n, cap, c0, ?_⟩
  rw [List.getD_eq_getElem?_getD, List.getElem?_take, if_pos hi, ← List.getD_eq_getElem?_getD]
  exact hs

/-- the codes of texts, one behind the other -/
def enc : List (List Int) → List Int
  | [] => []
  | t :: r => textC t ++ enc r
theorem enc_append (xs ys : List (List Int)) : enc (xs ++ ys) = enc xs ++ enc ys := by
  induction xs with
  | nil => rfl
  | cons t r ih => rw [List.cons_append, enc, enc, ih, List.append_assoc]
theorem enc_take (ls : List (List Int)) (k : Nat) (h : k < ls.length) : enc (ls.take (k + 1)) = enc (ls.take k) ++ textC (ls.getD k []) := by
  rw [List.take_succ_eq_append_getElem h, enc_append, enc, enc, List.append_nil]
  simp [h]
theorem enc_drop (ls : List (List Int)) (k : Nat) (h : k < ls.length) : enc (ls.drop k) = textC (ls.getD k []) ++ enc (ls.drop (k + 1)) := by
  rw [List.drop_eq_getElem_cons h, enc]
  simp [h]
theorem enc_ge (ls : List (List Int)) : ls.length ≤ (enc ls).length := by
  induction ls with
  | nil => simp
  | cons t r ih => rw [enc, List.length_append, textC_len, List.length_cons]; omega
theorem enc_le (ls : List (List Int)) (k : Nat) (hk : k ≤ ls.length) (h : ∀ j, j < k → (ls.getD j []).length ≤ 5000) : (enc (ls.take k)).length ≤ k * 5010 := by
  induction k with
  | zero => simp [enc]
  | succ k ih =>
    have h1 := ih (by omega) (fun j hj => h j (by omega))
    have h2 := h k (by omega)
    have h3 := digs_len8 (ls.getD k []).length (by omega)
    rw [enc_take ls k (by omega), List.length_append, textC_len]
    omega

/-- the first loop's round -/
def LR (w : World) (ls : List (List Int)) (M : Nat) (v i : Value) (wr : World) : Prop := ∃ k : Nat, k ≤ M ∧ i = .int .i64 (k : Int) ∧ (∀ j, j < k → (ls.getD j []).length ≤ 5000) ∧ Own w wr v (enc (ls.take k))
/-- the second loop's round -/
def LR2 (w : World) (g : Nat) (ls : List (List Int)) (k : Nat) (i : Value) (wr : World) : Prop := ∃ j : Nat, j ≤ k ∧ i = .int .i64 (j : Int) ∧ Rdr wr g (enc (ls.drop j)) false ∧ Below w.heap.size w wr
theorem bad_quiet (g : Nat) (zs : List Int) (bad : Bool) (w : World) (n : Nat) (h : Rdr w g zs bad) : Calls Try.prog 26 #[.pointer (some ⟨g, 0, none⟩)] (w.drewN n) fun e w'' => e = .returned (.bool bad) ∧ ∃ m, w'' = w.drewN m :=
  (bad_any g zs bad (w.drewN n) (h.below ⟨rfl, rfl, rfl, Nat.le_refl _, fun _ _ => rfl⟩)).mono fun _ _ ⟨he, hw⟩ => ⟨he, n, hw.symm⟩
theorem Sl.drewN {w : World} {A : Option Addr} {n cap : Nat} {zs : List Int} (h : Sl w A n cap zs) (k : Nat) : Sl (w.drewN k) A n cap zs := ⟨h.1.drewN k, h.2⟩

set_option maxHeartbeats 1600000 in
theorem list_small (B : Option Addr) (m cb : Nat) (ls0 : List (List Int)) (w : World) (hq0 : RdL w B m ls0) (hmc : m ≤ cb) (hM : m ≤ 100) :
    Calls Try.prog 12 #[.slice B m cb] w fun e w' => e = .returned (.bool true) ∧ Below w.heap.size w w' := by
  have hm0 := hq0.2.1
  unfold maxLen at hm0
  obtain ⟨M, hMm⟩ : ∃ M, M = m := ⟨m, rfl⟩
  subst hMm
  obtain ⟨ls, hls⟩ : ∃ ls, ls = ls0 := ⟨ls0, rfl⟩
  subst hls
  have hq := hq0
  have g1 : ¬ ((100 : Int) < (M : Int)) := by omega
  have HQ := Lib.hid hq
  have HL := Lib.hid hq.1
  clear hq0 hq
  go_enter Try.func12, Try.ntmps12
  go_wp2_with fail
  go_loopw [3, 4] (fun v i wr => LR w ls M v i wr) (fun _ i _ => M - (intOf i).toNat)
  case atStart => exact ⟨0, by omega, rfl, fun j hj => by omega, Own.nil w w (Below.refl _ _)⟩
  case round =>
    obtain ⟨k, hk, rfl, hle, hO⟩ := hrel
    have HLE := Lib.hid hle
    have HO := Lib.hid hO
    have hel := enc_le ls k (by rw [HL.out]; exact hk) hle
    have HEL := Lib.hid hel
    clear hle hO hel
    by_cases hlt : k < M
    · obtain ⟨b2, off2, rfl, hc⟩ := (HQ.out.below HO.out.1).2.2 (by omega)
      obtain ⟨A, n, cap, c0, hs, hA⟩ := hc k hlt
      have HA := Lib.hid hA
      clear hA
      clear hc
      have HS := Lib.hid hs
      have hn := hs.1
      have hnm := hs.2.1
      unfold maxLen at hnm
      have HTK := Lib.hid (enc_take ls k (by rw [HL.out]; exact hlt))
      have HN := Lib.hid hn
      clear hs hn
      generalize hT : ls.getD k [] = t at HS HTK HN
      have HT := Lib.hid hT
      clear hT
      by_cases hbig : 5000 < n
      · go_wp2
        go_ret
        exact ⟨rfl, HO.out.1⟩
      · have hsm : n ≤ 5000 := by omega
        have hsi : ¬ ((5000 : Int) < (n : Int)) := by omega
        have HTL := Lib.hid (textC_len t)
        rw [HN.out] at HTL
        have hd8 := digs_len8 n (by omega)
        generalize (digs n).length = kd at *
        have HLE2 := Lib.hid (show ∀ j, j < k + 1 → (ls.getD j []).length ≤ 5000 by
          intro j hj
          rcases Nat.lt_or_ge j k with h | h
          · exact HLE.out j h
          · obtain rfl : j = k := by omega
            rw [HT.out, HN.out]; exact hsm)
        go_wp2_with fail
        refine (text_any A n cap _ _ HS.out HA.out (by omega)).mono ?_
        rintro e w1 ⟨v1, rfl, hO1⟩
        obtain ⟨A1, c1, hv1, hs1, _⟩ := hO1.sl _ HTL.out
        subst hv1
        have HOa := Lib.hid (HO.out.below hO1.1)
        have HS1 := Lib.hid hs1
        have HBD := Lib.hid (show (enc (ls.take k)).length + (kd + 1 + n) ≤ 140737488355328 by have := HEL.out; omega)
        clear hs1 hO1 c0
        go_wp2_with (refine wpList_append_rd rfl _ _ rfl w u3 (enc (ls.take k)) rfl HOa.out A1 (kd + 1 + n) c1 (textC t) rfl HS1.out.2.2.2.1 HS1.out.1 HBD.out ?_)
        intro v2 w2 hO2 _ _
        rw [← HTK.out] at hO2
        have HO2 := Lib.hid hO2
        clear hO2
        go_wp2
        go_roundw
        case rel => exact ⟨k + 1, by omega, by go_num, HLE2.out, HO2.out⟩
        case measure => simp [intOf]; omega
    · obtain rfl : k = M := by omega
      have HTA := Lib.hid (show ls.take k = ls by rw [← HL.out, List.take_length])
      have hge := enc_ge ls
      rw [HL.out] at hge
      have hup := HEL.out
      rw [HTA.out] at hup
      have HOe := Lib.hid (show Own w wr u3 (enc ls) by have := HO.out; rw [HTA.out] at this; exact this)
      obtain ⟨Ab, cbb, hvb, hsb, _⟩ := HOe.out.sl (enc ls).length rfl
      subst hvb
      generalize hE : (enc ls).length = E at *
      have HSb := Lib.hid hsb
      have HBb := Lib.hid HOe.out.1
      clear hsb hE HOe HO HEL
      have hE1 : E ≤ 140737488355328 := by omega
      have hE2 : decide (E < k) = false := by simp; omega
      go_wp2_with fail
      refine (new_any Ab E cbb (enc ls) _ HSb.out.1 HSb.out.2.2.2.1 hE1).mono ?_
      rintro e w1 ⟨g, rfl, hg, hr, hb⟩
      have HR1 := Lib.hid hr
      have HB1 := Lib.hid (HBb.out.trans (hb.mono HBb.out.size))
      have hgw : w.heap.size ≤ g := by have := HBb.out.size; omega
      clear hr hb HSb HBb hg
      go_wp2_with fail
      go_loopw [6] (fun i wr => LR2 w g ls k i wr) (fun i _ => k - (intOf i).toNat)
      case atStart => exact ⟨0, by omega, rfl, HR1.out, HB1.out⟩
      case round =>
        obtain ⟨j, hj, rfl, hr, hb⟩ := hrel
        have HR := Lib.hid hr
        have HB := Lib.hid hb
        clear hr hb HR1 HB1
        by_cases hlt2 : j < k
        · have h5 := HLE.out j hlt2
          have HCT := Lib.hid (show cutText (enc (ls.drop j)) = some (ls.getD j [], enc (ls.drop (j + 1))) by
            rw [enc_drop ls j (by rw [HL.out]; exact hlt2)]
            exact cutText_code _ (by omega) _)
          have HLm := Lib.hid (show ((ls.getD j []).length : Int) ≤ 5000 by omega)
          clear h5
          go_wp2_with fail
          refine (rtext_ok g _ _ HR.out _ _ HCT.out 5000 HLm.out).mono ?_
          rintro e w2 ⟨A2, n2, c2, rfl, hs2, hch, hr⟩
          have HR2 := Lib.hid hr
          have HB2 := Lib.hid (Below.chg HB.out hch hgw)
          obtain ⟨b3, off3, rfl, hc⟩ := (HQ.out.below HB2.out).2.2 (by omega)
          obtain ⟨A3, n3, cap3, c3, hs3, _⟩ := hc j hlt2
          have q1 := fun i => conv_str (hs2.1.drewN i) c2
          have q2 := fun i => conv_str (hs3.drewN i) cap3
          clear hc hs2 hs3 hch hr HR HB
          generalize str (ls.getD j []) = s at *
          have j1 : (j : Int) < (k : Int) := by omega
          have j0 : (0 : Int) ≤ (j : Int) := by omega
          have hss : (s.toList == s.toList) = true := by simp
          go_wp2_with fail
          go_quiet ((go_at_call 26; exact bad_quiet g _ _ _ _ HR2.out))
          clear q1 q2 c3
          have HR3 := Lib.hid (HR2.out.below (w' := w2.drewN nq) ⟨rfl, rfl, rfl, Nat.le_refl _, fun _ _ => rfl⟩)
          have HB3 := Lib.hid (HB2.out.trans (c := w2.drewN nq) ⟨rfl, rfl, rfl, Nat.le_refl _, fun _ _ => rfl⟩)
          go_wp2
          go_roundw

          case rel => exact ⟨j + 1, by omega, by go_num, HR3.out, HB3.out⟩
          case measure => simp [intOf]; omega
        · obtain rfl : j = k := by omega
          have HDR := Lib.hid (show enc (ls.drop j) = [] by rw [← HL.out, List.drop_length]; rfl)
          rw [HDR.out] at HR
          go_wp2_with fail
          refine (whole_any g _ _ _ HR.out).mono ?_
          rintro e w2 ⟨rfl, rfl⟩
          rw [show wholeB [] false = true from rfl]
          go_wp2
          go_ret
          exact ⟨rfl, HB.out⟩

set_option maxHeartbeats 1600000 in
theorem list_big (B : Option Addr) (m cb : Nat) (ls0 : List (List Int)) (w : World) (hq0 : RdL w B m ls0) (hmc : m ≤ cb) (hM : 100 < m) :
    Calls Try.prog 12 #[.slice B m cb] w fun e w' => e = .returned (.bool true) ∧ Below w.heap.size w w' := by
  have hm0 := hq0.2.1
  unfold maxLen at hm0
  have hq := hq0.cut 100 (by omega)
  generalize ls0.take 100 = ls at hq
  have g1 : (100 : Int) < (m : Int) := by omega
  have g2 : (100 : Int) ≤ (cb : Int) := by omega
  have HQ := Lib.hid hq
  have HL := Lib.hid hq.1
  clear hq0 hq
  go_enter Try.func12, Try.ntmps12
  go_wp2_with fail
  generalize hM100 : (100 : Nat) = M at HQ HL ⊢
  have hM1 : M ≤ 100 := by omega
  clear hM100 g1 g2
  go_loopw [3, 4] (fun v i wr => LR w ls M v i wr) (fun _ i _ => M - (intOf i).toNat)
  case atStart => exact ⟨0, by omega, rfl, fun j hj => by omega, Own.nil w w (Below.refl _ _)⟩
  case round =>
    obtain ⟨k, hk, rfl, hle, hO⟩ := hrel
    have HLE := Lib.hid hle
    have HO := Lib.hid hO
    have hel := enc_le ls k (by rw [HL.out]; exact hk) hle
    have HEL := Lib.hid hel
    clear hle hO hel
    by_cases hlt : k < M
    · obtain ⟨b2, off2, rfl, hc⟩ := (HQ.out.below HO.out.1).2.2 (by omega)
      obtain ⟨A, n, cap, c0, hs, hA⟩ := hc k hlt
      have HA := Lib.hid hA
      clear hA
      clear hc
      have HS := Lib.hid hs
      have hn := hs.1
      have hnm := hs.2.1
      unfold maxLen at hnm
      have HTK := Lib.hid (enc_take ls k (by rw [HL.out]; exact hlt))
      have HN := Lib.hid hn
      clear hs hn
      generalize hT : ls.getD k [] = t at HS HTK HN
      have HT := Lib.hid hT
      clear hT
      by_cases hbig : 5000 < n
      · go_wp2
        go_ret
        exact ⟨rfl, HO.out.1⟩
      · have hsm : n ≤ 5000 := by omega
        have hsi : ¬ ((5000 : Int) < (n : Int)) := by omega
        have HTL := Lib.hid (textC_len t)
        rw [HN.out] at HTL
        have hd8 := digs_len8 n (by omega)
        generalize (digs n).length = kd at *
        have HLE2 := Lib.hid (show ∀ j, j < k + 1 → (ls.getD j []).length ≤ 5000 by
          intro j hj
          rcases Nat.lt_or_ge j k with h | h
          · exact HLE.out j h
          · obtain rfl : j = k := by omega
            rw [HT.out, HN.out]; exact hsm)
        go_wp2_with fail
        refine (text_any A n cap _ _ HS.out HA.out (by omega)).mono ?_
        rintro e w1 ⟨v1, rfl, hO1⟩
        obtain ⟨A1, c1, hv1, hs1, _⟩ := hO1.sl _ HTL.out
        subst hv1
        have HOa := Lib.hid (HO.out.below hO1.1)
        have HS1 := Lib.hid hs1
        have HBD := Lib.hid (show (enc (ls.take k)).length + (kd + 1 + n) ≤ 140737488355328 by have := HEL.out; omega)
        clear hs1 hO1 c0
        go_wp2_with (refine wpList_append_rd rfl _ _ rfl w u3 (enc (ls.take k)) rfl HOa.out A1 (kd + 1 + n) c1 (textC t) rfl HS1.out.2.2.2.1 HS1.out.1 HBD.out ?_)
        intro v2 w2 hO2 _ _
        rw [← HTK.out] at hO2
        have HO2 := Lib.hid hO2
        clear hO2
        go_wp2
        go_roundw
        case rel => exact ⟨k + 1, by omega, by go_num, HLE2.out, HO2.out⟩
        case measure => simp [intOf]; omega
    · obtain rfl : k = M := by omega
      have HTA := Lib.hid (show ls.take k = ls by rw [← HL.out, List.take_length])
      have hge := enc_ge ls
      rw [HL.out] at hge
      have hup := HEL.out
      rw [HTA.out] at hup
      have HOe := Lib.hid (show Own w wr u3 (enc ls) by have := HO.out; rw [HTA.out] at this; exact this)
      obtain ⟨Ab, cbb, hvb, hsb, _⟩ := HOe.out.sl (enc ls).length rfl
      subst hvb
      generalize hE : (enc ls).length = E at *
      have HSb := Lib.hid hsb
      have HBb := Lib.hid HOe.out.1
      clear hsb hE HOe HO HEL
      have hE1 : E ≤ 140737488355328 := by omega
      have hE2 : decide (E < k) = false := by simp; omega
      go_wp2_with fail
      refine (new_any Ab E cbb (enc ls) _ HSb.out.1 HSb.out.2.2.2.1 hE1).mono ?_
      rintro e w1 ⟨g, rfl, hg, hr, hb⟩
      have HR1 := Lib.hid hr
      have HB1 := Lib.hid (HBb.out.trans (hb.mono HBb.out.size))
      have hgw : w.heap.size ≤ g := by have := HBb.out.size; omega
      clear hr hb HSb HBb hg
      go_wp2_with fail
      go_loopw [6] (fun i wr => LR2 w g ls k i wr) (fun i _ => k - (intOf i).toNat)
      case atStart => exact ⟨0, by omega, rfl, HR1.out, HB1.out⟩
      case round =>
        obtain ⟨j, hj, rfl, hr, hb⟩ := hrel
        have HR := Lib.hid hr
        have HB := Lib.hid hb
        clear hr hb HR1 HB1
        by_cases hlt2 : j < k
        · have h5 := HLE.out j hlt2
          have HCT := Lib.hid (show cutText (enc (ls.drop j)) = some (ls.getD j [], enc (ls.drop (j + 1))) by
            rw [enc_drop ls j (by rw [HL.out]; exact hlt2)]
            exact cutText_code _ (by omega) _)
          have HLm := Lib.hid (show ((ls.getD j []).length : Int) ≤ 5000 by omega)
          clear h5
          go_wp2_with fail
          refine (rtext_ok g _ _ HR.out _ _ HCT.out 5000 HLm.out).mono ?_
          rintro e w2 ⟨A2, n2, c2, rfl, hs2, hch, hr⟩
          have HR2 := Lib.hid hr
          have HB2 := Lib.hid (Below.chg HB.out hch hgw)
          obtain ⟨b3, off3, rfl, hc⟩ := (HQ.out.below HB2.out).2.2 (by omega)
          obtain ⟨A3, n3, cap3, c3, hs3, _⟩ := hc j hlt2
          have q1 := fun i => conv_str (hs2.1.drewN i) c2
          have q2 := fun i => conv_str (hs3.drewN i) cap3
          clear hc hs2 hs3 hch hr HR HB
          generalize str (ls.getD j []) = s at *
          have j1 : (j : Int) < (k : Int) := by omega
          have j0 : (0 : Int) ≤ (j : Int) := by omega
          have hss : (s.toList == s.toList) = true := by simp
          go_wp2_with fail
          go_quiet ((go_at_call 26; exact bad_quiet g _ _ _ _ HR2.out))
          clear q1 q2 c3
          have HR3 := Lib.hid (HR2.out.below (w' := w2.drewN nq) ⟨rfl, rfl, rfl, Nat.le_refl _, fun _ _ => rfl⟩)
          have HB3 := Lib.hid (HB2.out.trans (c := w2.drewN nq) ⟨rfl, rfl, rfl, Nat.le_refl _, fun _ _ => rfl⟩)
          go_wp2
          go_roundw

          case rel => exact ⟨j + 1, by omega, by go_num, HR3.out, HB3.out⟩
          case measure => simp [intOf]; omega
        · obtain rfl : j = k := by omega
          have HDR := Lib.hid (show enc (ls.drop j) = [] by rw [← HL.out, List.drop_length]; rfl)
          rw [HDR.out] at HR
          go_wp2_with fail
          refine (whole_any g _ _ _ HR.out).mono ?_
          rintro e w2 ⟨rfl, rfl⟩
          rw [show wholeB [] false = true from rfl]
          go_wp2
          go_ret
          exact ⟨rfl, HB.out⟩
theorem list_walk (B : Option Addr) (m cb : Nat) (ls0 : List (List Int)) (w : World) (hq0 : RdL w B m ls0) (hmc : m ≤ cb) :
    Calls Try.prog 12 #[.slice B m cb] w fun e w' => e = .returned (.bool true) ∧ Below w.heap.size w w' := by
  by_cases h : m ≤ 100
  · exact list_small B m cb ls0 w hq0 hmc h
  · exact list_big B m cb ls0 w hq0 hmc (by omega)
end Go.Proofs.Ytiegihopjhbliaa.Fld
