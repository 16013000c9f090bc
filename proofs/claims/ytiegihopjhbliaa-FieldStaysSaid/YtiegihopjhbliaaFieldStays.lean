/-
  That the law FieldStays answers true and leaves all memory that was there as it was. Conditions: the slices can be read.
-/
import Derived.Test.YtiegihopjhbliaaFieldNum
import Derived.Test.YtiegihopjhbliaaFieldInt
import Derived.Test.YtiegihopjhbliaaFieldTxt
namespace Go.Proofs.Ytiegihopjhbliaa.Fld
open Go.RowKit

/-- a slice that holds the readings qs: which, its low, its most -/
def RdA (w : World) (B : Option Addr) (m : Nat) (qs : List (Int × Int × Int)) : Prop :=
  qs.length = m ∧ m ≤ maxLen ∧ (0 < m → ∃ b off, B = some ⟨b, off, none⟩ ∧ ∀ i, i < m → ∃ d lo hi, qs[i]? = some (d, lo, hi) ∧ w.cell? ⟨b, off + i * 3, none⟩ = some (.int .i64 d) ∧ w.cell? ⟨b, off + i * 3 + 1, none⟩ = some (.int .i64 lo) ∧ w.cell? ⟨b, off + i * 3 + 2, none⟩ = some (.int .i64 hi) ∧ -9223372036854775808 ≤ lo ∧ lo ≤ 9223372036854775807 ∧ -9223372036854775808 ≤ hi ∧ hi ≤ 9223372036854775807)
theorem RdA.below {w w' : World} {B : Option Addr} {m : Nat} {qs : List (Int × Int × Int)} (h : RdA w B m qs) (hb : Below w.heap.size w w') : RdA w' B m qs := by
  obtain ⟨h1, h2, h3⟩ := h
  refine ⟨h1, h2, fun hm => ?_⟩
  obtain ⟨b, off, e, hc⟩ := h3 hm
  refine ⟨b, off, e, fun i hi => ?_⟩
  obtain ⟨d, lo, hi', q, c0, c1, c2, r⟩ := hc i hi
  exact ⟨d, lo, hi', q, (hb.cell (lt_of_cell c0)).trans c0, (hb.cell (lt_of_cell c1)).trans c1, (hb.cell (lt_of_cell c2)).trans c2, r⟩

/-- whatever comes: a reader stays a reader -/
theorem num_some (g : Nat) (zs : List Int) (w : World) (bad : Bool) (hr : Rdr w g zs bad) (most : Int) :
    Calls Try.prog 20 #[.pointer (some ⟨g, 0, none⟩), .int .u64 most] w fun e w' => ∃ v zs' bad', e = .returned (.int .u64 v) ∧ Chg g w w' ∧ Rdr w' g zs' bad' := by
  have fin : ∀ {v : Int} {zs' : List Int} {bad' : Bool}, Calls Try.prog 20 #[.pointer (some ⟨g, 0, none⟩), .int .u64 most] w (Got g w (.int .u64 v) zs' bad') →
      Calls Try.prog 20 #[.pointer (some ⟨g, 0, none⟩), .int .u64 most] w fun e w' => ∃ v zs' bad', e = .returned (.int .u64 v) ∧ Chg g w w' ∧ Rdr w' g zs' bad' :=
    fun h => h.mono fun e w' ⟨h1, h2, h3⟩ => ⟨_, _, _, h1, h2, h3⟩
  cases bad with
  | true => exact fin (num_bad g zs w true hr most (.inl rfl))
  | false =>
    cases hc : cutNum zs with
    | none => exact fin (num_bad g zs w false hr most (.inr (.inl hc)))
    | some q =>
      obtain ⟨v, r⟩ := q
      by_cases hm : (v : Int) ≤ most
      · exact fin (num_ok g zs w hr v r hc most hm)
      · exact fin (num_bad g zs w false hr most (.inr (.inr ⟨v, r, hc, by omega⟩)))
theorem text_less (g : Nat) (zs : List Int) (w : World) (bad : Bool) (hr : Rdr w g zs bad) :
    Calls Try.prog 24 #[.pointer (some ⟨g, 0, none⟩), .int .i64 (-1)] w (Got g w (.slice none 0 0) zs true) := by
  refine rtext_bad g zs w bad hr (-1) ?_
  cases hc : cutText zs with
  | none => exact .inr (.inl rfl)
  | some q => exact .inr (.inr ⟨q.1, q.2, rfl, by omega⟩)

set_option maxHeartbeats 1600000 in
theorem stays_walk (A : Option Addr) (n cap : Nat) (zs : List Int) (B : Option Addr) (m cb : Nat) (qs : List (Int × Int × Int)) (w : World) (hr0 : Rd w A n zs) (hA : A = none → cap = 0) (hn : n ≤ 140737488351232) (hq : RdA w B m qs) :
    Calls Try.prog 9 #[.slice A n cap, .slice B m cb] w fun e w' => e = .returned (.bool true) ∧ Below w.heap.size w w' := by
  have HN := Lib.hid (new_any A n cap zs w hr0 hA (by omega))
  have HQ := Lib.hid hq
  have hm := hq.2.1
  unfold maxLen at hm
  clear hr0 hA hq
  go_enter Try.func9, Try.ntmps9
  go_wp2_with fail
  refine HN.out.mono ?_
  rintro e w1 ⟨g, rfl, hg, hr, hb⟩
  have HR1 := Lib.hid hr
  have HB1 := Lib.hid hb
  clear hr hb
  go_wp2_with fail
  refine (num_some g zs w1 false HR1.out _).mono ?_
  rintro e w2 ⟨v2, zs2, bad2, rfl, hch, hr⟩
  have HR2 := Lib.hid hr
  have HB2 := Lib.hid (Below.chg HB1.out hch hg)
  clear hr hch HR1 HB1
  go_wp2_with fail
  refine (text_less g zs2 w2 bad2 HR2.out).mono ?_
  rintro e w3 ⟨rfl, hch, hr⟩
  have HR3 := Lib.hid hr
  have HB3 := Lib.hid (Below.chg HB2.out hch hg)
  clear hr hch HR2 HB2
  go_wp2_with fail
  go_loopw [6] (fun i wr => ∃ k : Nat, k ≤ m ∧ i = .int .i64 k ∧ Rdr wr g zs2 true ∧ Below w.heap.size w wr) (fun i _ => m - (intOf i).toNat)
  case atStart => exact ⟨0, by omega, rfl, HR3.out, HB3.out⟩
  case round =>
    obtain ⟨k, hk, rfl, hr, hb⟩ := hrel
    have HR := Lib.hid hr
    have HB := Lib.hid hb
    clear hr hb
    by_cases hlt : k < m ∧ k < 100
    · obtain ⟨hl1, hl2⟩ := hlt
      obtain ⟨b2, off2, rfl, hc⟩ := (HQ.out.below HB.out).2.2 (by omega)
      obtain ⟨d, lo, hi, _, c0, c1, c2, r1, r2, r3, r4⟩ := hc k hl1
      clear hc
      have j1 : (k : Int) < 100 := by omega
      go_wp2_with fail
      refine (num_bad g zs2 wr true HR.out _ (.inl rfl)).mono ?_
      rintro e w4 ⟨rfl, hch, hr⟩
      have HR4 := Lib.hid hr
      have HB4 := Lib.hid (Below.chg HB.out hch hg)
      clear hr hch HR HB c0 c1 c2
      obtain ⟨b3, off3, he3, hc⟩ := (HQ.out.below HB4.out).2.2 (by omega)
      injection he3 with he3
      injection he3 with e1 e2
      subst e1 e2
      obtain ⟨d', lo', hi', _, c0, c1, c2, r1', r2', r3', r4'⟩ := hc k hl1
      clear hc
      go_wp2_with fail
      go_region_with ((go_at_call 22; refine (rint_bad g zs2 w4.drew true (HR4.out.below (Below.refl _ w4).drew) _ _ (.inl rfl)).mono ?_; rintro e w5 ⟨rfl, hch, hr⟩; have HR5 := Lib.hid hr; have HB5 := Lib.hid (Below.chg HB4.out.drew hch hg); clear hr hch))
      all_goals
        clear c0 c1 c2
        obtain ⟨b4, off4, he4, hc⟩ := (HQ.out.below HB5.out).2.2 (by omega)
        injection he4 with he4
        injection he4 with e1 e2
        subst e1 e2
        obtain ⟨d5, lo5, hi5, _, c0, c1, c2, _⟩ := hc k hl1
        clear hc c0 c1
        go_wp2_with fail
        refine (rtext_bad g zs2 _ true HR5.out _ (.inl rfl)).mono ?_
        rintro e w6 ⟨rfl, hch, hr⟩
        have HR6 := Lib.hid hr
        have HB6 := Lib.hid (Below.chg HB5.out hch hg)
        clear hr hch c2 HR5 HB5
        go_wp2_with (first | (go_at_call 26; refine (bad_any g _ _ _ HR6.out).mono ?_; rintro e w' ⟨rfl, rfl⟩) | (go_at_call 27; refine (whole_any g _ _ _ HR6.out).mono ?_; rintro e w' ⟨rfl, rfl⟩; rw [show wholeB zs2 true = false from rfl]))
        go_roundw
        case rel => exact ⟨k + 1, by omega, by go_num, HR6.out, HB6.out⟩
        case measure => simp [intOf]; omega
    · by_cases hjm : k < m
      all_goals
        go_wp2_with (go_at_call 26; refine (bad_any g _ _ _ HR.out).mono ?_; rintro e w' ⟨rfl, rfl⟩)
        go_ret
        exact ⟨rfl, HB.out⟩
end Go.Proofs.Ytiegihopjhbliaa.Fld
