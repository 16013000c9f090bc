/-
  That the law FieldReads answers true and leaves all memory that was there as it was. Conditions: the slices can be read.
-/
import Derived.Test.YtiegihopjhbliaaFieldBoth
namespace Go.Proofs.Ytiegihopjhbliaa.Fld
open Go.RowKit

theorem DocR.amis {w : World} {h : Nat} {rest : List Int} {bad : Bool} (d : DocR w h rest bad) : w.cell? ⟨h, 2, none⟩ = some (.bool bad) := by
  obtain ⟨A, n, cap, p, z, ⟨t, _⟩, _⟩ := d
  exact t.cells.2.2.1
/-- the loop's round -/
def RR (w : World) (g h m : Nat) (i : Value) (wr : World) : Prop := ∃ (k : Nat) (rest : List Int) (bad : Bool), k ≤ m ∧ i = .int .i64 (k : Int) ∧ Rdr wr g rest bad ∧ DocR wr h rest bad ∧ Below w.heap.size w wr

set_option maxRecDepth 100000 in
set_option maxHeartbeats 6400000 in
theorem reads_walk (A : Option Addr) (n cap : Nat) (zs : List Int) (B : Option Addr) (m cb : Nat) (qs : List (Int × Int × Int)) (w : World) (hr0 : Rd w A n zs) (hA : A = none → cap = 0) (hnc : n ≤ cap) (hn : n ≤ 140737488351232) (hq : RdA w B m qs) :
    Calls Try.prog 6 #[.slice A n cap, .slice B m cb] w fun e w' => e = .returned (.bool true) ∧ Below w.heap.size w w' := by
  have HN := Lib.hid (new_any A n cap zs w hr0 hA (by omega))
  have HQ := Lib.hid hq
  have HR0 := Lib.hid hr0
  have hm := hq.2.1
  unfold maxLen at hm
  clear hr0 hA hq
  go_enter Try.func6, Try.ntmps6
  go_wp2_with fail
  refine HN.out.mono ?_
  rintro e w1 ⟨g, rfl, hg, hr, hb⟩
  have hb2 : Below w1.heap.size w1 (w1.alloc (.cells #[.slice A n cap, .int .i64 0, .bool false] 35)) := (Below.refl _ _).alloc (Nat.le_refl _) _
  have HR1 := Lib.hid (hr.below hb2)
  have HB1 := Lib.hid (hb.trans (hb2.mono hb.size))
  have HD1 := Lib.hid (show DocR (w1.alloc (.cells #[.slice A n cap, .int .i64 0, .bool false] 35)) w1.heap.size zs false from ⟨A, n, cap, 0, zs, ⟨heap_alloc_new w1 _, (HR0.out.below hb).below hb2, Nat.zero_le _, hnc, hn⟩, rfl⟩)
  have hgh : ¬ g = w1.heap.size := by have := hr.lt; omega
  have hh : w.heap.size ≤ w1.heap.size := hb.size
  clear hr hb hb2 HR0
  generalize hH : w1.heap.size = h at *
  have HH := Lib.hid hH
  go_wp2_with fail
  clear hH
  generalize w1.alloc _ = W1 at HR1 HB1 HD1 ⊢
  go_loopw [7] (fun i wr => RR w g h m i wr) (fun i _ => m - (intOf i).toNat)
  case atStart => exact ⟨0, zs, false, by omega, rfl, HR1.out, HD1.out, HB1.out⟩
  case round =>
    obtain ⟨k, rest, bad, hk, rfl, hr, hd, hb⟩ := hrel
    have HR := Lib.hid hr
    have HD := Lib.hid hd
    have HB := Lib.hid hb
    clear hr hd hb HR1 HD1 HB1
    by_cases hlt : k < m ∧ k < 100
    · obtain ⟨hl1, hl2⟩ := hlt
      obtain ⟨b2, off2, rfl, hc⟩ := (HQ.out.below HB.out).2.2 (by omega)
      obtain ⟨d, lo, hi, hqk, c0, c1, c2, r1, r2, r3, r4⟩ := hc k hl1
      clear hc
      have HQK := Lib.hid hqk
      clear hqk
      have j1 : (k : Int) < 100 := by omega
      generalize hS : bits .and .i64 d 3 = s
      have HS := Lib.hid hS
      by_cases s0 : s = 0
      · have z0 : (s == 0) = true := by simpa using s0
        clear s0
        obtain ⟨q, hN1, hN2⟩ := num_all g h rest bad (IntKind.u64.wrap hi)
        have HN1 := Lib.hid hN1
        have HN2 := Lib.hid hN2
        clear hN1 hN2
        go_wp2_with fail
        refine (HN1.out _ HR.out).mono ?_
        rintro e w4 ⟨rfl, hch, hr⟩
        have HR4 := Lib.hid hr
        have HD4 := Lib.hid (HD.out.chg hch (Ne.symm hgh) HR.out)
        have HB4 := Lib.hid (Below.chg HB.out hch hg)
        clear hr hch
        clear c0 c1 c2
        obtain ⟨b4, off4, he, hc⟩ := (HQ.out.below HB4.out).2.2 (by omega)
        injection he with he
        injection he with e1 e2
        subst e1 e2
        obtain ⟨d4, lo4, hi4, hq4, c0, c1, c2, _⟩ := hc k hl1
        rw [HQK.out] at hq4
        simp only [Option.some.injEq, Prod.mk.injEq] at hq4
        obtain ⟨rfl, rfl, rfl⟩ := hq4
        clear hc
        go_wp2_with fail
        refine (HN2.out _ HD4.out).mono ?_
        rintro e w9 ⟨rfl, hch, hd⟩
        have HD9 := Lib.hid hd
        have HR9 := Lib.hid (HR4.out.doc hch hgh HD4.out)
        have HB9 := Lib.hid (Below.chg HB4.out hch hh)
        have dA := hd.amis
        have HGD := Lib.hid (show (q.2.2 != q.2.2) = false by simp)
        clear hd hch c0 c1 c2 HR HD HB HR4 HD4 HB4
        have hgd := HGD.out
        go_wp2_with fail
        go_quiet ((first | (go_at_call 26; exact bad_quiet2 g _ _ _ _ HR9.out) | (go_at_call 27; exact whole_quiet g _ _ _ _ HR9.out) | (go_at_call 28; exact dwhole_quiet h _ _ _ _ HD9.out)))
        have HRa := Lib.hid (HR9.out.below (below_drewN w9 nq))
        have HDa := Lib.hid (HD9.out.below (below_drewN w9 nq))
        have HBa := Lib.hid (HB9.out.trans ((below_drewN w9 nq).mono HB9.out.size))
        clear dA hgd
        go_wp2
        go_roundw
        case rel => exact ⟨k + 1, q.2.1, q.2.2, by omega, by go_num, HRa.out, HDa.out, HBa.out⟩
        case measure => simp [intOf]; omega
      · have z0 : (s == 0) = false := by simpa using s0
        clear s0
        by_cases s1 : s = 1
        · have z1 : (s == 1) = true := by simpa using s1
          clear s1
          obtain ⟨q, hN1, hN2⟩ := int_all g h rest bad lo hi
          have HN1 := Lib.hid hN1
          have HN2 := Lib.hid hN2
          clear hN1 hN2
          go_wp2_with fail
          go_region_with ((go_at_call 22; refine (HN1.out wr.drew (HR.out.below (below_drew wr))).mono ?_; rintro e w4 ⟨rfl, hch, hr⟩; have HR4 := Lib.hid hr; have HD4 := Lib.hid ((HD.out.below (below_drew wr)).chg hch (Ne.symm hgh) (HR.out.below (below_drew wr))); have HB4 := Lib.hid (Below.chg HB.out.drew hch hg); clear hr hch))
          all_goals
            clear c0 c1 c2
            obtain ⟨b4, off4, he, hc⟩ := (HQ.out.below HB4.out).2.2 (by omega)
            injection he with he
            injection he with e1 e2
            subst e1 e2
            obtain ⟨d4, lo4, hi4, hq4, c0, c1, c2, _⟩ := hc k hl1
            rw [HQK.out] at hq4
            simp only [Option.some.injEq, Prod.mk.injEq] at hq4
            obtain ⟨rfl, rfl, rfl⟩ := hq4
            clear hc
            go_wp2_with fail
            go_region_with ((go_at_call 23; refine (HN2.out w4.drew (HD4.out.below (below_drew w4))).mono ?_; rintro e w9 ⟨rfl, hch, hd⟩; have HD9 := Lib.hid hd; have HR9 := Lib.hid ((HR4.out.below (below_drew w4)).doc hch hgh (HD4.out.below (below_drew w4))); have HB9 := Lib.hid (Below.chg HB4.out.drew hch hh); have dA := hd.amis; have HGD := Lib.hid (show (q.2.2 != q.2.2) = false by simp); clear hd hch))
            all_goals
              clear c0 c1 c2 HR HD HB HR4 HD4 HB4
              have hgd := HGD.out
              go_wp2_with fail
              go_quiet ((first | (go_at_call 26; exact bad_quiet2 g _ _ _ _ HR9.out) | (go_at_call 27; exact whole_quiet g _ _ _ _ HR9.out) | (go_at_call 28; exact dwhole_quiet h _ _ _ _ HD9.out)))
              have HRa := Lib.hid (HR9.out.below (below_drewN w9 nq))
              have HDa := Lib.hid (HD9.out.below (below_drewN w9 nq))
              have HBa := Lib.hid (HB9.out.trans ((below_drewN w9 nq).mono HB9.out.size))
              clear dA hgd
              go_wp2
              go_roundw
              case rel => exact ⟨k + 1, q.2.1, q.2.2, by omega, by go_num, HRa.out, HDa.out, HBa.out⟩
              case measure => simp [intOf]; omega
        · have z1 : (s == 1) = false := by simpa using s1
          clear s1
          obtain ⟨q, hN1, hN2⟩ := text_all g h rest bad hi r3 r4
          have HN1 := Lib.hid hN1
          have HN2 := Lib.hid hN2
          clear hN1 hN2
          go_wp2_with fail
          refine (HN1.out _ HR.out).mono ?_
          rintro e w4 ⟨A4, n4, c4', rfl, hs4, hch, hr⟩
          have HR4 := Lib.hid hr
          have HS4 := Lib.hid hs4
          have HD4 := Lib.hid (HD.out.chg hch (Ne.symm hgh) HR.out)
          have HB4 := Lib.hid (Below.chg HB.out hch hg)
          clear hr hch
          clear c0 c1 c2
          obtain ⟨b4, off4, he, hc⟩ := (HQ.out.below HB4.out).2.2 (by omega)
          injection he with he
          injection he with e1 e2
          subst e1 e2
          obtain ⟨d4, lo4, hi4, hq4, c0, c1, c2, _⟩ := hc k hl1
          rw [HQK.out] at hq4
          simp only [Option.some.injEq, Prod.mk.injEq] at hq4
          obtain ⟨rfl, rfl, rfl⟩ := hq4
          clear hc
          have q0 := conv_str (hs4.1.below (below_drew w4)) c4'
          clear hs4
          go_wp2_with fail
          go_region_with ((go_at_call 25; refine (HN2.out w4.drew (HD4.out.below (below_drew w4))).mono ?_; rintro e w9 ⟨A9, n9, c9, rfl, hr9, hch, hd⟩; have HD9 := Lib.hid hd; have HR9 := Lib.hid ((HR4.out.below (below_drew w4)).doc hch hgh (HD4.out.below (below_drew w4))); have HB9 := Lib.hid (Below.chg HB4.out.drew hch hh); have dA := hd.amis; have HGD := Lib.hid (show (q.2.2 != q.2.2) = false by simp); have q1 := conv_str hr9 c9; have q2 := conv_str ((HS4.out.below (below_drew w4)).doc hch (HD4.out.below (below_drew w4))).1 c4'; clear hd hch hr9))
          all_goals
            clear c0 c1 c2 HR HD HB HR4 HD4 HB4 q0 q1 q2
            have hgd := HGD.out
            go_wp2_with fail
            go_quiet ((first | (go_at_call 26; exact bad_quiet2 g _ _ _ _ HR9.out) | (go_at_call 27; exact whole_quiet g _ _ _ _ HR9.out) | (go_at_call 28; exact dwhole_quiet h _ _ _ _ HD9.out)))
            have HRa := Lib.hid (HR9.out.below (below_drewN w9 nq))
            have HDa := Lib.hid (HD9.out.below (below_drewN w9 nq))
            have HBa := Lib.hid (HB9.out.trans ((below_drewN w9 nq).mono HB9.out.size))
            clear dA hgd
            go_wp2
            go_roundw
            case rel => exact ⟨k + 1, q.2.1, q.2.2, by omega, by go_num, HRa.out, HDa.out, HBa.out⟩
            case measure => simp [intOf]; omega
    · by_cases hjm : k < m
      all_goals
        go_wp2_with fail
        refine (whole_any g _ _ _ HR.out).mono ?_
        rintro e w2 ⟨rfl, rfl⟩
        go_wp2_with fail
        refine (dwhole_any h _ _ _ HD.out).mono ?_
        rintro e w2 ⟨rfl, j, rfl⟩
        go_wp2
        go_ret
        exact ⟨by simp, HB.out.trans ((below_drewN _ j).mono HB.out.size)⟩
end Go.Proofs.Ytiegihopjhbliaa.Fld
