/-
  That the law KeepParts answers true and leaves all memory that was there as it was. Conditions: the slices can be read.
-/
import Derived.Test.YtejphnbhcabchaaKeepPts
import Derived.BigQuiet
import Derived.Deep.RegionWith
import Derived.Deep.CutRange
namespace Go.Proofs.Ytejphnbhcabchaa.Kp
open Go.RowKit Go.Proofs.Ytejphnbhcabchaa.Fld
set_option linter.unusedVariables false

def PtR (w1 : World) (G G' : Nat) (i : Value) (wr : World) : Prop := ∃ (k : Nat) (v vr : Value) (t : WhS), k ≤ 60 ∧ i = .int .i64 (k : Int) ∧ PtS w1 wr G G' v vr t
theorem below_drew (w : World) : Below w.heap.size w w.drew := ⟨rfl, rfl, rfl, Nat.le_refl _, fun _ _ => rfl⟩
theorem rdl_at {w : World} {B : Option Addr} {m : Nat} {ls : List (List Int)} (h : RdL w B m ls) (i : Nat) (hi : i < m) : ∃ b off A n c, B = some ⟨b, off, none⟩ ∧ w.cell? ⟨b, off + i, none⟩ = some (.slice A n c) ∧ Rd w A n (ls.getD i []) ∧ (A = none → c = 0) := by
  obtain ⟨b, off, e, hc⟩ := h.2.2 (by omega)
  obtain ⟨A, n, c, h1, h2, h3⟩ := hc i hi
  exact ⟨b, off, A, n, c, e, h1, h2, h3⟩
theorem rdp_at {w : World} {A : Option Addr} {n : Nat} {ps : List (Int × Int)} (h : RdP w A n ps) (i : Nat) (hi : i < n) : ∃ b off, A = some ⟨b, off, none⟩ ∧ w.cell? ⟨b, off + i * 2, none⟩ = some (.int .i64 (ps.getD i (0, 0)).1) ∧ w.cell? ⟨b, off + i * 2 + 1, none⟩ = some (.int .i64 (ps.getD i (0, 0)).2) ∧ (ps.getD i (0, 0)).1 ≤ 9223372036854775807 := by
  obtain ⟨b, off, e, hc⟩ := h.2.2.1 (by omega)
  refine ⟨b, off, e, (hc i hi).1, (hc i hi).2, h.2.2.2 _ ?_⟩
  rw [List.getD_eq_getElem?_getD, List.getElem?_eq_getElem (by rw [h.1]; exact hi)]
  simp
set_option maxRecDepth 100000 in
set_option maxHeartbeats 6400000 in
theorem parts_walk (A : Option Addr) (n cap : Nat) (zs : List Int) (B : Option Addr) (m cb : Nat) (ps : List (Int × Int)) (C : Option Addr) (q cc : Nat) (ls : List (List Int)) (w : World) (hr : Rd w A n zs) (hA : A = none → cap = 0) (hl : n ≤ cap) (hc : cap ≤ 140737488351232) (hp : RdP w B m ps) (hq : RdL w C q ls) :
    Calls Try.prog 3 #[.slice A n cap, .slice B m cb, .slice C q cc] w fun e w' => e = .returned (.bool true) ∧ Below w.heap.size w w' := by
  have HR := Lib.hid hr
  have HA := Lib.hid hA
  have HP := Lib.hid hp
  have HQ := Lib.hid hq
  have hm := hp.2.1
  have hq1 := hq.2.1
  unfold maxLen at hm hq1
  have HAW := Lib.hid (awake_any w)
  clear hr hA hp hq
  go_enter Try.func3, Try.ntmps3
  go_wp2_with fail
  refine HAW.out.mono ?_
  rintro e w1 ⟨rfl, hb1⟩
  have HB1 := Lib.hid hb1
  clear hb1
  by_cases h1 : 200000 < (n : Int)
  · go_wp2
    go_ret
    exact ⟨rfl, HB1.out⟩
  go_wp2_with fail
  have hb2 := alloc_below' w1 (.cells #[.bool false, .int .i64 0, .slice none 0 0] 28)
  have hb3 : Below w1.heap.size w1 ((w1.alloc (.cells #[.bool false, .int .i64 0, .slice none 0 0] 28)).alloc (.cells #[.slice none 0 0, .int .i64 0, .bool false] 31)) := hb2.alloc hb2.size _
  have HS0 := Lib.hid (show PtS w1 ((w1.alloc (.cells #[.bool false, .int .i64 0, .slice none 0 0] 28)).alloc (.cells #[.slice none 0 0, .int .i64 0, .bool false] 31)) w1.heap.size (w1.heap.size + 1) (.slice none 0 0) (.slice none 0 0) ⟨false, 0, []⟩ from
    ⟨⟨(Blk.new w1 _ _).past _, Own.nil _ _ hb3, Nat.le_refl _⟩, ⟨by have := Blk.new (w1.alloc (.cells #[.bool false, .int .i64 0, .slice none 0 0] 28)) #[.slice none 0 0, .int .i64 0, .bool false] 31; simpa using this, Own.nil _ _ hb3, by omega⟩, by simp [Value.ownBlock], by omega, by simp⟩)
  clear hb2 hb3
  generalize (w1.alloc (.cells #[.bool false, .int .i64 0, .slice none 0 0] 28)).alloc (.cells #[.slice none 0 0, .int .i64 0, .bool false] 31) = w2 at *
  obtain ⟨G', hG'⟩ : ∃ G, w1.heap.size + 1 = G := ⟨_, rfl⟩
  rw [hG'] at HS0 ⊢
  obtain ⟨G, hG⟩ : ∃ G, w1.heap.size = G := ⟨_, rfl⟩
  rw [hG] at HS0 ⊢
  clear hG hG'
  go_loopw [10] (fun i wr => PtR w1 G G' i wr) (fun i _ => 60 - (intOf i).toNat)
  case atStart => exact ⟨0, _, _, _, by omega, rfl, HS0.out⟩
  case round =>
    obtain ⟨k, v, vr, t, hk, rfl, hS⟩ := hrel
    have HS := Lib.hid hS
    have HBW := Lib.hid (HB1.out.trans (hS.wh.own.1.mono HB1.out.size))
    clear hS
    by_cases hlt : k < m ∧ k < 60
    · obtain ⟨hkm, hk6⟩ := hlt
      obtain ⟨b, off, rfl, c0, c1, hx⟩ := rdp_at (HP.out.below HBW.out) k hkm
      obtain ⟨pq, hpq⟩ : ∃ pq, ps.getD k (0, 0) = pq := ⟨_, rfl⟩
      rw [hpq] at c0 c1 hx
      have HPQ := Lib.hid hpq
      clear hpq
      obtain ⟨x, y⟩ := pq
      simp only at c0 c1 hx
      have j1 : (k : Int) < (m : Int) := by omega
      have j2 : (k : Int) < 60 := by omega
      have j0 : (0 : Int) ≤ (k : Int) := by omega
      have HPA := Lib.hid (part_any A n cap zs x y wr.drew ((HR.out.below HBW.out).below (below_drew wr)) HA.out hl (by omega) hx)
      generalize hpt : stPart zs x y = r at *
      have HPT := Lib.hid hpt
      clear hpt
      obtain ⟨ec, xs⟩ := r
      go_upto_region 9 with fail
      go_cut [11, 12] from 30 to 146 (fun p1 p2 wx => p2 = .int .i64 ec ∧ Fld.Own wr.drew wx p1 xs)
      case first =>
        go_region_with ((go_at_call 6; refine HPA.out.mono ?_; rintro e w3 ⟨v3, rfl, hO3⟩; have HO3 := Lib.hid hO3; clear hO3))
        all_goals
          go_wp2_with fail
          go_meet
          exact ⟨rfl, HO3.out⟩
      case rest =>
        obtain ⟨rfl, hO3⟩ := hcut
        clear c0 c1 HPA
        obtain ⟨A3, cc3, hv3, hs3, hf3⟩ := hO3.sl _ rfl
        have hb3 := (below_drew wr).trans hO3.1
        have HS3 := Lib.hid (HS.out.below hb3)
        have HR3 := Lib.hid hs3.1
        have HBW3 := Lib.hid (HBW.out.trans (hb3.mono HBW.out.size))
        subst hv3
        clear hs3 hf3 hb3 hO3
        obtain ⟨b', off', he, c0, c1, _⟩ := rdp_at (HP.out.below HBW3.out) k hkm
        injection he with he
        injection he with he1 he2
        subst he1 he2
        rw [HPQ.out] at c0 c1
        have HPA2 := Lib.hid (rpart_any A n cap zs x y wc.drew ((HR.out.below HBW3.out).below (below_drew wc)) HA.out hl (by omega) hx)
        rw [HPT.out] at HPA2
        generalize xs.length = L at *
        generalize wc = w3 at *
        go_upto_region 10 with fail
        go_cut [13, 14] from 30 to 146 (fun p1 p2 wx => p2 = .int .i64 ec ∧ Fld.Own w3.drew wx p1 xs)
        case first =>
          go_region_with ((go_at_call 7; refine HPA2.out.mono ?_; rintro e w4 ⟨v4, rfl, hO4⟩; have HO4 := Lib.hid hO4; clear hO4))
          all_goals
            go_wp2_with fail
            go_meet
            exact ⟨rfl, HO4.out⟩
        case rest =>
          obtain ⟨rfl, hO4⟩ := hcut
          clear c0 c1 HPA2
          obtain ⟨A4, cc4, hv4, hs4, hf4⟩ := hO4.sl _ rfl
          have hb4 := (below_drew w3).trans hO4.1
          have HS4 := Lib.hid (HS3.out.below hb4)
          have q3 := conv_str (HR3.out.below hb4) cc3
          have q4 := conv_str hs4.1 cc4
          have HBW4 := Lib.hid (HBW3.out.trans (hb4.mono HBW3.out.size))
          subst hv4
          clear hs4 hf4 hb4 hO4
          generalize wc = w4 at *
          have i1 : ((str xs).toList != (str xs).toList) = false := by simp
          have i2 : (ec != ec) = false := by simp
          generalize str xs = sx at *
          generalize xs.length = L2 at *
          by_cases hkq : k < q
          · obtain ⟨b5, o5, A5, n5, c5, rfl, c6, hr5, hA5⟩ := rdl_at (HQ.out.below HBW4.out) k hkq
            have HR5 := Lib.hid hr5
            have HA5 := Lib.hid hA5
            clear hr5 hA5
            have i3 : (k : Int) < (q : Int) := by omega
            by_cases h5 : 100000 < (n5 : Int)
            · go_wp2
              go_ret
              exact ⟨rfl, HBW4.out⟩
            obtain ⟨b', off', he, c0, c1, _⟩ := rdp_at (HP.out.below HBW4.out) k hkm
            injection he with he
            injection he with he1 he2
            subst he1 he2
            rw [HPQ.out] at c0 c1
            have HPU := Lib.hid (put_any w1 w4.drew G v t x y A5 n5 c5 _ (HS4.out.wh.below (below_drew w4)) (HR5.out.below (below_drew w4)) HA5.out (by omega))
            have HPL := Lib.hid (stPut_len (p := x) (tot := y) (b := ls.getD k []) HS4.out.len)
            generalize hpu : stPut x y (ls.getD k []) t = r5 at *
            have HPE := Lib.hid hpu
            clear hpu
            obtain ⟨pe, t5⟩ := r5
            go_upto_region 16 with fail
            go_cut [15] from 30 to 146 (fun p1 wx => p1 = .int .i64 pe ∧ ∃ v5, Wh w1 wx G v5 t5 ∧ Rh w1 wx G' vr t ∧ ∀ i, v5.ownBlock = some i → vr.ownBlock ≠ some i)
            case first =>
              go_region_with ((go_at_call 8; refine HPU.out.mono ?_; rintro e w5 ⟨rfl, v5, hW5, hF5, hv5⟩; have HPO := Lib.hid (PtS.one (HS4.out.below (below_drew w4)) hF5 hv5); have HW5 := Lib.hid hW5; clear hW5 hF5 hv5))
              all_goals
                go_wp2_with fail
                go_meet
                exact ⟨rfl, v5, HW5.out, HPO.out.1, HPO.out.2⟩
            case rest =>
              obtain ⟨rfl, v5, hW5, hP5, hap5⟩ := hcut
              have HW5 := Lib.hid hW5
              have HPO := Lib.hid (And.intro hP5 hap5)
              clear c0 c1 c6 HPU q3 q4 hW5 hP5 hap5
              generalize wc = w5 at *
              have HBW5 := Lib.hid (HB1.out.trans (HW5.out.own.1.mono HB1.out.size))
              obtain ⟨b', off', he, c0, c1, _⟩ := rdp_at (HP.out.below HBW5.out) k hkm
              injection he with he
              injection he with he1 he2
              subst he1 he2
              rw [HPQ.out] at c0 c1
              obtain ⟨b5', o5', A6, n6, cc6, he, c6, hr6, hA6⟩ := rdl_at (HQ.out.below HBW5.out) k hkq
              injection he with he
              injection he with he1 he2
              subst he1 he2
              have HPU := Lib.hid (rput_any w1 w5.drew G' vr t x y A6 n6 cc6 _ (HPO.out.1.below (below_drew w5)) (hr6.below (below_drew w5)) hA6 (by have h7 := hr6.1; have h8 := HR5.out.1; omega))
              rw [HPE.out] at HPU
              clear hr6 hA6
              have HNE := Lib.hid HS4.out.ne
              go_upto_region 17 with fail
              go_cut [16] from 30 to 146 (fun p1 wx => p1 = .int .i64 pe ∧ ∃ vr6, PtS w1 wx G G' v5 vr6 t5)
              case first =>
                go_region_with ((go_at_call 9; refine HPU.out.mono ?_; rintro e w6 ⟨rfl, vr6, hR6, hF6, hv6⟩; have HS6 := Lib.hid (PtS.two (HW5.out.below (below_drew w5)) (HPO.out.1.below (below_drew w5)) HPO.out.2 HNE.out HPL.out hR6 hF6 hv6); clear hR6 hF6 hv6))
                all_goals
                  go_wp2_with fail
                  go_meet
                  exact ⟨rfl, vr6, HS6.out⟩
              case rest =>
                obtain ⟨rfl, vr6, hS6⟩ := hcut
                have HS6 := Lib.hid hS6
                clear hS6 c0 c1 c6 HPU
                generalize wc = w6 at *
                have HD1 := Lib.hid (done_any w1 w6 G v5 _ HS6.out.wh (by have h9 : t5.zs.length ≤ 65536 := HPL.out; omega))
                unfold DoneIs at HD1
                obtain ⟨dz, hdz⟩ : ∃ dz, (if isDone t5 = true then t5.zs else []) = dz := ⟨_, rfl⟩
                obtain ⟨dn, hdn⟩ : ∃ dn, isDone t5 = dn := ⟨_, rfl⟩
                have HDZ := Lib.hid hdz
                have HDN := Lib.hid hdn
                rw [HDZ.out, HDN.out] at HD1
                clear hdz hdn
                have HBD := Lib.hid (HB1.out.trans (HS6.out.wh.own.1.mono HB1.out.size))
                go_wp2_with fail
                refine HD1.out.mono ?_
                rintro e w7 ⟨v7, rfl, hO7⟩
                have HS7 := Lib.hid (HS6.out.below hO7.1)
                have HD2 := Lib.hid (rdone_any w1 w7 G' vr6 _ HS7.out.rh (by have h9 : t5.zs.length ≤ 65536 := HPL.out; omega))
                unfold DoneIs at HD2
                rw [HDZ.out, HDN.out] at HD2
                obtain ⟨A7, cc7, hv7, hs7, _⟩ := hO7.sl _ rfl
                subst hv7
                have HR7 := Lib.hid hs7.1
                clear hO7 hs7 HD1
                go_wp2_with fail
                refine HD2.out.mono ?_
                rintro e w8 ⟨v8, rfl, hO8⟩
                have HS8 := Lib.hid (HS7.out.below hO8.1)
                have HBW8 := Lib.hid (HB1.out.trans (HS8.out.wh.own.1.mono HB1.out.size))
                obtain ⟨A8, cc8, hv8, hs8, _⟩ := hO8.sl _ rfl
                subst hv8
                have q7 := conv_str (HR7.out.below hO8.1) cc7
                have q8 := conv_str hs8.1 cc8
                clear hO8 hs8 HD2 HR7
                have i1 : ((str dz).toList != (str dz).toList) = false := by simp
                have i4 : (pe != pe) = false := by simp
                have i5 : (dn != dn) = false := by simp
                generalize str dz = sz at *
                generalize dz.length = L3 at *
                go_wp2
                go_roundw
                case rel => first | exact ⟨k + 1, v5, vr6, t5, by omega, by go_num, HS8.out⟩ | ((repeat apply Exists.intro); exact ⟨⟨k + 1, v5, vr6, t5, by omega, by go_num, HS8.out⟩, rfl⟩)
                case measure => simp [intOf]; omega
          · have i3 : ¬ (k : Int) < (q : Int) := by omega
            go_wp2
            go_roundw
            case rel => first | exact ⟨k + 1, v, vr, t, by omega, by go_num, HS4.out⟩ | ((repeat apply Exists.intro); exact ⟨⟨k + 1, v, vr, t, by omega, by go_num, HS4.out⟩, rfl⟩)
            case measure => simp [intOf]; omega
    · have HX : (k : Int) < (m : Int) ∧ ¬ (k : Int) < 60 ∨ ¬ (k : Int) < (m : Int) := by omega
      rcases HX with ⟨i1, i2⟩ | i1
      all_goals
        go_wp2
        go_ret
        exact ⟨rfl, HBW.out⟩
end Go.Proofs.Ytejphnbhcabchaa.Kp
