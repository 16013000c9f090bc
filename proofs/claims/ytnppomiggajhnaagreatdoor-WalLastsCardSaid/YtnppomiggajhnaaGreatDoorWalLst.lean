/-
  Layer 6: WalLasts. Conditions: the steps and the numbers can be read, no slice of bytes is too long for the memory.
-/
import Derived.Test.YtnppomiggajhnaaGreatDoorJWalLai
namespace Go.Proofs.YtnppomiggajhnaaGreatDoor.Wl
open Go.RowKit Go.Proofs.YtnppomiggajhnaaGreatDoor.Fld
set_option linter.unusedVariables false

set_option maxRecDepth 100000 in
set_option maxHeartbeats 12800000 in
theorem lasts_walk (lim : Int) (A : Option Addr) (n cap : Nat) (l : List Stp) (KA : Option Addr) (kn kc : Nat) (ks : List Int) (w : World) (hB : Base w) (hr : RdT w A n l) (htm : tame l) (hN : ∀ s ∈ l, s.N ≤ 9223372036854775807) (hk : Dk.RdI w KA kn ks) :
    Calls Tryz.prog 5 #[.int .i64 lim, .slice A n cap, .slice KA kn kc] w fun e w' => e = .returned (.bool true) ∧ Below w.heap.size w w' := by
  have HB := Lib.hid hB
  have HR := Lib.hid hr
  have HK := Lib.hid hk
  have HTM := Lib.hid htm
  have HNN := Lib.hid hN
  have HLN := Lib.hid hr.1
  have hmn := hr.2.1
  unfold maxLen at hmn
  have HAW := Lib.hid (awake_any w hB)
  clear hB hr hk htm hN
  go_enter Tryz.func5, Tryz.ntmps5
  go_wp2_with fail
  refine HAW.out.mono ?_
  rintro e w1 ⟨rfl, hb1⟩
  have HB2 := Lib.hid hb1
  have HM := Lib.hid (much_any A n cap l w1 (HR.out.below hb1))
  clear hb1 HAW
  go_wp2_with fail
  refine HM.out.mono ?_
  rintro e w2 ⟨mb, rfl, rfl, hmu⟩
  clear HM
  cases mb with
  | true =>
    go_wp2
    go_ret
    exact ⟨rfl, HB2.out⟩
  | false =>
  have HMU := Lib.hid (show (∀ x ∈ l.take 100, x.n ≤ 1000) ∧ wsum (l.take 100) ≤ 30000 from ⟨(hmu rfl).1, (hmu rfl).2 (fun x hx => HTM.out x (List.mem_of_mem_take hx))⟩)
  clear hmu
  by_cases hl1 : lim < 32
  · go_wp2
    go_ret
    exact ⟨rfl, HB2.out⟩
  by_cases hl2 : 65536 < lim
  · go_wp2
    go_ret
    exact ⟨rfl, HB2.out⟩
  obtain ⟨lm, rfl⟩ : ∃ lm : Nat, lim = (lm : Int) := ⟨lim.toNat, by omega⟩
  have hm1 : 32 ≤ lm := by omega
  have hm2 : lm ≤ 65536 := by omega
  have HNW := Lib.hid (Dk.new_sn 200000 w1 (by omega) (by omega))
  go_wp2_with fail
  refine HNW.out.mono ?_
  rintro e w3 ⟨b, g, rfl, hsn⟩
  have HSN := Lib.hid (show Dk.Sn w w3 g b [] (Dk.st0 200000) from ⟨hsn.1, HB2.out.trans (hsn.2.1.mono HB2.out.size), fun i hi => by have := hsn.2.2 i hi; have := HB2.out.size; omega⟩)
  clear hsn HNW
  have HOP := Lib.hid (open_cm 200000 (by omega) HSN.out HB.out lm hm1 hm2)
  go_wp2_with fail
  refine HOP.out.mono ?_
  rintro e w4 ⟨rfl, c, t, hWa, hCm, hlg⟩
  obtain ⟨⟨m4, ve4, vs4, xs4, hX4⟩, hb4⟩ := hWa
  have hal := alloc_below' w4 (.cells #[.int .i64 0, .slice none 0 0] 52)
  have HINI := Lib.hid (show LaI w w3.heap.size g b lm l 0 (.slice (some ⟨w4.heap.size, 0, none⟩) 1 1) (w4.alloc (.cells #[.int .i64 0, .slice none 0 0] 52)) from by
    have hz : LX.q ⟨0, none, 0, 0, []⟩ = lgq c.lg := by rw [hlg]; rfl
    refine ⟨[⟨0, none, 0, 0, []⟩], _, 35, some c.lg, ⟨⟨rfl, .inr ⟨w4.heap.size, 1, _, rfl, hb4.size, heap_alloc_new w4 _, Nat.le_refl _, by unfold maxLen; omega, rfl, rfl⟩⟩, fun k hk hm => ?_, fun z hz => ?_, by simp⟩, .inl ⟨c, t, rfl, ⟨m4, ve4, vs4, xs4, hX4.below hal, rfl⟩, hCm.n.mono (fun g hg => ⟨_, List.mem_singleton.2 rfl, by rw [hg, ← hlg]; exact hz⟩) (Nat.le_refl _)⟩, hb4.trans (hal.mono hb4.size), by omega, by simp, fun z hz => ?_, fun lg hlg2 => ⟨_, rfl, by cases hlg2; exact hz⟩⟩
    · have h1 : w4.heap.size = k := Option.some.inj hk
      have := hX4.lt k hm
      omega
    · simp at hz
      subst hz
      have h0 : (0 : Nat) ≤ maxLen := Nat.zero_le _
      exact ⟨⟨⟨rfl, h0, fun h => absurd h (Nat.lt_irrefl 0), fun x hx => absurd hx (by simp)⟩, Nat.le_refl _, h0, fun _ => rfl⟩, fun y hy => absurd hy (by simp), fun h => absurd h (Nat.lt_irrefl 0), fun h => absurd h (Nat.lt_irrefl 0), Int.le_refl _, by simp only; omega⟩
    · simp at hz
      subst hz
      exact Nat.zero_le _)
  clear hX4 hb4 hal hCm hlg HOP
  generalize w3.heap.size = W at *
  go_wp2_with fail
  go_loopw [12, 13] (fun mv iv wr => ∃ i : Nat, i ≤ n ∧ i ≤ 60 ∧ iv = .int .i64 i ∧ LaI w W g b lm l i mv wr) (fun _ iv _ => 60 - (intOf iv).toNat)
  case atStart => exact ⟨0, Nat.zero_le _, by omega, rfl, HINI.out⟩
  case round =>
    obtain ⟨i, hin, hi6, rfl, mays, F, T, cl, hM, hS, hb, hT, hc, hz, hL⟩ := hrel
    by_cases hgo : i < n ∧ i < 60
    · obtain ⟨hi1, hi2⟩ := hgo
      have hil : i < l.length := by have := HLN.out; omega
      obtain ⟨lb, lo, hA, q⟩ := HR.out.at5 hb i hil
      have q0 : wr.cell? ⟨lb, lo + i * 5, none⟩ = some (.int .i64 l[i].d) := q 0 _ (by omega) rfl
      have q1 := q 1 (.int .i64 l[i].N) (by omega) rfl
      have q2 := q 2 (.int .i64 l[i].M) (by omega) rfl
      have q3 := q 3 (.slice l[i].A l[i].n l[i].c) (by omega) rfl
      have q4 := q 4 (.slice l[i].KA l[i].kn l[i].kc) (by omega) rfl
      obtain ⟨z0, hz0⟩ : ∃ z0, mays.getLast? = some z0 := by
        cases h : mays.getLast? with
        | none => exact absurd (List.getLast?_eq_none_iff.1 h) hM.ne
        | some z0 => exact ⟨z0, rfl⟩
      obtain ⟨ini, hini⟩ := List.getLast?_eq_some_iff.1 hz0
      have hzm : z0 ∈ mays := List.mem_of_getLast? hz0
      have hlen : mays.length = ini.length + 1 := by rw [hini]; simp
      obtain ⟨MA, mc, hmv, hMA, h1, h2, h3⟩ := row_slice hM.row
      obtain ⟨ad, had⟩ : ∃ ad, MA = some ad := by
        cases MA with
        | none => have := (h3 rfl).2; omega
        | some ad => exact ⟨ad, rfl⟩
      obtain ⟨mb, mo, msp⟩ := ad
      have hsp := (hMA _ had).1
      have hof := (hMA _ had).2
      simp only at hsp hof
      subst hsp hof had
      have hgz : mays[ini.length]'(by omega) = z0 := by simp [hini]
      have u0 : wr.cell? ⟨mb, ini.length * 2, none⟩ = some (.int .i64 z0.base) := by
        have h4 := rowL_at mays ini.length 0 (by omega) (by omega)
        rw [hgz] at h4
        have h5 := row_cells2 (by rw [← hmv]; exact hM.row) ⟨mb, 0, none⟩ rfl _ _ h4
        rw [add_atB, Nat.zero_add] at h5
        exact h5
      have u1 : wr.cell? ⟨mb, ini.length * 2 + 1, none⟩ = some (.slice z0.A z0.n z0.cap) := by
        have h4 := rowL_at mays ini.length 1 (by omega) (by omega)
        rw [hgz] at h4
        have h5 := row_cells2 (by rw [← hmv]; exact hM.row) ⟨mb, 0, none⟩ rfl _ _ h4
        rw [add_atB, Nat.zero_add] at h5
        exact h5
      have HMV := Lib.hid hmv
      have HLEN := Lib.hid hlen
      have HMO := Lib.hid hM
      have HST := Lib.hid hS
      have HBB := Lib.hid hb
      have HNUM := Lib.hid (And.intro hT (And.intro hc (And.intro hz hL)))
      have HZ0 := Lib.hid (And.intro hz0 hzm)
      have HFT := Lib.hid hS.foot
      obtain ⟨K, hK⟩ : ∃ K, ini.length = K := ⟨_, rfl⟩
      rw [hK] at u0 u1
      have HK2 := Lib.hid hK
      have z1 : IntKind.i64.wrap ((mays.length : Int) - 1) = (K : Int) := by
        rw [hlen, hK]
        exact (IntWalk.i64_in _ (by have := hc; have := (HMU.out); have := hlen; have := nsum_le (l.take i); have := wsum_mono l i 100 (by omega); omega)).trans (by omega)
      have k0 : (0 : Int) ≤ (K : Int) := by omega
      have k1 : (K : Int) < (mays.length : Int) := by rw [hlen, hK]; push_cast; omega
      have j0 : (0 : Int) ≤ (i : Int) := by omega
      have j1 : (i : Int) < (n : Int) := by omega
      have j2 : (i : Int) < 60 := by omega
      clear q h1 h2 h3 hMA hgz hini hlen hM hS hb hT hc hz hL hz0 hzm hK HMV
      subst hA
      subst hmv
      have a0 : ∀ ob, (wr.alloc ob).cell? ⟨mb, K * 2, none⟩ = some (.int .i64 z0.base) := fun ob => ((alloc_below' wr ob).cell (lt_of_cell u0)).trans u0
      have a1 : ∀ ob, (wr.alloc ob).cell? ⟨mb, K * 2 + 1, none⟩ = some (.slice z0.A z0.n z0.cap) := fun ob => ((alloc_below' wr ob).cell (lt_of_cell u1)).trans u1
      have HSA := Lib.hid ((HR.out.2.2.2 _ (List.getElem_mem hil)))
      have HSN2 := Lib.hid (HNN.out _ (List.getElem_mem hil))
      have HS10 := Lib.hid (show l[i].n ≤ 1000 from HMU.out.1 _ (by
        have h9 : l[i] ∈ l.take 100 := by
          rw [List.mem_iff_getElem]
          exact ⟨i, by rw [List.length_take]; omega, by rw [List.getElem_take]⟩
        exact h9))
      have HWS := Lib.hid (wsum_take l i hil)
      have HNS := Lib.hid (nsum_take l i hil)
      have HTOT := Lib.hid (show wsum (l.take (i + 1)) ≤ 30000 ∧ nsum (l.take (i + 1)) ≤ 1000 from by
        have h9 := wsum_mono l (i + 1) 100 (by omega)
        have h8 := nsum_le (l.take (i + 1))
        have := HMU.out.2
        omega)
      have HIL := Lib.hid hil
      generalize hsi : l[i] = s at *
      have HSE := Lib.hid (show ∀ h : i < l.length, (l[i]'h).n = s.n from fun h => congrArg Stp.n hsi)
      obtain ⟨d, N, M, SA, sn, sc, ls, SKA, skn, skc, sks⟩ := s
      unfold Stp.wt at HWS
      simp only at q0 q1 q2 q3 q4 HSN2 HS10 HWS HNS
      have H5 := Lib.hid (show ∀ w5, (wr.alloc (.cells #[.int .i64 d, .int .i64 N, .int .i64 M, .slice SA sn sc, .slice SKA skn skc] 45)).alloc (.cells #[.int .i64 z0.base, .slice z0.A z0.n z0.cap] 52) = w5 → Below wr.heap.size wr w5 ∧ Below w.heap.size w w5 ∧ LaSt w W g b lm 200000 T (InM mays) cl F w5 ∧ MayOk w F w5 (.slice (some ⟨mb, 0, none⟩) mays.length mc) mays ∧ Blk w5 wr.heap.size #[.int .i64 d, .int .i64 N, .int .i64 M, .slice SA sn sc, .slice SKA skn skc] 45 ∧ Blk w5 (wr.heap.size + 1) #[.int .i64 z0.base, .slice z0.A z0.n z0.cap] 52 from by
        rintro w5 rfl
        have e1 := alloc_below' wr (.cells #[.int .i64 d, .int .i64 N, .int .i64 M, .slice SA sn sc, .slice SKA skn skc] 45)
        have e2 := alloc_below' (wr.alloc (.cells #[.int .i64 d, .int .i64 N, .int .i64 M, .slice SA sn sc, .slice SKA skn skc] 45)) (.cells #[.int .i64 z0.base, .slice z0.A z0.n z0.cap] 52)
        have e3 := e1.trans (e2.mono e1.size)
        have k1 := (Blk.new wr #[.int .i64 d, .int .i64 N, .int .i64 M, .slice SA sn sc, .slice SKA skn skc] 45).past (.cells #[.int .i64 z0.base, .slice z0.A z0.n z0.cap] 52)
        have k2 := Blk.new (wr.alloc (.cells #[.int .i64 d, .int .i64 N, .int .i64 M, .slice SA sn sc, .slice SKA skn skc] 45)) #[.int .i64 z0.base, .slice z0.A z0.n z0.cap] 52
        rw [show (wr.alloc (.cells #[.int .i64 d, .int .i64 N, .int .i64 M, .slice SA sn sc, .slice SKA skn skc] 45)).heap.size = wr.heap.size + 1 by simp] at k2
        exact ⟨e3, HBB.out.trans (e3.mono HBB.out.size), HST.out.below e3, HMO.out.below HBB.out e3 (fun i hi => (HFT.out i hi).2), k1, k2⟩)
      have HT4 := Lib.hid (show T ≤ 400000 ∧ z0.n ≤ 1000 ∧ (∀ lg, cl = some lg → lg.es.length ≤ 1000000) from by
        obtain ⟨n1, n2, n3, n4⟩ := HNUM.out
        have h9 := wsum_mono l i (i + 1) (by omega)
        have h8 := nsum_mono l i (i + 1) (by omega)
        have h7 := HTOT.out
        refine ⟨by omega, by have := n3 _ HZ0.out.2; omega, fun lg hlg => ?_⟩
        obtain ⟨z, hz, he⟩ := n4 lg hlg
        have h6 := n3 z (List.mem_of_getLast? hz)
        have h5 : z.q.2.length = lg.es.length := by rw [he]; simp [lgq]
        have h4 : z.q.2.length = z.n := by show (z.ls.map XE.q).length = _; rw [List.length_map]; exact (HMO.out.logs z (List.mem_of_getLast? hz)).at'.rd.1
        omega)
      clear hsi
      by_cases hd0 : d = 0
      · subst hd0
        go_wp2_with fail
        generalize hw5 : (wr.alloc (.cells #[.int .i64 0, .int .i64 N, .int .i64 M, .slice SA sn sc, .slice SKA skn skc] 45)).alloc (.cells #[.int .i64 z0.base, .slice z0.A z0.n z0.cap] 52) = w5
        obtain ⟨b5r, b5, la5, mo5, s5, l5⟩ := H5.out w5 hw5
        have HAP := Lib.hid (app_la la5 b5 HT4.out.1 HT4.out.2.2 SA sn sc ls (HSA.out.1.below b5) (by have := HS10.out; omega) HSA.out.1.low)
        clear hw5 a0 a1 u0 u1 q0 q1 q2 q3 q4
        refine HAP.out.mono ?_
        rintro e w6 ⟨z, F6, rfl, hop, hcase⟩
        have HOP := Lib.hid hop
        have hne6 : ∀ k, wr.heap.size ≤ k → k ∉ F := fun k hk hm => by have := (HFT.out k hm).2; omega
        have s6 := s5.of (hop.1.block _ s5.lt (hne6 _ (Nat.le_refl _)))
        have l6 := l5.of (hop.1.block _ l5.lt (hne6 _ (by omega)))
        have HM6 := Lib.hid (mo5.fr hop.1 hop.2.2 hop.2.1)
        have v0 := s6.cell 0 (.int .i64 0) rfl
        have v1 := s6.cell 1 (.int .i64 N) rfl
        have v2 := s6.cell 2 (.int .i64 M) rfl
        have v3 := s6.cell 3 (.slice SA sn sc) rfl
        have v4 := s6.cell 4 (.slice SKA skn skc) rfl
        have y0 := l6.cell 0 (.int .i64 z0.base) rfl
        have y1 := l6.cell 1 (.slice z0.A z0.n z0.cap) rfl
        clear s6 l6 s5 l5 hop b5r hne6 la5 mo5
        rcases hcase with ⟨hz, hla⟩ | ⟨hz, lg, cl', hcl, hok, hseq, hla, hcl'⟩
        · have HFIN := Lib.hid (show LaI w W g b lm l (i + 1) (.slice (some ⟨mb, 0, none⟩) mays.length mc) w6 from by
            obtain ⟨n1, n2, n3, n4⟩ := HNUM.out
            exact LaI.stay HIL.out HM6.out hla HOP.out.2.2 n1 n2 n3 n4)
          clear hla HAP
          rcases hz with rfl | rfl | rfl
          all_goals
            go_wp2
            go_roundw
            case rel => exact ⟨i + 1, by omega, by omega, by go_num, HFIN.out⟩
            case measure => simp [intOf]; omega
        · have HLA := Lib.hid hla
          have HZ := Lib.hid hz
          have e1 : ¬ z = 1 := by unfold Nice at hz; omega
          have e7 : ¬ z = 7 := by unfold Nice at hz; omega
          have e8 : ¬ z = 8 := by unfold Nice at hz; omega
          have b1 : (z == 1) = false := by simpa using e1
          have b7 : (z == 7) = false := by simpa using e7
          have b8 : (z == 8) = false := by simpa using e8
          have HLG := Lib.hid (show ((z0.base : Int), z0.ls.map XE.q) = lgq lg from by
            obtain ⟨zz, q1, q2⟩ := HNUM.out.2.2.2 lg hcl
            rw [HZ0.out.1] at q1
            cases q1
            exact q2)
          have hzb : z0.base = (lg.base : Int) := congrArg Prod.fst HLG.out
          have hzl : z0.ls.map XE.q = lg.es.map E.q := congrArg Prod.snd HLG.out
          have hzn : z0.n = lg.es.length := by
            have h9 := congrArg List.length hzl
            rw [List.length_map, List.length_map, (HM6.out.logs z0 HZ0.out.2).at'.rd.1] at h9
            exact h9
          have hll := HM6.out.logs z0 HZ0.out.2
          have hsl : ls.length = sn := HSA.out.1.1
          have hlast : (lg.last : Int) = z0.base + (z0.n : Int) := by unfold Lg.last; push_cast; omega
          have hseqI : ∀ (j : Nat) (x : XE), ls[j]? = some x → x.i = z0.base + (z0.n : Int) + (j : Int) + 1 := fun j x hj => by
            have h9 := hseq.at j x.e (by rw [List.getElem?_map, hj]; rfl)
            have h8 := (okX_iff x).1 (hok x (List.mem_of_getElem? hj))
            have h7 : (x.e.idx : Int) = x.i := by show ((x.i.toNat : Nat) : Int) = x.i; rw [Int.toNat_of_nonneg (by omega)]
            omega
          have HLT := Lib.hid (later_app z0 ⟨0, N, M, SA, sn, sc, ls, SKA, skn, skc, sks⟩ w6 hll.at' (HSA.out.below HOP.out.2.2) ⟨hll.b0, by have := hll.b1; omega⟩ (by have := HT4.out.2.1; have := HS10.out; simp only; omega) rfl hok hseqI)
          simp only at HLT
          have hgl : (latA z0.q ls sn).length = sn := by simp [latA]
          have HGLEN := Lib.hid (show (latA z0.q ls sn).length ≤ 1 + sn by omega)
          have HTB := Lib.hid (show T + cost (ls.map XE.e) ≤ T + 88 * sn + dsum ls by rw [cost_x, hsl]; omega)
          have hlq : ∀ k, k ≤ sn → lgq (addAll lg ((ls.map XE.e).take k)) = (z0.base, z0.ls.map XE.q ++ (ls.take k).map XE.q) := fun k hk => by
            unfold lgq addAll
            simp only
            rw [hzb, hzl, List.map_append, ← List.map_take, qs_e (fun x hx => hok x (List.mem_of_mem_take hx))]
          have hdl : ∀ q ∈ latA z0.q ls sn, ∃ k, k < sn ∧ q = (z0.base, z0.ls.map XE.q ++ (ls.take (k + 1)).map XE.q) := fun q hq => by
            unfold latA at hq
            obtain ⟨k, hk, rfl⟩ := List.mem_map.1 hq
            exact ⟨k, List.mem_range.1 hk, rfl⟩
          have HGB := Lib.hid (show ∀ q ∈ latA z0.q ls sn, 0 ≤ q.1 ∧ q.1 + (q.2.length : Int) ≤ 1099511627776 ∧ q.2.length ≤ nsum (l.take (i + 1)) from fun q hq => by
            obtain ⟨k, hk, rfl⟩ := hdl q hq
            have h9 : (z0.ls.map XE.q ++ (ls.take (k + 1)).map XE.q).length = z0.n + (k + 1) := by
              rw [List.length_append, List.length_map, List.length_map, hll.at'.rd.1, List.length_take]
              omega
            have h8 := HNUM.out.2.2.1 z0 HZ0.out.2
            have h7 := HNS.out
            have h6 := hseqI k (ls[k]'(by omega)) (List.getElem?_eq_getElem (by omega))
            have h5 := (okX_iff _).1 (hok (ls[k]'(by omega)) (List.getElem_mem (by omega)))
            simp only [h9]
            refine ⟨hll.b0, ?_, by omega⟩
            push_cast
            omega)
          have HQQ := Lib.hid (show ∀ gg, ((∃ j, j ≤ ls.length ∧ gg = addAll lg ((ls.map XE.e).take j)) ∧ gg ≠ lg) → lgq gg ∈ latA z0.q ls sn from fun gg hgg => by
            obtain ⟨⟨j, hj, rfl⟩, hne⟩ := hgg
            cases j with
            | zero => exact absurd (by simp [addAll]) hne
            | succ j =>
              rw [hlq (j + 1) (by omega)]
              unfold latA
              exact List.mem_map.2 ⟨j, List.mem_range.2 (by omega), rfl⟩)
          have HLL := Lib.hid (show ∀ lg2, cl' = some lg2 → (latA z0.q ls sn).getLast? = some (lgq lg2) ∨ (latA z0.q ls sn = [] ∧ z0.q = lgq lg2) from fun lg2 h9 => by
            rcases hcl' with h8 | h8
            · rw [h8] at h9
              cases h9
              rcases Nat.eq_zero_or_pos sn with h7 | h7
              · right
                have h6 := hlq 0 (by omega)
                have h5 : ls = [] := List.eq_nil_of_length_eq_zero (by omega)
                subst h5
                refine ⟨by rw [h7]; rfl, ?_⟩
                simp only [List.map_nil, addAll_nil]
                exact HLG.out
              · left
                obtain ⟨k, rfl⟩ : ∃ k, sn = k + 1 := ⟨sn - 1, by omega⟩
                rw [latA_succ, List.getLast?_append]
                have h6 := hlq (k + 1) (Nat.le_refl _)
                rw [List.take_of_length_le (by rw [List.length_map]; omega)] at h6
                rw [h6]
                rfl
            · rw [h8] at h9
              cases h9)
          have HLA := Lib.hid (HLA.out.mono (Q := fun gg => InM mays gg ∨ ((∃ j, j ≤ ls.length ∧ gg = addAll lg ((ls.map XE.e).take j)) ∧ gg ≠ lg)) (fun gg hgg => by
            rcases hgg with h9 | h9
            · exact .inl h9
            · rcases Classical.em (gg = lg) with h8 | h8
              · exact .inl ⟨z0, HZ0.out.2, by rw [h8]; exact HLG.out⟩
              · exact .inr ⟨h9, h8⟩) (Nat.le_refl _))
          clear hzb hzl hzn hll hsl hlast hseqI hgl hlq hdl hok hseq hcl hcl'
          unfold LX.val Stp.val at HLT
          simp only at HLT
          go_wp2_with fail
          refine HLT.out.mono ?_
          rintro e w7 ⟨ov, out, rfl, hor, hoz, hoq, hb7⟩
          have HOR := Lib.hid hor
          have HOZ := Lib.hid hoz
          have HOQ := Lib.hid hoq
          have HB7 := Lib.hid hb7
          have HROW := Lib.hid (HM6.out.below HOP.out.2.2 hb7 (fun i hi => (HLA.out.foot i hi).2)).row
          have HLO7 := Lib.hid (show w.heap.size ≤ w7.heap.size from by have := HOP.out.2.2.size; have := hb7.size; omega)
          have HCNT := Lib.hid (show mays.length + out.length ≤ 2000000 from by
            obtain ⟨n1, n2, n3, n4⟩ := HNUM.out
            have h9 : out.length = (latA z0.q ls sn).length := by rw [← hoq, List.length_map]
            have h8 := HGLEN.out
            have h7 := HTOT.out
            have h6 := nsum_mono l i (i + 1) (by omega)
            have h5 := HS10.out
            omega)
          clear hor hoz hoq hb7 hla hz
          go_wp2_with (refine wpList_append_rowO rfl _ _ rfl w.heap.size w6.heap.size _ mays.length (rowL mays) rfl HROW.out _ out rfl HOR.out (by exact HCNT.out) (by exact HLO7.out) ?_)
          intro mv8 w8 hr8 hg8 hat8
          have HFIN := Lib.hid (show LaI w W g b lm l (i + 1) mv8 w8 from by
            obtain ⟨n1, n2, n3, n4⟩ := HNUM.out
            refine LaI.more (w := w6) (w1 := w7) (z0 := z0) (T := T) HB.out HIL.out HM6.out HLA.out HOP.out.2.2 (by have := HWS.out; have := HNS.out; have := HTB.out; omega) n2 n3 HB7.out HZ0.out.1 (fun z hz => ?_) HOQ.out HGB.out (by have h9 := HSE.out HIL.out; rw [h9]; exact HGLEN.out) HQQ.out HLL.out hr8 hg8 hat8
            obtain ⟨o1, o2, o3⟩ := HOZ.out z hz
            exact ⟨o1, o2, fun y hy => (o3 y hy).imp id (HSA.out.1.2.2.2 y)⟩)
          clear hr8 hg8 hat8
          go_wp2
          go_roundw
          case rel => exact ⟨i + 1, by omega, by omega, by go_num, HFIN.out⟩
          case measure => simp [intOf]; omega
      by_cases hd1 : d = 1
      · subst hd1
        go_wp2_with fail
        generalize hw5 : (wr.alloc (.cells #[.int .i64 1, .int .i64 N, .int .i64 M, .slice SA sn sc, .slice SKA skn skc] 45)).alloc (.cells #[.int .i64 z0.base, .slice z0.A z0.n z0.cap] 52) = w5
        obtain ⟨b5r, b5, la5, mo5, s5, l5⟩ := H5.out w5 hw5
        have HAP := Lib.hid (cut_la la5 b5 HT4.out.1 N)
        clear hw5 a0 a1 u0 u1 q0 q1 q2 q3 q4
        refine HAP.out.mono ?_
        rintro e w6 ⟨z, F6, rfl, hop, hcase⟩
        have HOP := Lib.hid hop
        have hne6 : ∀ k, wr.heap.size ≤ k → k ∉ F := fun k hk hm => by have := (HFT.out k hm).2; omega
        have s6 := s5.of (hop.1.block _ s5.lt (hne6 _ (Nat.le_refl _)))
        have l6 := l5.of (hop.1.block _ l5.lt (hne6 _ (by omega)))
        have HM6 := Lib.hid (mo5.fr hop.1 hop.2.2 hop.2.1)
        have v0 := s6.cell 0 (.int .i64 1) rfl
        have v1 := s6.cell 1 (.int .i64 N) rfl
        have v2 := s6.cell 2 (.int .i64 M) rfl
        have v3 := s6.cell 3 (.slice SA sn sc) rfl
        have v4 := s6.cell 4 (.slice SKA skn skc) rfl
        have y0 := l6.cell 0 (.int .i64 z0.base) rfl
        have y1 := l6.cell 1 (.slice z0.A z0.n z0.cap) rfl
        clear s6 l6 s5 l5 hop b5r hne6 la5 mo5
        rcases hcase with ⟨hz, hla⟩ | ⟨hz0, lg, hcl, hNN, hla⟩ | ⟨hz, lg, cl', hcl, i1, i2, hla, hcl'⟩
        · have HFIN := Lib.hid (show LaI w W g b lm l (i + 1) (.slice (some ⟨mb, 0, none⟩) mays.length mc) w6 from by
            obtain ⟨n1, n2, n3, n4⟩ := HNUM.out
            exact LaI.stay HIL.out HM6.out hla HOP.out.2.2 n1 n2 n3 n4)
          clear hla HAP
          rcases hz with rfl | rfl | rfl
          all_goals
            go_wp2
            go_roundw
            case rel => exact ⟨i + 1, by omega, by omega, by go_num, HFIN.out⟩
            case measure => simp [intOf]; omega
        · have hz : Nice z := .inl hz0
          have HZ00 := Lib.hid hz0
          clear hz0
          have HLA := Lib.hid hla
          have HZ := Lib.hid hz
          have e1 : ¬ z = 1 := by unfold Nice at hz; omega
          have e7 : ¬ z = 7 := by unfold Nice at hz; omega
          have e8 : ¬ z = 8 := by unfold Nice at hz; omega
          have b1 : (z == 1) = false := by simpa using e1
          have b7 : (z == 7) = false := by simpa using e7
          have b8 : (z == 8) = false := by simpa using e8
          have HLG := Lib.hid (show ((z0.base : Int), z0.ls.map XE.q) = lgq lg from by
            obtain ⟨zz, q1, q2⟩ := HNUM.out.2.2.2 lg hcl
            rw [HZ0.out.1] at q1
            cases q1
            exact q2)
          have hzb : z0.base = (lg.base : Int) := congrArg Prod.fst HLG.out
          have hzl : z0.ls.map XE.q = lg.es.map E.q := congrArg Prod.snd HLG.out
          have hll := HM6.out.logs z0 HZ0.out.2
          have hzn : z0.n = lg.es.length := by
            have h9 := congrArg List.length hzl
            rw [List.length_map, List.length_map, hll.at'.rd.1] at h9
            exact h9
          have hlast : (lg.last : Int) = z0.base + (z0.n : Int) := by unfold Lg.last; push_cast; omega
          have hb1 := hll.b1
          have HLT := Lib.hid (later_cut z0 ⟨1, N, M, SA, sn, sc, ls, SKA, skn, skc, sks⟩ w6 hll.at' rfl ⟨hll.b0, by omega⟩ (by have := HT4.out.2.1; omega) (by simp only; omega) (by simp only; omega))
          simp only at HLT
          have hG : latC z0 N = [] := if_neg (by omega)
          rw [hG] at HLT
          have HGLEN := Lib.hid (show ([] : List (Int × List (Int × Int × Int × List Int))).length ≤ 1 + sn from Nat.zero_le _)
          have HTB := Lib.hid True.intro
          have HGB := Lib.hid (show ∀ q ∈ ([] : List (Int × List (Int × Int × Int × List Int))), 0 ≤ q.1 ∧ q.1 + (q.2.length : Int) ≤ 1099511627776 ∧ q.2.length ≤ nsum (l.take (i + 1)) from fun q hq => by simp at hq)
          have HQQ := Lib.hid (show ∀ gg, False → lgq gg ∈ ([] : List (Int × List (Int × Int × Int × List Int))) from fun gg h => h.elim)
          have HLL := Lib.hid (show ∀ lg2, cl = some lg2 → ([] : List (Int × List (Int × Int × Int × List Int))).getLast? = some (lgq lg2) ∨ (([] : List (Int × List (Int × Int × Int × List Int))) = [] ∧ z0.q = lgq lg2) from fun lg2 h9 => by
            rw [hcl] at h9
            cases h9
            exact .inr ⟨rfl, HLG.out⟩)
          have HLA := Lib.hid (HLA.out.mono (Q := fun gg => InM mays gg ∨ False) (fun gg hgg => .inl hgg) (Nat.le_refl _))
          clear hzb hzl hzn hll hlast hb1 hG hcl hNN

          unfold LX.val Stp.val at HLT
          simp only at HLT
          go_wp2_with fail
          refine HLT.out.mono ?_
          rintro e w7 ⟨ov, out, rfl, hor, hoz, hoq, hb7⟩
          have HOR := Lib.hid hor
          have HOZ := Lib.hid hoz
          have HOQ := Lib.hid hoq
          have HB7 := Lib.hid hb7
          have HROW := Lib.hid (HM6.out.below HOP.out.2.2 hb7 (fun i hi => (HLA.out.foot i hi).2)).row
          have HLO7 := Lib.hid (show w.heap.size ≤ w7.heap.size from by have := HOP.out.2.2.size; have := hb7.size; omega)
          have HCNT := Lib.hid (show mays.length + out.length ≤ 2000000 from by
            obtain ⟨n1, n2, n3, n4⟩ := HNUM.out
            have h9 : out.length = (([] : List (Int × List (Int × Int × Int × List Int)))).length := by rw [← hoq, List.length_map]
            have h8 := HGLEN.out
            have h7 := HTOT.out
            have h6 := nsum_mono l i (i + 1) (by omega)
            have h5 := HS10.out
            omega)
          clear hor hoz hoq hb7 hla hz
          go_wp2_with (refine wpList_append_rowO rfl _ _ rfl w.heap.size w6.heap.size _ mays.length (rowL mays) rfl HROW.out _ out rfl HOR.out (by exact HCNT.out) (by exact HLO7.out) ?_)
          intro mv8 w8 hr8 hg8 hat8
          have HFIN := Lib.hid (show LaI w W g b lm l (i + 1) mv8 w8 from by
            obtain ⟨n1, n2, n3, n4⟩ := HNUM.out
            refine LaI.more (w := w6) (w1 := w7) (z0 := z0) (T := T) HB.out HIL.out HM6.out HLA.out HOP.out.2.2 (by have := HWS.out; have := HNS.out; have := HTB.out; omega) n2 n3 HB7.out HZ0.out.1 (fun z hz => ?_) HOQ.out HGB.out (by have h9 := HSE.out HIL.out; rw [h9]; exact HGLEN.out) HQQ.out (fun lg2 h9 => (HLL.out lg2 h9).imp id (fun h => ⟨rfl, h.2⟩)) hr8 hg8 hat8
            obtain ⟨o1, o2, o3⟩ := HOZ.out z hz
            exact ⟨o1, o2, fun y hy => (o3 y hy).imp id (HSA.out.1.2.2.2 y)⟩)
          clear hr8 hg8 hat8
          go_wp2
          go_roundw
          case rel => exact ⟨i + 1, by omega, by omega, by go_num, HFIN.out⟩
          case measure => simp [intOf]; omega
        · have HLA := Lib.hid hla
          have HZ := Lib.hid hz
          have e1 : ¬ z = 1 := by unfold Nice at hz; omega
          have e7 : ¬ z = 7 := by unfold Nice at hz; omega
          have e8 : ¬ z = 8 := by unfold Nice at hz; omega
          have b1 : (z == 1) = false := by simpa using e1
          have b7 : (z == 7) = false := by simpa using e7
          have b8 : (z == 8) = false := by simpa using e8
          have HLG := Lib.hid (show ((z0.base : Int), z0.ls.map XE.q) = lgq lg from by
            obtain ⟨zz, q1, q2⟩ := HNUM.out.2.2.2 lg hcl
            rw [HZ0.out.1] at q1
            cases q1
            exact q2)
          have hzb : z0.base = (lg.base : Int) := congrArg Prod.fst HLG.out
          have hzl : z0.ls.map XE.q = lg.es.map E.q := congrArg Prod.snd HLG.out
          have hll := HM6.out.logs z0 HZ0.out.2
          have hzn : z0.n = lg.es.length := by
            have h9 := congrArg List.length hzl
            rw [List.length_map, List.length_map, hll.at'.rd.1] at h9
            exact h9
          have hlast : (lg.last : Int) = z0.base + (z0.n : Int) := by unfold Lg.last; push_cast; omega
          have hb1 := hll.b1
          have HLT := Lib.hid (later_cut z0 ⟨1, N, M, SA, sn, sc, ls, SKA, skn, skc, sks⟩ w6 hll.at' rfl ⟨hll.b0, by omega⟩ (by have := HT4.out.2.1; omega) (by simp only; omega) (by simp only; omega))
          simp only at HLT
          have hG : latC z0 N = ([(z0.base, (z0.ls.take (N - 1 - z0.base).toNat).map XE.q)] : List (Int × List (Int × Int × Int × List Int))) := if_pos (by omega)
          rw [hG] at HLT
          have hlq : lgq (lg.cut N.toNat) = (z0.base, (z0.ls.take (N - 1 - z0.base).toNat).map XE.q) := by
            unfold Lg.cut
            rw [if_neg (by omega)]
            unfold lgq
            simp only
            rw [List.map_take, List.map_take, hzl, hzb]
            congr 2
            omega
          have HGLEN := Lib.hid (show (([(z0.base, (z0.ls.take (N - 1 - z0.base).toNat).map XE.q)] : List (Int × List (Int × Int × Int × List Int)))).length ≤ 1 + sn by simp)
          have HTB := Lib.hid True.intro
          have HGB := Lib.hid (show ∀ q ∈ ([(z0.base, (z0.ls.take (N - 1 - z0.base).toNat).map XE.q)] : List (Int × List (Int × Int × Int × List Int))), 0 ≤ q.1 ∧ q.1 + (q.2.length : Int) ≤ 1099511627776 ∧ q.2.length ≤ nsum (l.take (i + 1)) from fun q hq => by
            rw [List.mem_singleton] at hq
            subst hq
            have h9 : ((z0.ls.take (N - 1 - z0.base).toNat).map XE.q).length ≤ z0.n := by
              rw [List.length_map, List.length_take, hll.at'.rd.1]
              omega
            have h8 := HNUM.out.2.2.1 z0 HZ0.out.2
            have h7 := HNS.out
            exact ⟨hll.b0, by simp only; omega, by simp only; omega⟩)
          have HQQ := Lib.hid (show ∀ gg, gg = lg.cut N.toNat → lgq gg ∈ ([(z0.base, (z0.ls.take (N - 1 - z0.base).toNat).map XE.q)] : List (Int × List (Int × Int × Int × List Int))) from fun gg h => by rw [h, hlq]; exact List.mem_singleton.2 rfl)
          have HLL := Lib.hid (show ∀ lg2, cl' = some lg2 → (([(z0.base, (z0.ls.take (N - 1 - z0.base).toNat).map XE.q)] : List (Int × List (Int × Int × Int × List Int)))).getLast? = some (lgq lg2) ∨ (([(z0.base, (z0.ls.take (N - 1 - z0.base).toNat).map XE.q)] : List (Int × List (Int × Int × Int × List Int))) = [] ∧ z0.q = lgq lg2) from fun lg2 h9 => by
            rcases hcl' with h8 | h8
            · rw [h8] at h9
              cases h9
              exact .inl (by rw [hlq]; rfl)
            · rw [h8] at h9
              cases h9)
          clear hzb hzl hzn hll hlast hb1 hG hcl hcl' hlq

          unfold LX.val Stp.val at HLT
          simp only at HLT
          go_wp2_with fail
          refine HLT.out.mono ?_
          rintro e w7 ⟨ov, out, rfl, hor, hoz, hoq, hb7⟩
          have HOR := Lib.hid hor
          have HOZ := Lib.hid hoz
          have HOQ := Lib.hid hoq
          have HB7 := Lib.hid hb7
          have HROW := Lib.hid (HM6.out.below HOP.out.2.2 hb7 (fun i hi => (HLA.out.foot i hi).2)).row
          have HLO7 := Lib.hid (show w.heap.size ≤ w7.heap.size from by have := HOP.out.2.2.size; have := hb7.size; omega)
          have HCNT := Lib.hid (show mays.length + out.length ≤ 2000000 from by
            obtain ⟨n1, n2, n3, n4⟩ := HNUM.out
            have h9 : out.length = (([(z0.base, (z0.ls.take (N - 1 - z0.base).toNat).map XE.q)] : List (Int × List (Int × Int × Int × List Int)))).length := by rw [← hoq, List.length_map]
            have h8 := HGLEN.out
            have h7 := HTOT.out
            have h6 := nsum_mono l i (i + 1) (by omega)
            have h5 := HS10.out
            omega)
          clear hor hoz hoq hb7 hla hz
          go_wp2_with (refine wpList_append_rowO rfl _ _ rfl w.heap.size w6.heap.size _ mays.length (rowL mays) rfl HROW.out _ out rfl HOR.out (by exact HCNT.out) (by exact HLO7.out) ?_)
          intro mv8 w8 hr8 hg8 hat8
          have HFIN := Lib.hid (show LaI w W g b lm l (i + 1) mv8 w8 from by
            obtain ⟨n1, n2, n3, n4⟩ := HNUM.out
            refine LaI.more (w := w6) (w1 := w7) (z0 := z0) (T := T) HB.out HIL.out HM6.out HLA.out HOP.out.2.2 (by have := HWS.out; have := HNS.out; have := HTB.out; omega) n2 n3 HB7.out HZ0.out.1 (fun z hz => ?_) HOQ.out HGB.out (by have h9 := HSE.out HIL.out; rw [h9]; exact HGLEN.out) HQQ.out HLL.out hr8 hg8 hat8
            obtain ⟨o1, o2, o3⟩ := HOZ.out z hz
            exact ⟨o1, o2, fun y hy => (o3 y hy).imp id (HSA.out.1.2.2.2 y)⟩)
          clear hr8 hg8 hat8
          go_wp2
          go_roundw
          case rel => exact ⟨i + 1, by omega, by omega, by go_num, HFIN.out⟩
          case measure => simp [intOf]; omega
      by_cases hd2 : d = 2
      · subst hd2
        go_wp2_with fail
        generalize hw5 : (wr.alloc (.cells #[.int .i64 2, .int .i64 N, .int .i64 M, .slice SA sn sc, .slice SKA skn skc] 45)).alloc (.cells #[.int .i64 z0.base, .slice z0.A z0.n z0.cap] 52) = w5
        obtain ⟨b5r, b5, la5, mo5, s5, l5⟩ := H5.out w5 hw5
        have HAP := Lib.hid (reset_la la5 b5 HT4.out.1 N)
        clear hw5 a0 a1 u0 u1 q0 q1 q2 q3 q4
        refine HAP.out.mono ?_
        rintro e w6 ⟨z, F6, rfl, hop, hcase⟩
        have HOP := Lib.hid hop
        have hne6 : ∀ k, wr.heap.size ≤ k → k ∉ F := fun k hk hm => by have := (HFT.out k hm).2; omega
        have s6 := s5.of (hop.1.block _ s5.lt (hne6 _ (Nat.le_refl _)))
        have l6 := l5.of (hop.1.block _ l5.lt (hne6 _ (by omega)))
        have HM6 := Lib.hid (mo5.fr hop.1 hop.2.2 hop.2.1)
        have v0 := s6.cell 0 (.int .i64 2) rfl
        have v1 := s6.cell 1 (.int .i64 N) rfl
        have v2 := s6.cell 2 (.int .i64 M) rfl
        have v3 := s6.cell 3 (.slice SA sn sc) rfl
        have v4 := s6.cell 4 (.slice SKA skn skc) rfl
        have y0 := l6.cell 0 (.int .i64 z0.base) rfl
        have y1 := l6.cell 1 (.slice z0.A z0.n z0.cap) rfl
        clear s6 l6 s5 l5 hop b5r hne6 la5 mo5
        rcases hcase with ⟨hz, hla⟩ | ⟨hz, cl', r1, r2, hla, hcl'⟩
        · have HFIN := Lib.hid (show LaI w W g b lm l (i + 1) (.slice (some ⟨mb, 0, none⟩) mays.length mc) w6 from by
            obtain ⟨n1, n2, n3, n4⟩ := HNUM.out
            exact LaI.stay HIL.out HM6.out hla HOP.out.2.2 n1 n2 n3 n4)
          clear hla HAP
          rcases hz with rfl | rfl | rfl
          all_goals
            go_wp2
            go_roundw
            case rel => exact ⟨i + 1, by omega, by omega, by go_num, HFIN.out⟩
            case measure => simp [intOf]; omega
        · have HLA := Lib.hid hla
          have HZ := Lib.hid hz
          have e1 : ¬ z = 1 := by unfold Nice at hz; omega
          have e7 : ¬ z = 7 := by unfold Nice at hz; omega
          have e8 : ¬ z = 8 := by unfold Nice at hz; omega
          have b1 : (z == 1) = false := by simpa using e1
          have b7 : (z == 7) = false := by simpa using e7
          have b8 : (z == 8) = false := by simpa using e8
          have hll := HM6.out.logs z0 HZ0.out.2
          have hMI : N ≤ 1099511627776 := by unfold MI at r2; exact r2
          have HLT := Lib.hid (later_reset z0 ⟨2, N, M, SA, sn, sc, ls, SKA, skn, skc, sks⟩ w6 rfl r1 hMI)
          simp only at HLT
          have hlq : lgq (Lg.restart N.toNat) = (N - 1, []) := by
            unfold lgq Lg.restart
            simp only [List.map_nil]
            congr 1
            omega
          have HGLEN := Lib.hid (show (([(N - 1, [])] : List (Int × List (Int × Int × Int × List Int)))).length ≤ 1 + sn by simp)
          have HTB := Lib.hid True.intro
          have HGB := Lib.hid (show ∀ q ∈ ([(N - 1, [])] : List (Int × List (Int × Int × Int × List Int))), 0 ≤ q.1 ∧ q.1 + (q.2.length : Int) ≤ 1099511627776 ∧ q.2.length ≤ nsum (l.take (i + 1)) from fun q hq => by
            rw [List.mem_singleton] at hq
            subst hq
            exact ⟨by simp only; omega, by simp only [List.length_nil]; omega, Nat.zero_le _⟩)
          have HQQ := Lib.hid (show ∀ gg, gg = Lg.restart N.toNat → lgq gg ∈ ([(N - 1, [])] : List (Int × List (Int × Int × Int × List Int))) from fun gg h => by rw [h, hlq]; exact List.mem_singleton.2 rfl)
          have HLL := Lib.hid (show ∀ lg2, cl' = some lg2 → (([(N - 1, [])] : List (Int × List (Int × Int × Int × List Int)))).getLast? = some (lgq lg2) ∨ (([(N - 1, [])] : List (Int × List (Int × Int × Int × List Int))) = [] ∧ z0.q = lgq lg2) from fun lg2 h9 => by
            rcases hcl' with h8 | h8
            · rw [h8] at h9
              cases h9
              exact .inl (by rw [hlq]; rfl)
            · rw [h8] at h9
              cases h9)
          clear hll hcl' hlq hMI

          unfold LX.val Stp.val at HLT
          simp only at HLT
          go_wp2_with fail
          refine HLT.out.mono ?_
          rintro e w7 ⟨ov, out, rfl, hor, hoz, hoq, hb7⟩
          have HOR := Lib.hid hor
          have HOZ := Lib.hid hoz
          have HOQ := Lib.hid hoq
          have HB7 := Lib.hid hb7
          have HROW := Lib.hid (HM6.out.below HOP.out.2.2 hb7 (fun i hi => (HLA.out.foot i hi).2)).row
          have HLO7 := Lib.hid (show w.heap.size ≤ w7.heap.size from by have := HOP.out.2.2.size; have := hb7.size; omega)
          have HCNT := Lib.hid (show mays.length + out.length ≤ 2000000 from by
            obtain ⟨n1, n2, n3, n4⟩ := HNUM.out
            have h9 : out.length = (([(N - 1, [])] : List (Int × List (Int × Int × Int × List Int)))).length := by rw [← hoq, List.length_map]
            have h8 := HGLEN.out
            have h7 := HTOT.out
            have h6 := nsum_mono l i (i + 1) (by omega)
            have h5 := HS10.out
            omega)
          clear hor hoz hoq hb7 hla hz
          go_wp2_with (refine wpList_append_rowO rfl _ _ rfl w.heap.size w6.heap.size _ mays.length (rowL mays) rfl HROW.out _ out rfl HOR.out (by exact HCNT.out) (by exact HLO7.out) ?_)
          intro mv8 w8 hr8 hg8 hat8
          have HFIN := Lib.hid (show LaI w W g b lm l (i + 1) mv8 w8 from by
            obtain ⟨n1, n2, n3, n4⟩ := HNUM.out
            refine LaI.more (w := w6) (w1 := w7) (z0 := z0) (T := T) HB.out HIL.out HM6.out HLA.out HOP.out.2.2 (by have := HWS.out; have := HNS.out; have := HTB.out; omega) n2 n3 HB7.out HZ0.out.1 (fun z hz => ?_) HOQ.out HGB.out (by have h9 := HSE.out HIL.out; rw [h9]; exact HGLEN.out) HQQ.out HLL.out hr8 hg8 hat8
            obtain ⟨o1, o2, o3⟩ := HOZ.out z hz
            exact ⟨o1, o2, fun y hy => (o3 y hy).imp id (HSA.out.1.2.2.2 y)⟩)
          clear hr8 hg8 hat8
          go_wp2
          go_roundw
          case rel => exact ⟨i + 1, by omega, by omega, by go_num, HFIN.out⟩
          case measure => simp [intOf]; omega
      by_cases hd3 : d = 3
      · subst hd3
        go_wp2_with fail
        generalize hw5 : (wr.alloc (.cells #[.int .i64 3, .int .i64 N, .int .i64 M, .slice SA sn sc, .slice SKA skn skc] 45)).alloc (.cells #[.int .i64 z0.base, .slice z0.A z0.n z0.cap] 52) = w5
        obtain ⟨b5r, b5, la5, mo5, s5, l5⟩ := H5.out w5 hw5
        have HAP := Lib.hid (syn_la la5 b5 HT4.out.1)
        clear hw5 a0 a1 u0 u1 q0 q1 q2 q3 q4
        refine HAP.out.mono ?_
        rintro e w6 ⟨z, F6, rfl, hop, hcase⟩
        have HOP := Lib.hid hop
        have hne6 : ∀ k, wr.heap.size ≤ k → k ∉ F := fun k hk hm => by have := (HFT.out k hm).2; omega
        have s6 := s5.of (hop.1.block _ s5.lt (hne6 _ (Nat.le_refl _)))
        have l6 := l5.of (hop.1.block _ l5.lt (hne6 _ (by omega)))
        have HM6 := Lib.hid (mo5.fr hop.1 hop.2.2 hop.2.1)
        have v0 := s6.cell 0 (.int .i64 3) rfl
        have v1 := s6.cell 1 (.int .i64 N) rfl
        have v2 := s6.cell 2 (.int .i64 M) rfl
        have v3 := s6.cell 3 (.slice SA sn sc) rfl
        have v4 := s6.cell 4 (.slice SKA skn skc) rfl
        have y0 := l6.cell 0 (.int .i64 z0.base) rfl
        have y1 := l6.cell 1 (.slice z0.A z0.n z0.cap) rfl
        clear s6 l6 s5 l5 hop b5r hne6 la5 mo5
        rcases hcase with ⟨rfl, lg, hcl, hla⟩ | ⟨hz, hla⟩
        · have HFIN := Lib.hid (show LaI w W g b lm l (i + 1) (.slice (some ⟨w6.heap.size, 0, none⟩) 1 1) (w6.alloc (.cells #[.int .i64 z0.base, .slice z0.A z0.n z0.cap] 52)) from by
            obtain ⟨n1, n2, n3, n4⟩ := HNUM.out
            have hal := alloc_below' w6 (.cells #[.int .i64 z0.base, .slice z0.A z0.n z0.cap] 52)
            have hb6 := HOP.out.2.2
            have hll := HM6.out.logs z0 HZ0.out.2
            have hft := hla.foot
            have hq : z0.q = lgq lg := by
              obtain ⟨zz, q1, q2⟩ := n4 lg hcl
              rw [HZ0.out.1] at q1
              cases q1
              exact q2
            refine LaI.stay (mays := [z0]) HIL.out ⟨⟨rfl, .inr ⟨w6.heap.size, 1, _, rfl, hb6.size, heap_alloc_new w6 _, Nat.le_refl _, by unfold maxLen; omega, rfl, rfl⟩⟩, fun k hk hm => ?_, fun zz hzz => ?_, by simp⟩ ((hla.below hal).mono (fun gg hgg => ⟨z0, List.mem_singleton.2 rfl, by rw [hgg]; exact hq⟩) (Nat.le_refl _)) (hb6.trans (hal.mono hb6.size)) n1 (by simp only [List.length_cons, List.length_nil]; omega) (fun zz hzz => by rw [List.mem_singleton] at hzz; subst hzz; exact n3 _ HZ0.out.2) (fun lg2 h9 => ⟨z0, rfl, by rw [hcl] at h9; cases h9; exact hq⟩)
            · have h1 : w6.heap.size = k := Option.some.inj hk
              have := (hft k hm).2
              omega
            · rw [List.mem_singleton] at hzz
              subst hzz
              refine ⟨hll.at'.below hal, hll.ys, hll.foot, fun hp a ha hm => ?_, hll.b0, hll.b1⟩
              have h1 : w6.heap.size = a.block := Option.some.inj hm
              have := hll.at'.rd.blk hp a ha
              omega)
          have vv : ∀ ob, (w6.alloc ob).cell? ⟨wr.heap.size, 0, none⟩ = some (.int .i64 3) := fun ob => ((alloc_below' w6 ob).cell (lt_of_cell v0)).trans v0
          clear hla HAP
          go_wp2
          go_roundw
          case rel => exact ⟨i + 1, by omega, by omega, by go_num, HFIN.out⟩
          case measure => simp [intOf]; omega
        · have HFIN := Lib.hid (show LaI w W g b lm l (i + 1) (.slice (some ⟨mb, 0, none⟩) mays.length mc) w6 from by
            obtain ⟨n1, n2, n3, n4⟩ := HNUM.out
            exact LaI.stay HIL.out HM6.out hla HOP.out.2.2 n1 n2 n3 (fun lg h9 => by cases h9))
          have e0 : (z == 0) = false := by simpa using hz
          clear hla HAP
          go_wp2
          go_roundw
          case rel => exact ⟨i + 1, by omega, by omega, by go_num, HFIN.out⟩
          case measure => simp [intOf]; omega
      by_cases hd7 : d = 7
      · subst hd7
        go_wp2_with fail
        generalize hw5 : (wr.alloc (.cells #[.int .i64 7, .int .i64 N, .int .i64 M, .slice SA sn sc, .slice SKA skn skc] 45)).alloc (.cells #[.int .i64 z0.base, .slice z0.A z0.n z0.cap] 52) = w5
        obtain ⟨b5r, b5, la5, mo5, s5, l5⟩ := H5.out w5 hw5
        have HAP := Lib.hid (arm_la la5 HB.out b5 N HSN2.out)
        clear hw5 a0 a1 u0 u1 q0 q1 q2 q3 q4
        refine HAP.out.mono ?_
        rintro e w6 ⟨⟨z, rfl⟩, hop, hla⟩
        have HOP := Lib.hid hop
        have hne6 : ∀ k, wr.heap.size ≤ k → k ∉ F := fun k hk hm => by have := (HFT.out k hm).2; omega
        have s6 := s5.of (hop.1.block _ s5.lt (hne6 _ (Nat.le_refl _)))
        have l6 := l5.of (hop.1.block _ l5.lt (hne6 _ (by omega)))
        have HM6 := Lib.hid (mo5.fr hop.1 hop.2.2 hop.2.1)
        have v0 := s6.cell 0 (.int .i64 7) rfl
        have v1 := s6.cell 1 (.int .i64 N) rfl
        have v2 := s6.cell 2 (.int .i64 M) rfl
        have v3 := s6.cell 3 (.slice SA sn sc) rfl
        have v4 := s6.cell 4 (.slice SKA skn skc) rfl
        have y0 := l6.cell 0 (.int .i64 z0.base) rfl
        have y1 := l6.cell 1 (.slice z0.A z0.n z0.cap) rfl
        clear s6 l6 s5 l5 hop b5r hne6 la5 mo5
        have HFIN := Lib.hid (show LaI w W g b lm l (i + 1) (.slice (some ⟨mb, 0, none⟩) mays.length mc) w6 from by
          obtain ⟨n1, n2, n3, n4⟩ := HNUM.out
          exact LaI.stay HIL.out HM6.out hla HOP.out.2.2 n1 n2 n3 n4)
        clear hla HAP
        go_wp2
        go_roundw
        case rel => exact ⟨i + 1, by omega, by omega, by go_num, HFIN.out⟩
        case measure => simp [intOf]; omega
      have hd8 : d < 0 ∨ (2 < d ∧ ¬ d = 3 ∧ ¬ d = 7) := by omega
      have HDD := Lib.hid hd8
      rcases hd8 with hneg | ⟨hpos, _, _⟩
      · have n2 : ¬ 2 < d := by omega
        go_wp2_with fail
        generalize hw5 : (wr.alloc (.cells #[.int .i64 d, .int .i64 N, .int .i64 M, .slice SA sn sc, .slice SKA skn skc] 45)).alloc (.cells #[.int .i64 z0.base, .slice z0.A z0.n z0.cap] 52) = w5
        obtain ⟨b5r, b5, la5, mo5, s5, l5⟩ := H5.out w5 hw5
        have HLA := Lib.hid (la5.mono (Q := fun gg => InM mays gg ∨ False) (fun gg hgg => .inl hgg) (Nat.le_refl _))
        have HM6 := Lib.hid mo5
        have HB5 := Lib.hid b5
        have HLT := Lib.hid (later_none z0 ⟨d, N, M, SA, sn, sc, ls, SKA, skn, skc, sks⟩ w5 hneg)
        unfold LX.val Stp.val at HLT
        simp only at HLT
        clear hw5 a0 a1 u0 u1 q0 q1 q2 q3 q4 s5 l5 la5 mo5 b5 b5r
        refine HLT.out.mono ?_
        rintro e w7 ⟨ov, out, rfl, hor, hoz, hoq, hb7⟩
        obtain rfl : out = [] := List.map_eq_nil_iff.1 hoq
        have HOR := Lib.hid hor
        have HB7 := Lib.hid hb7
        have HROW := Lib.hid (HM6.out.below HB5.out hb7 (fun i hi => (HLA.out.foot i hi).2)).row
        have HLO7 := Lib.hid (show w.heap.size ≤ w7.heap.size from by have := HB5.out.size; have := hb7.size; omega)
        have HCNT := Lib.hid (show mays.length + ([] : List LX).length ≤ 2000000 from by
          obtain ⟨n1, n2, n3, n4⟩ := HNUM.out
          have h7 := HTOT.out
          have h6 := nsum_mono l i (i + 1) (by omega)
          simp only [List.length_nil]
          omega)
        clear hor hoz hoq hb7
        go_wp2_with (refine wpList_append_rowO rfl _ _ rfl w.heap.size w5.heap.size _ mays.length (rowL mays) rfl HROW.out _ [] rfl HOR.out (by exact HCNT.out) (by exact HLO7.out) ?_)
        intro mv8 w8 hr8 hg8 hat8
        have HFIN := Lib.hid (show LaI w W g b lm l (i + 1) mv8 w8 from by
          obtain ⟨n1, n2, n3, n4⟩ := HNUM.out
          refine LaI.more (w := w5) (w1 := w7) (z0 := z0) (T := T) (out := []) (G := []) HB.out HIL.out HM6.out HLA.out HB5.out (by have := HWS.out; have := HNS.out; omega) n2 n3 HB7.out HZ0.out.1 (fun z hz => by simp at hz) rfl (fun q hq => by simp at hq) (Nat.zero_le _) (fun gg h => h.elim) (fun lg h9 => .inr ⟨rfl, ?_⟩) hr8 hg8 hat8
          obtain ⟨zz, q1, q2⟩ := n4 lg h9
          rw [HZ0.out.1] at q1
          cases q1
          exact q2)
        clear hr8 hg8 hat8
        go_wp2
        go_roundw
        case rel => exact ⟨i + 1, by omega, by omega, by go_num, HFIN.out⟩
        case measure => simp [intOf]; omega
      · obtain ⟨w5, hw5⟩ : ∃ w5, (wr.alloc (.cells #[.int .i64 d, .int .i64 N, .int .i64 M, .slice SA sn sc, .slice SKA skn skc] 45)).alloc (.cells #[.int .i64 z0.base, .slice z0.A z0.n z0.cap] 52) = w5 := ⟨_, rfl⟩
        obtain ⟨b5r, b5, la5, mo5, s5, l5⟩ := H5.out w5 hw5
        have HFIN := Lib.hid (show LaI w W g b lm l (i + 1) (.slice (some ⟨mb, 0, none⟩) mays.length mc) w5 from by
          obtain ⟨n1, n2, n3, n4⟩ := HNUM.out
          exact LaI.stay HIL.out mo5 la5 b5 n1 n2 n3 n4)
        have v0 := s5.cell 0 (.int .i64 d) rfl
        have HW5 := Lib.hid hw5
        rw [← hw5] at v0
        clear s5 l5 la5 mo5 b5 b5r hw5
        go_wp2
        go_roundw
        case rel => exact ⟨i + 1, by omega, by omega, by go_num, by rw [HW5.out]; exact HFIN.out⟩
        case measure => simp [intOf]; omega
    · have hex : ¬ (i : Int) < (n : Int) ∨ ((i : Int) < (n : Int) ∧ ¬ (i : Int) < 60) := by omega
      have HTOT := Lib.hid (show wsum (l.take i) ≤ 30000 ∧ nsum (l.take i) ≤ 1000 from by
        have h9 := wsum_mono l i 100 (by omega)
        have h8 := nsum_le (l.take i)
        have := HMU.out.2
        omega)
      have HQ := Lib.hid (show ∀ z ∈ mays, z.q.2.length = z.n from fun z hzm => by
        show (z.ls.map XE.q).length = z.n
        rw [List.length_map]
        exact (hM.logs z hzm).at'.rd.1)
      have HPP := Lib.hid (show ∀ gg, InM mays gg → gg.last ≤ MI ∧ gg.es.length ≤ 1000 from fun gg hgg => by
        obtain ⟨z, hzm, hq⟩ := hgg
        have h1 := (hM.logs z hzm).b1
        have h2 := HQ.out z hzm
        have h3 : z.base = (gg.base : Int) := congrArg Prod.fst hq
        have h4 : z.q.2.length = gg.es.length := by rw [hq]; simp [lgq]
        have h5 := hz z hzm
        have h6 := HTOT.out.2
        unfold Lg.last MI
        omega)
      have HT5 := Lib.hid (show T ≤ 400000 ∧ 2 * T + 35 ≤ 200000 from by have := HTOT.out; omega)
      have HCR := Lib.hid (la_crash hS hM hb HT5.out.1 KA kn kc ks HK.out)
      have HNE := Lib.hid hM.ne
      have HLEN := Lib.hid (show mays.length ≤ 2000 from by have := HTOT.out.2; omega)
      clear hM hS hb hT hc hz hL HINI hgo
      rcases hex with i1 | ⟨i1, i2⟩
      all_goals
        go_wp2_with fail
        refine HCR.out.mono ?_
        rintro e w5 ⟨rfl, m5, t5, hsn5, hcx5, hmo5⟩
        have HOP := Lib.hid (la_open HB.out hcx5 hmo5 HT5.out.2 HT5.out.1 (fun gg hgg => (HPP.out gg hgg).1) hsn5 hm1 hm2)
        clear hsn5 hcx5 hmo5
        go_wp2_with fail
        refine HOP.out.mono ?_
        rintro e w6 ⟨rfl, c6, t6, F6, hWa, hP6, hM6, hF6⟩
        have HB6 := Lib.hid hWa.2
        have HWA := Lib.hid hWa
        have HM6 := Lib.hid hM6
        have HF6 := Lib.hid hF6
        have HP6 := Lib.hid hP6
        have HES := Lib.hid (HPP.out _ hP6)
        generalize w5.heap.size = X at *
        have HFI := Lib.hid (show ∀ w', Below w6.heap.size w6 w' → Calls Tryz.prog 28 #[.pointer (some ⟨X, 0, none⟩)] w' (fun e w2 => e = .returned (.int .i64 ((c6.lg.base : Int) + 1)) ∧ w' = w2) from fun w' hb => by
          obtain ⟨⟨m, ve, vs, xs, hX⟩, _⟩ := HWA.out.below hb
          exact first_any hX)
        have HLW := Lib.hid (show ∀ w', Below w6.heap.size w6 w' → Calls Tryz.prog 30 #[.pointer (some ⟨X, 0, none⟩)] w' (fun e w2 => e = .returned (.int .i64 (c6.lg.last : Int)) ∧ Still w' w2) from fun w' hb => by
          obtain ⟨⟨m, ve, vs, xs, hX⟩, _⟩ := HWA.out.below hb
          exact lastW_any hX)
        have HGE := Lib.hid (show Calls Tryz.prog 27 #[.pointer (some ⟨X, 0, none⟩), .int .i64 ((c6.lg.base : Int) + 1), .int .i64 100000] w6 (GetIs w6 c6.lg.es) from by
          obtain ⟨⟨m, ve, vs, xs, hX⟩, _⟩ := HWA.out
          have h := wget_any hX (by have := HES.out.2; omega) ((c6.lg.base : Int) + 1) 100000
          have e1 : getL c6.lg ((c6.lg.base : Int) + 1) 100000 = c6.lg.es := by
            unfold getL
            split
            · rename_i hc
              have h9 : (c6.lg.last : Int) = (c6.lg.base : Int) + (c6.lg.es.length : Int) := by unfold Lg.last; push_cast; rfl
              have : c6.lg.es.length = 0 := by omega
              exact (List.length_eq_zero_iff.1 this).symm
            · have e2 : ((c6.lg.base : Int) + 1 - (c6.lg.base : Int) - 1).toNat = 0 := by omega
              rw [e2, List.drop_zero, List.take_of_length_le (by have := HES.out.2; omega)]
          rw [e1] at h
          exact h)
        clear hWa hP6 hM6 hF6 HOP HCR
        go_wp2_with fail
        refine (HFI.out _ (Below.refl _ _)).mono ?_
        rintro e w7 ⟨rfl, rfl⟩
        go_wp2_with fail
        refine HGE.out.mono ?_
        intro e w7 hge
        obtain ⟨GA, gcap, ys, rfl, hrd, hq, hb7⟩ := get_rdx hge
        have HRD := Lib.hid hrd
        have HYQ := Lib.hid hq
        have HB7 := Lib.hid hb7
        clear hge hrd hq hb7 HGE
        obtain ⟨zz, hzz, hzq⟩ := HP6.out
        obtain ⟨J, hJ, hJz⟩ := List.mem_iff_getElem.1 hzz
        have HZQ := Lib.hid (show ∀ h : J < mays.length, (mays[J]'h).q = lgq c6.lg from fun h => by rw [hJz]; exact hzq)
        clear hzz hzq hJz
        go_wp2_with fail
        go_loopw [18] (fun iv wr => ∃ j : Nat, j ≤ J ∧ iv = .int .i64 j ∧ Below w7.heap.size w7 wr) (fun iv _ => J + 1 - (intOf iv).toNat)
        case atStart => exact ⟨0, Nat.zero_le _, rfl, Below.refl _ _⟩
        case round =>
          obtain ⟨j, hj, rfl, hbr⟩ := hrel
          have hJm := hJ
          have HMR := Lib.hid (HM6.out.below HB6.out (HB7.out.trans (hbr.mono HB7.out.size)) HF6.out)
          obtain ⟨MA, mc, hmv, hMA, h1, h2, h3⟩ := row_slice HMR.out.row
          obtain ⟨ad, had⟩ : ∃ ad, MA = some ad := by
            cases MA with
            | none => have := (h3 rfl).2; omega
            | some ad => exact ⟨ad, rfl⟩
          obtain ⟨mb, mo, msp⟩ := ad
          have hsp := (hMA _ had).1
          have hof := (hMA _ had).2
          simp only at hsp hof
          subst hsp hof had
          have hjm : j < mays.length := by omega
          have hjb : j ≤ 2000 := by have := HLEN.out; omega
          obtain ⟨z, hzj⟩ : ∃ z, mays[j]'hjm = z := ⟨_, rfl⟩
          have u0 : wr.cell? ⟨mb, j * 2, none⟩ = some (.int .i64 z.base) := by
            have h4 := rowL_at mays j 0 hjm (by omega)
            rw [hzj] at h4
            have h5 := row_cells2 (by rw [← hmv]; exact HMR.out.row) ⟨mb, 0, none⟩ rfl _ _ h4
            rw [add_atB, Nat.zero_add] at h5
            exact h5
          have u1 : wr.cell? ⟨mb, j * 2 + 1, none⟩ = some (.slice z.A z.n z.cap) := by
            have h4 := rowL_at mays j 1 hjm (by omega)
            rw [hzj] at h4
            have h5 := row_cells2 (by rw [← hmv]; exact HMR.out.row) ⟨mb, 0, none⟩ rfl _ _ h4
            rw [add_atB, Nat.zero_add] at h5
            exact h5
          have HLZ := Lib.hid (HMR.out.logs z (by rw [← hzj]; exact List.getElem_mem hjm))
          have HNJ := Lib.hid (show j = J → z.q = lgq c6.lg from fun h => by subst h; rw [← hzj]; exact HZQ.out hjm)
          have HBR := Lib.hid hbr
          have HSA := Lib.hid (same_any GA ys.length gcap ys z.A z.n z.cap z.ls wr (HRD.out.below hbr) HLZ.out.at'.rd)
          have k0 : (0 : Int) ≤ (j : Int) := by omega
          have k1 : (j : Int) < (mays.length : Int) := by omega
          have HMV := Lib.hid hmv
          clear h1 h2 h3 hMA hzj hbr hJm
          subst hmv
          go_wp2_with fail
          refine HSA.out.mono ?_
          rintro e w8 ⟨bb, rfl, hbb, hst⟩
          have HST8 := Lib.hid hst
          have HB8 := Lib.hid (HBR.out.trans ((still_below hst).mono HBR.out.size))
          have HB68 := Lib.hid (HB7.out.trans (HB8.out.mono HB7.out.size))
          have HBB := Lib.hid hbb
          have v0 := ((still_below hst).cell (lt_of_cell u0)).trans u0
          have v1 := ((still_below hst).cell (lt_of_cell u1)).trans u1
          have HV0 := Lib.hid v0
          have HV1 := Lib.hid v1
          clear u0 u1 hst hbb HSA
          cases bb with
          | false =>
            have hne : j ≠ J := fun h => by
              have h9 := HNJ.out h
              have h8 : z.ls.map XE.q = c6.lg.es.map E.q := congrArg Prod.snd h9
              have h7 := HBB.out.2 (by rw [HYQ.out, h8])
              cases h7
            go_wp2_with fail
            go_quiet (fail)
            go_wp2
            go_roundw
            case rel => exact ⟨j + 1, by omega, by go_num, HB8.out.trans (still_below (Still.drewN (Still.refl _) _) |>.mono HB8.out.size)⟩
            case measure => simp [intOf]; omega
          | true =>
            have heq : z.ls.map XE.q = c6.lg.es.map E.q := by rw [← HYQ.out]; exact (HBB.out.1 rfl).symm
            have hzn : z.n = c6.lg.es.length := by
              have h9 := congrArg List.length heq
              rw [List.length_map, List.length_map, HLZ.out.at'.rd.1] at h9
              exact h9
            have hb0 := HLZ.out.b0
            have hb1 := HLZ.out.b1
            have HDW := Lib.hid ((Below.refl w8.heap.size w8).drew)
            have HL6 := Lib.hid (show (c6.lg.last : Int) = (c6.lg.base : Int) + (c6.lg.es.length : Int) by unfold Lg.last; push_cast; rfl)
            have HE6 := Lib.hid (HPP.out _ HP6.out)
            by_cases hbq : z.base = (c6.lg.base : Int)
            · have HLL := Lib.hid (show ∀ W : World, Calls Tryz.prog 31 #[.agg #[.int .i64 (c6.lg.base : Int), .slice z.A z.n z.cap]] W (fun e w' => e = .returned (.int .i64 (c6.lg.last : Int)) ∧ Below W.heap.size W w') from fun W => by
                have h9 := llast_any z W (by omega) (by have := HE6.out.2; omega)
                unfold LX.val at h9
                rw [hbq, hzn, ← HL6.out] at h9
                rw [hzn]
                exact h9)
              rw [hbq] at v0
              have HW0 := Lib.hid v0
              have z1 : IntKind.i64.wrap ((c6.lg.base : Int) + 1) = (c6.lg.base : Int) + 1 := IntWalk.i64_in _ (by omega)
              clear heq hzn hb0 hb1 hbq v0 v1
              have v0 := HW0.out
              have v1 := HV1.out
              go_wp2_with fail
              go_region_held3 (fun w' => w'.cell? ⟨mb, j * 2, none⟩ = some (.int .i64 (c6.lg.base : Int)) ∧ w'.cell? ⟨mb, j * 2 + 1, none⟩ = some (.slice z.A z.n z.cap)) (first | exact ⟨by assumption, by assumption⟩ | go_keep) ((first
                | (go_at_call 31; refine (HLL.out _).mono ?_; rintro e wl ⟨rfl, hbl⟩; have HBL := Lib.hid hbl; have x0 := (hbl.cell (lt_of_cell y0)).trans y0; have x1 := (hbl.cell (lt_of_cell y1)).trans y1; clear hbl)
                | (go_at_call 28; refine (HFI.out _ (HB68.out.trans (HDW.out.mono HB68.out.size))).mono ?_; rintro e wf ⟨rfl, hwf⟩; subst hwf)
                | (go_at_call 30; refine (HLW.out _ (HB68.out.trans (HDW.out.mono HB68.out.size))).mono ?_; rintro e ws ⟨rfl, hsl⟩; have HSL := Lib.hid hsl; have y0 : ws.cell? ⟨mb, j * 2, none⟩ = some (.int .i64 (c6.lg.base : Int)) := (hsl.cell _).trans HW0.out; have y1 : ws.cell? ⟨mb, j * 2 + 1, none⟩ = some (.slice z.A z.n z.cap) := (hsl.cell _).trans HV1.out; clear hsl)))
              all_goals
                have HFB := Lib.hid (HB6.out.trans (((HB68.out.trans (HDW.out.mono HB68.out.size)).trans ((still_below HSL.out).mono (HB68.out.trans (HDW.out.mono HB68.out.size)).size)).mono HB6.out.size))
                go_wp2
                go_ret
                exact ⟨rfl, HFB.out.trans (HBL.out.mono HFB.out.size)⟩
            · have z1 : IntKind.i64.wrap (z.base + 1) = z.base + 1 := IntWalk.i64_in _ (by omega)
              have hne : j ≠ J := fun h => hbq (congrArg Prod.fst (HNJ.out h))
              have e1 : ¬ (c6.lg.base : Int) + 1 = z.base + 1 := by omega
              have b1 : (((c6.lg.base : Int) + 1) == (z.base + 1)) = false := by simpa using fun h => hbq h.symm
              have d1 : decide ((c6.lg.base : Int) + 1 = z.base + 1) = false := decide_eq_false e1
              clear heq hzn hb0 hb1
              go_wp2_with fail
              have HFQ := Lib.hid (show ∀ k, Calls Tryz.prog 28 #[.pointer (some ⟨X, 0, none⟩)] (w8.drewN k) (fun e w2 => e = .returned (.int .i64 ((c6.lg.base : Int) + 1)) ∧ ∃ m, w2 = w8.drewN m) from fun k =>
                (HFI.out _ (HB68.out.trans ((still_below (Still.drewN (Still.refl _) _)).mono HB68.out.size))).mono fun e w2 ⟨he, hw⟩ => ⟨he, k, hw.symm⟩)
              go_quiet ((go_at_call 28; exact HFQ.out _))
              go_wp2
              go_roundw
              case rel => exact ⟨j + 1, by omega, by go_num, HB8.out.trans (still_below (Still.drewN (Still.refl _) _) |>.mono HB8.out.size)⟩
              case measure => simp [intOf]; omega
end Go.Proofs.YtnppomiggajhnaaGreatDoor.Wl
