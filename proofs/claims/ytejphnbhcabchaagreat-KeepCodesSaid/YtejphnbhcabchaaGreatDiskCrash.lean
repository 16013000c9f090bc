/-
  Crash of the program's disk. Conditions: the disk lies in memory as it was made (Im), keep can be read and is none of its blocks.
-/
import Derived.Test.YtejphnbhcabchaaGreatDiskCr
namespace Go.Proofs.YtejphnbhcabchaaGreat.Dk
open Go.RowKit Go.Proofs.YtejphnbhcabchaaGreat.Fld

def CrR (w1 : World) (g b : Nat) (m : List Ent) (t : St) (ks : List Int) (i : Value) (wr : World) : Prop := ∃ k : Nat, k ≤ m.length ∧ i = .int .i64 (k : Int) ∧ Left w1 g b m { t with fs := crashTo k ks t.fs } wr
/-- the entry of a round -/
theorem crash_ent {wr w1 : World} {g b : Nat} {m m' : List Ent} {t : St} {ks : List Int} {k : Nat} (h : Im w1 g b m t) (h' : Im wr g b m' { t with fs := crashTo k ks t.fs }) (hk : k < m.length) :
    ∃ e f, found m' ((m.map fun e => (⟨e.nm.toArray⟩ : ByteArray)).getD k ⟨#[]⟩) = some e ∧ t.fs[k]? = some f ∧ e.fil = f ∧ ((m.map fun e => (⟨e.nm.toArray⟩ : ByteArray)).getD k ⟨#[]⟩).data.toList = f.1 := by
  have hkl : k < t.fs.length := by rw [← h.len]; exact hk
  obtain ⟨f, hf⟩ : ∃ f, t.fs[k]? = some f := ⟨_, List.getElem?_eq_getElem hkl⟩
  have hk' : k < m'.length := by rw [h'.len]; simp only [crashTo_len]; exact hkl
  have hef : (m'[k]).fil = f := by
    have h1 : (m'.map Ent.fil)[k]? = some f := by
      rw [← h'.fs]
      show (crashTo k ks t.fs)[k]? = _
      rw [crashTo_at, hf]
      simp
    rw [List.getElem?_map, List.getElem?_eq_getElem hk', Option.map_some] at h1
    exact Option.some.inj h1
  have hnm : ((m.map fun e => (⟨e.nm.toArray⟩ : ByteArray)).getD k ⟨#[]⟩).data.toList = f.1 := by
    have h1 : (m.map Ent.fil)[k]? = some f := by rw [← h.fs]; exact hf
    rw [List.getElem?_map, List.getElem?_eq_getElem hk, Option.map_some] at h1
    have h2 := Option.some.inj h1
    rw [List.getD_eq_getElem?_getD, List.getElem?_map, List.getElem?_eq_getElem hk, Option.map_some, Option.getD_some]
    rw [← h2]
    rfl
  refine ⟨m'[k], f, ?_, hf, hef, hnm⟩
  unfold found
  rw [hnm, ← hef]
  exact get_mem h'.up (List.getElem_mem hk')
theorem wrap64_in (x : Int) (h1 : -1000000000 ≤ x) (h2 : x ≤ 1000000000) : wrap64 x = x := by unfold wrap64; omega
set_option maxRecDepth 100000 in
set_option maxHeartbeats 3200000 in
theorem crash_any (g b : Nat) (m : List Ent) (t : St) (A : Option Addr) (n cap : Nat) (ks : List Int) (w : World) (h : Im w g b m t) (hm : t.fs.length ≤ 1000000) (hr : RdI w A n ks) (hA : 0 < n → ∀ a, A = some a → a.block ∉ g :: b :: blks m) :
    Calls Tryz.prog 19 #[.pointer (some ⟨g, 0, none⟩), .slice A n cap] w fun e w' => e = .returned (.tuple #[]) ∧ Left w g b m (stCrash ks t) w' := by
  have hml : m.length ≤ 1000000 := by rw [h.len]; exact hm
  have HI := Lib.hid h
  have HN := Lib.hid (names_any g b m t w h hm)
  have HR := Lib.hid hr
  have HA := Lib.hid hA
  have hnl := hr.2.1
  have HKL := Lib.hid hr.1
  unfold maxLen at hnl
  clear h hr hA
  go_enter Tryz.func19, Tryz.ntmps19
  go_wp2_with (go_at_call 43; refine HN.out.mono ?_; rintro e w1 ⟨NA, ncap, rfl, hRS, hNb, hB⟩; have HRS := Lib.hid hRS; have HNB := Lib.hid hNb; have HB := Lib.hid hB; clear hRS hNb hB)
  have HI1 := Lib.hid (HI.out.below HB.out)
  have HLT := Lib.hid HI.out.lt
  have HRK := Lib.hid (HR.out.fr (Fr.below (S := []) HB.out) (by simp))
  go_loopw [11] (fun i wr => CrR w1 g b m t ks i wr) (fun i _ => m.length - (intOf i).toNat)
  case atStart => exact ⟨0, Nat.zero_le _, rfl, by rw [crashTo_zero]; exact Left.same HI1.out⟩
  case round =>
    obtain ⟨k, hk, rfl, hL⟩ := hrel
    obtain ⟨m', hI', hF', hb'⟩ := hL
    by_cases hlt : k < m.length
    · obtain ⟨e, f, hfd, hfk, hef, hnm⟩ := crash_ent HI1.out hI' hlt
      have hRS := HRS.out.fr hF' (by
        intro a ha hmm
        have h1 := HNB.out a ha
        have h2 := HLT.out _ hmm
        omega)
      have hRK := HRK.out.fr hF' HA.out
      obtain ⟨nb, noff, rfl, hnc⟩ := hRS.2.2 (by omega)
      have hcn := hnc k hlt
      clear hnc
      generalize (m.map fun e => (⟨e.nm.toArray⟩ : ByteArray)).getD k ⟨#[]⟩ = s at *
      have hok : okN s.data.toList = true := by rw [hnm]; exact HI1.out.good.name f (List.mem_of_getElem? hfk)
      have hs := size_of_ok hok
      obtain ⟨EA, ecap, hev, hsl⟩ := (hI'.file e (get_some hfd).1).form
      have hes : e.s ≤ e.zs.length := by
        have := hI'.good.synced e.fil (by rw [hI'.fs]; exact List.mem_map.2 ⟨e, (get_some hfd).1, rfl⟩)
        exact this
      have hel : e.zs.length ≤ 16777216 := by
        have h1 := total_del (f := e.fil) hI'.good.up (x := s.data.toList) (by rw [hI'.get, hfd]; rfl)
        have h2 := hI'.good.fits
        have h3 := hI'.good.room2
        have h4 : e.fil.2.1.length = e.zs.length := rfl
        omega
      obtain ⟨c0, c1, c2, c3, c4, c5, c6, c7⟩ := Dsk.cells hI'.dsk
      have hfv : foundV m' s = .agg #[.slice EA e.zs.length ecap, .int .i64 (e.s : Int)] := by unfold foundV; rw [hfd, Option.map_some, Option.getD_some, Ent.val, hev]
      have hlk := look1 hI'.own s hs
      rw [hfv] at hlk
      obtain ⟨K, hK⟩ : ∃ K, K = ks.getD k 0 := ⟨_, rfl⟩
      obtain ⟨E, hE⟩ : ∃ E, E = nstay K e.zs.length e.s := ⟨_, rfl⟩
      have hEl : E ≤ e.zs.length := by rw [hE]; exact nstay_le hes
      have hsv := survivor_any EA e.zs.length ecap e.s K e.zs wr hsl hes hel
      rw [← hE] at hsv
      have hlen : (crashTo k ks t.fs).length ≤ 1000000 := by rw [crashTo_len]; exact hm
      have hTR : total (crashTo k ks t.fs) ≤ 16777216 := Nat.le_trans hI'.good.fits hI'.good.room2
      have hst : ({ ({ t with fs := crashTo k ks t.fs } : St) with fs := fput (s.data.toList, e.zs.take E, E) (crashTo k ks t.fs) } : St) = { t with fs := crashTo (k + 1) ks t.fs } := by
        have h1 := crash_step k ks t.fs hI'.good.up f hfk
        rw [h1, hnm, ← hef, ← hK, hE]
        rfl
      have HMID := Lib.hid (fun (w' : World) (v : Value) (hO : Own wr w' v (e.zs.take E)) => crash_mid (s := s) hI' hlen hs hfd E hEl v hO)
      have HLEFT := Lib.hid (fun (W4 : World) (hL : Left wr g b m' { t with fs := crashTo (k + 1) ks t.fs } W4) => Left.trans (w := w1) (m := m) hF' hb' hL)
      rw [hst] at HMID
      have HD := Lib.hid (fun (w' : World) (hB : Below wr.heap.size wr w') => hI'.below hB)
      have HTL := Lib.hid (show (e.zs.take E).length = E by rw [List.length_take]; omega)
      have HLK := Lib.hid (fun (w' : World) (hB : Below wr.heap.size wr w') (o : Obj) => (look1 (((hI'.below hB).own.alloc o).drew) s hs).trans (by rw [hfv]))
      have HSV := Lib.hid hsv
      clear hsv hst hI' hF' hb' hRS hsl hfv hev hef hfk hfd HRS HNB HI1 HRK HI HN
      have hRK2 := hRK.2.2
      have hcell : k < n → ∃ kb koff, A = some ⟨kb, koff, none⟩ ∧ wr.cell? ⟨kb, koff + k, none⟩ = some (.int .i64 K) := by
        intro hkn
        obtain ⟨kb, koff, h1, h2⟩ := hRK2 (by omega)
        exact ⟨kb, koff, h1, by rw [hK]; exact h2 k hkn⟩
      have hzero : ¬ k < n → K = 0 := by
        intro hkn
        rw [hK, List.getD_eq_getElem?_getD, List.getElem?_eq_none (by rw [hRK.1]; omega)]
        rfl
      clear hRK hRK2 hK HR HA HKL
      simp only at c0 c1 c2 c3 c4 c5 c6 c7
      generalize hT : total (crashTo k ks t.fs) = T at *
      have HTT := Lib.hid hT
      clear hT
      generalize hL : e.zs.length = L at *
      clear hL hE
      have hfld := field0 EA L ecap (e.s : Int)
      by_cases hkn : k < n
      · obtain ⟨kb, koff, rfl, hkc⟩ := hcell hkn
        clear hcell hzero
        go_wp2_with fail
        refine HSV.out.mono ?_
        rintro e2 w' ⟨v, rfl, hO⟩
        obtain ⟨T2, W4, hT2, hup, hLf, _⟩ := HMID.out w' v hO
        have HLf := Lib.hid (HLEFT.out W4 hLf)
        obtain ⟨A2, c2', hv2, _, _⟩ := hO.form E HTL.out
        subst hv2
        have hI2 := HD.out w' hO.1
        have hlk2 := HLK.out w' hO.1
        obtain ⟨d0, d1, d2, d3, d4, d5, d6, d7⟩ := Dsk.cells hI2.dsk
        have z2 := Dsk.free hI2.dsk 2
        have d2' : w'.cell? ⟨g, 2, none⟩ = some (.int .i64 (T : Int)) := by rw [← HTT.out]; exact d2
        clear d2
        have y2 := fun o => cell_past d2' o
        have y1 := fun o => cell_past d1 o
        have e1 : (T : Int) - ((L : Int) - (E : Int)) = (T2 : Int) := by omega
        have e2 : IntKind.i64.wrap ((L : Int) - (E : Int)) = (L : Int) - (E : Int) := IntWalk.i64_in _ (by omega)
        have e3 : IntKind.i64.wrap (T2 : Int) = (T2 : Int) := IntWalk.i64_in _ (by omega)
        have hgw := hI2.dsk.lt
        have e4 : wrap64 (T2 : Int) = (T2 : Int) := wrap64_in _ (by omega) (by omega)
        have e5 : wrap64 ((L : Int) - (E : Int)) = (L : Int) - (E : Int) := wrap64_in _ (by omega) (by omega)
        clear hO hI2 hLf hT2 HMID HLEFT HSV HD HLK
        go_wp2_with fail
        go_region
        go_wp2_with fail
        go_region
        go_wp2
        go_roundw
        case rel => exact ⟨k + 1, by omega, by go_num, HLf.out⟩
        case measure => simp [intOf]; omega
      · obtain rfl := hzero hkn
        clear hcell hzero
        go_wp2_with fail
        refine HSV.out.mono ?_
        rintro e2 w' ⟨v, rfl, hO⟩
        obtain ⟨T2, W4, hT2, hup, hLf, _⟩ := HMID.out w' v hO
        have HLf := Lib.hid (HLEFT.out W4 hLf)
        obtain ⟨A2, c2', hv2, _, _⟩ := hO.form E HTL.out
        subst hv2
        have hI2 := HD.out w' hO.1
        have hlk2 := HLK.out w' hO.1
        obtain ⟨d0, d1, d2, d3, d4, d5, d6, d7⟩ := Dsk.cells hI2.dsk
        have z2 := Dsk.free hI2.dsk 2
        have d2' : w'.cell? ⟨g, 2, none⟩ = some (.int .i64 (T : Int)) := by rw [← HTT.out]; exact d2
        clear d2
        have y2 := fun o => cell_past d2' o
        have y1 := fun o => cell_past d1 o
        have e1 : (T : Int) - ((L : Int) - (E : Int)) = (T2 : Int) := by omega
        have e2 : IntKind.i64.wrap ((L : Int) - (E : Int)) = (L : Int) - (E : Int) := IntWalk.i64_in _ (by omega)
        have e3 : IntKind.i64.wrap (T2 : Int) = (T2 : Int) := IntWalk.i64_in _ (by omega)
        have hgw := hI2.dsk.lt
        have e4 : wrap64 (T2 : Int) = (T2 : Int) := wrap64_in _ (by omega) (by omega)
        have e5 : wrap64 ((L : Int) - (E : Int)) = (L : Int) - (E : Int) := wrap64_in _ (by omega) (by omega)
        clear hO hI2 hLf hT2 HMID HLEFT HSV HD HLK
        go_wp2_with fail
        go_region
        go_wp2_with fail
        go_region
        go_wp2
        go_roundw
        case rel => exact ⟨k + 1, by omega, by go_num, HLf.out⟩
        case measure => simp [intOf]; omega
    · obtain rfl : k = m.length := by omega
      have hS : ({ ({ t with fs := crashTo m.length ks t.fs } : St) with off := false, fail := none, arm := none } : St) = stCrash ks t := by
        unfold stCrash
        rw [← HI1.out.len]
      obtain ⟨c0, c1, c2, c3, c4, c5, c6, c7⟩ := Dsk.cells hI'.dsk
      have z3 := Dsk.free hI'.dsk 3
      have z4 := Dsk.free hI'.dsk 4
      have z5 := Dsk.free hI'.dsk 5
      have z6 := Dsk.free hI'.dsk 6
      have z7 := Dsk.free hI'.dsk 7
      have hRS := hI'.restart
      rw [hS] at hRS
      have HF := Lib.hid (show Left w g b m (stCrash ks t) _ from Left.after (Fr.below (S := []) HB.out) (by simp) (Left.trans hF' hb' ⟨m', hRS.1, hRS.2.mono (by simp), fun i hi => .inl hi⟩))
      clear hI' hF' hb' hRS hS
      go_wp2
      go_end0
      exact ⟨rfl, HF.out⟩
end Go.Proofs.YtejphnbhcabchaaGreat.Dk
