/-
  The document's own disk: Crash. Conditions: it lies in memory as it was made (Rf); keep can be read, and lies elsewhere.
-/
import Derived.Test.YthdpdhjhpbkhaaaDiskRefG
import Derived.Test.YthdpdhjhpbkhaaaDiskRefE
import Derived.BigRegion
namespace Go.Proofs.Ythdpdhjhpbkhaaa.Dk
open Go.RowKit Go.Proofs.Ythdpdhjhpbkhaaa.Fld
set_option linter.unusedVariables false

/-- 's[:u]' -/
theorem run_toB (A : Option Addr) (n cap u : Nat) (hA : A = none → cap = 0) (hu : u ≤ cap) (W : World) : (Instr.slice 33 (.slice A n cap) none (some (.int .i64 (u : Int))) none).run Try.prog W = .ok (.slice A u cap) W := by
  cases A with
  | some a =>
    have h1 : (0 : Int) ≤ (u : Int) := by omega
    have h3 : (u : Int) ≤ (cap : Int) := by omega
    go_simp
  | none =>
    obtain rfl := hA rfl
    obtain rfl : u = 0 := by omega
    go_simp
/-- the first store of a round -/
theorem rcr_one {w : World} {r q cap : Nat} {m : List Ent} {t : St} {e : Ent} {BA : Option Addr} {bc : Nat} (h : Rf w r (.slice (some ⟨q, 0, none⟩) m.length cap) m t) (k : Nat) (hk : k < m.length) (hke : m[k] = e) (hbv : e.v = .slice BA e.zs.length bc) (E : Nat) (hE : E ≤ e.zs.length) (hsE : e.s ≤ E) :
    Rf (w.setCell ⟨q, k * 3 + 1, none⟩ (.slice BA E bc)).drew r (.slice (some ⟨q, 0, none⟩) m.length cap) (m.set k ⟨e.nm, .slice BA E bc, e.zs.take E, e.s⟩) { t with fs := fput (e.nm, e.zs.take E, e.s) t.fs } ∧ Fr [q] w (w.setCell ⟨q, k * 3 + 1, none⟩ (.slice BA E bc)).drew := by
  have hmem : e ∈ m := by rw [← hke]; exact List.getElem_mem hk
  have hbs : Sl w BA e.zs.length bc e.zs := by
    obtain ⟨A', c', hv', hs'⟩ := h.byt e hmem
    rw [hbv] at hv'
    injection hv' with e1 _ e3
    rw [e1, e3]; exact hs'
  have hfm : e.fil ∈ t.fs := by rw [h.fs]; exact List.mem_map_of_mem hmem
  have hg : fget e.nm t.fs = some e.fil := get_mem h.good.up hfm
  have hgood : Good { t with fs := fput (e.nm, e.zs.take E, e.s) t.fs } := by
    refine h.good.put (e.nm, e.zs.take E, e.s) (h.good.name e.fil hfm) ?_ ?_ ?_
    · simp only [List.length_take]; omega
    · intro c hc; exact h.good.byte e.fil hfm c (List.mem_of_mem_take hc)
    · rw [total_put]
      have h1 := total_del h.good.up hg
      have h2 := h.good.fits
      have h3 : e.fil.2.1.length = e.zs.length := rfl
      simp only [List.length_take]
      omega
  have ho := h.old hmem
  refine h.stored (w' := (w.setCell ⟨q, k * 3 + 1, none⟩ (.slice BA E bc)).drew) (t' := { t with fs := fput (e.nm, e.zs.take E, e.s) t.fs }) ⟨e.nm, .slice BA E bc, e.zs.take E, e.s⟩ k 1 (.slice BA E bc) (by omega) hk (by rw [hke]; simp [cells3]) (by rw [hke]) rfl rfl rfl rfl rfl hgood rfl rfl rfl rfl ⟨?_, ?_⟩
  · have hl : (e.zs.take E).length = E := by rw [List.length_take]; omega
    refine ⟨BA, bc, by simp only [hl], ?_⟩
    simp only [hl]
    exact ⟨hbs.1.cut E hE, by have := hbs.2.1; omega, hbs.2.2⟩
  · intro i hi
    have hi2 : e.v.ownBlock = some i := by rw [hbv]; cases BA <;> simp_all [Value.ownBlock]
    exact ⟨(ho.2 i hi2).1, (ho.2 i hi2).2, fun hh => (h.ne.2 i (mem_blks.2 ⟨e, hmem, hi2⟩)).2 (by rw [hh]; rfl)⟩
/-- the second one -/
theorem rcr_two {w : World} {r q cap : Nat} {m : List Ent} {t : St} {e : Ent} (h : Rf w r (.slice (some ⟨q, 0, none⟩) m.length cap) m t) (k : Nat) (hk : k < m.length) (hke : m[k] = e) :
    Rf (w.setCell ⟨q, k * 3 + 2, none⟩ (.int .i64 (e.zs.length : Int))).drew r (.slice (some ⟨q, 0, none⟩) m.length cap) (m.set k ⟨e.nm, e.v, e.zs, e.zs.length⟩) { t with fs := fput (e.nm, e.zs, e.zs.length) t.fs } ∧ Fr [q] w (w.setCell ⟨q, k * 3 + 2, none⟩ (.int .i64 (e.zs.length : Int))).drew := by
  have hmem : e ∈ m := by rw [← hke]; exact List.getElem_mem hk
  have hfm : e.fil ∈ t.fs := by rw [h.fs]; exact List.mem_map_of_mem hmem
  have hg : fget e.nm t.fs = some e.fil := get_mem h.good.up hfm
  have ho := h.old hmem
  exact h.stored (w' := (w.setCell ⟨q, k * 3 + 2, none⟩ (.int .i64 (e.zs.length : Int))).drew) (t' := { t with fs := fput (e.nm, e.zs, e.zs.length) t.fs }) ⟨e.nm, e.v, e.zs, e.zs.length⟩ k 2 (.int .i64 (e.zs.length : Int)) (by omega) hk (by rw [hke]; simp [cells3]) (by rw [hke]) rfl rfl rfl rfl rfl (h.good.sync hg) rfl rfl rfl rfl
    ⟨ho.1, fun i hi => ⟨(ho.2 i hi).1, (ho.2 i hi).2, fun hh => (h.ne.2 i (mem_blks.2 ⟨e, hmem, hi⟩)).2 (by rw [hh]; rfl)⟩⟩
def RcR (w : World) (r q cap M : Nat) (m : List Ent) (t : St) (ks : List Int) (i : Value) (wr : World) : Prop :=
  ∃ k : Nat, k ≤ M ∧ i = .int .i64 (k : Int) ∧ ∃ mi, mi.length = M ∧ Rf wr r (.slice (some ⟨q, 0, none⟩) mi.length cap) mi { t with fs := crashTo k ks t.fs } ∧ Fr [q] w wr ∧ ∀ j ∈ blks mi, j ∈ blks m
theorem crash_next {t : St} {k : Nat} {ks : List Int} {e : Ent} (hu : Up Prod.fst (crashTo k ks t.fs)) (hf : t.fs[k]? = some e.fil) (E : Nat) (hE : E = stays (ks.getD k 0) e.fil) (hEl : E ≤ e.zs.length) :
    fput (e.nm, e.zs.take E, (e.zs.take E).length) (fput (e.nm, e.zs.take E, e.s) (crashTo k ks t.fs)) = crashTo (k + 1) ks t.fs := by
  rw [crash_step k ks t.fs hu e.fil hf, List.length_take, Nat.min_eq_left hEl]
  rw [show crash1 (ks.getD k 0) e.fil = (e.nm, e.zs.take E, E) by rw [hE]; rfl]
  exact fput_fput e.nm (e.zs.take E, e.s) (e.zs.take E, E) (crashTo k ks t.fs)
theorem blks_set {m m0 : List Ent} {k : Nat} {e : Ent} (h : ∀ j ∈ blks m, j ∈ blks m0) (he : ∀ i, e.v.ownBlock = some i → i ∈ blks m) : ∀ j ∈ blks (m.set k e), j ∈ blks m0 := by
  intro j hj
  obtain ⟨a, ha, hv⟩ := mem_blks.1 hj
  rcases List.mem_or_eq_of_mem_set ha with ha | rfl
  · exact h j (mem_blks.2 ⟨a, ha, hv⟩)
  · exact h j (he j hv)
set_option maxRecDepth 100000 in
set_option maxHeartbeats 6400000 in
theorem rcrash_some (r q lcap : Nat) (m : List Ent) (t : St) (A : Option Addr) (n cap : Nat) (ks : List Int) (w : World) (h : Rf w r (.slice (some ⟨q, 0, none⟩) m.length lcap) m t) (hm : t.fs.length ≤ 1000000) (hk : RdI w A n ks) (hAb : 0 < n → ∀ a, A = some a → a.block ≠ q) :
    Calls Try.prog 33 #[.pointer (some ⟨r, 0, none⟩), .slice A n cap] w fun e w' => e = .returned (.tuple #[]) ∧ RL2 w r (.slice (some ⟨q, 0, none⟩) m.length lcap) m (stCrash ks t) w' := by
  have hml : m.length ≤ 1000000 := by rw [h.len]; exact hm
  have hnm := hk.2.1
  unfold maxLen at hnm
  have HFSL := Lib.hid h.len
  obtain ⟨M, hM⟩ : ∃ M, M = m.length := ⟨_, rfl⟩
  rw [← hM] at hml h HFSL
  have HM := Lib.hid hM
  have HK := Lib.hid hk
  have HAB := Lib.hid hAb
  have HT0 := Lib.hid (show RcR w r q lcap M m t ks (.int .i64 ((0 : Nat) : Int)) w from ⟨0, by omega, rfl, m, hM.symm, by rw [crashTo_zero, ← hM]; exact h, Fr.refl _ _, fun _ h => h⟩)
  clear h hk hAb hM
  go_enter Try.func33, Try.ntmps33
  go_wp2
  go_loopw [4] (fun i wr => RcR w r q lcap M m t ks i wr) (fun i _ => M - (intOf i).toNat)
  case atStart => exact HT0.out
  case round =>
    obtain ⟨k, hk, rfl, mi, hmi, hR, hF, hsub⟩ := hrel
    have HR := Lib.hid hR
    have HF := Lib.hid hF
    have HSUB := Lib.hid hsub
    have HMI := Lib.hid hmi
    obtain ⟨A5, cap5, hv5, hd, _⟩ := hR.form
    cases hv5
    obtain ⟨c0, c1, c2, c3, c4⟩ := hd.cells
    rw [hmi] at c1
    have HD := Lib.hid hd
    clear hR hF hsub hd hmi HT0
    by_cases hlt : k < M
    · have hkm : k < mi.length := by rw [HMI.out]; exact hlt
      obtain ⟨q2, cap2, hv2, hc1, hc2, k0, k1, k2, kf⟩ := HR.out.cell k hkm
      cases hv2
      obtain ⟨e, hke⟩ : ∃ e, e = mi[k] := ⟨_, rfl⟩
      obtain ⟨BA, bc, hbv, hbs⟩ := HR.out.byt mi[k] (List.getElem_mem hkm)
      rw [← hke] at hbv hbs k0 k1 k2
      rw [hbv] at k1
      have HKE := Lib.hid hke.symm
      have HBV := Lib.hid hbv
      have HBS := Lib.hid hbs
      have hmem : e ∈ mi := by rw [hke]; exact List.getElem_mem hkm
      have hfm : e.fil ∈ crashTo k ks t.fs := by
        have h1 : crashTo k ks t.fs = mi.map Ent.fil := HR.out.fs
        rw [h1]; exact List.mem_map_of_mem hmem
      have hsy : e.s ≤ e.zs.length := HR.out.good.synced e.fil hfm
      have htf : t.fs[k]? = some e.fil := by
        have h1 : crashTo k ks t.fs = mi.map Ent.fil := HR.out.fs
        have h2 := crashTo_at k ks t.fs k
        rw [h1, List.getElem?_map, List.getElem?_eq_getElem hkm, ← hke] at h2
        cases hq : t.fs[k]? with
        | none => rw [hq] at h2; simp at h2
        | some f => rw [hq] at h2; simp at h2; rw [h2]
      obtain ⟨E, hE⟩ : ∃ E, E = stays (ks.getD k 0) e.fil := ⟨_, rfl⟩
      have hEl : E ≤ e.zs.length := by
        rw [hE]; unfold stays
        have h3 : e.fil.2.1.length = e.zs.length := rfl
        have h4 : e.fil.2.2 = e.s := rfl
        rw [h3, h4]; omega
      have hsE : e.s ≤ E := by rw [hE]; unfold stays; have h4 : e.fil.2.2 = e.s := rfl; rw [h4]; omega
      have HE := Lib.hid hE
      have hz16 : e.zs.length ≤ 16777216 := by
        have h1 := total_del (f := e.fil) HR.out.good.up (x := e.nm) (get_mem HR.out.good.up hfm)
        have h2 := HR.out.good.fits
        have h5 := HR.out.good.room2
        have h3 : e.fil.2.1.length = e.zs.length := rfl
        simp only at h1 h2 h5
        omega
      have hnn : (E : Int) = (e.s : Int) + max 0 (min (ks.getD k 0) ((e.zs.length : Int) - (e.s : Int))) := by
        rw [hE]; unfold stays
        have h3 : e.fil.2.1.length = e.zs.length := rfl
        have h4 : e.fil.2.2 = e.s := rfl
        rw [h3, h4]; omega
      have HNX := Lib.hid (crash_next (e := e) HR.out.good.up htf E hE hEl)
      have HONE := Lib.hid (fun (W : World) (hR : Rf W r (.slice (some ⟨q, 0, none⟩) mi.length lcap) mi { t with fs := crashTo k ks t.fs }) => rcr_one hR k hkm HKE.out hbv E hEl hsE)
      have HTL := Lib.hid (show (e.zs.take E).length = E by rw [List.length_take]; omega)
      have HFI := Lib.hid (show ∀ i, (Value.slice BA E bc).ownBlock = some i → i ∈ blks mi by
        intro i hi
        have hi2 : e.v.ownBlock = some i := by rw [hbv]; cases BA <;> simp_all [Value.ownBlock]
        exact mem_blks.2 ⟨e, hmem, hi2⟩)
      have z1 := kf (k * 3 + 1)
      have z2 := kf (k * 3 + 2)
      have hrq : r ≠ q := fun hh => HR.out.ne.1 (by rw [hh]; rfl)
      clear kf hbv hbs hke hmem hfm htf hE
      have i0 : (0 : Int) ≤ (k : Int) := by omega
      have i1 : (k : Int) < (M : Int) := by omega
      obtain ⟨Z, hZ⟩ : ∃ Z : Int, Z = max 0 (min (ks.getD k 0) ((e.zs.length : Int) - (e.s : Int))) := ⟨_, rfl⟩
      rw [← hZ] at hnn
      have HZ := Lib.hid hZ
      clear hZ
      generalize hL : e.zs.length = L at *
      generalize hS : e.s = S at *
      have HL := Lib.hid hL
      have HSS := Lib.hid hS
      clear hL hS
      have w1 : IntKind.i64.wrap ((L : Int) - (S : Int)) = (L : Int) - (S : Int) := IntWalk.i64_in _ (by omega)
      by_cases hkn : k < n
      · obtain ⟨kb, ko, rfl, hkc⟩ := (HK.out.fr HF.out (fun h a ha => by simpa using HAB.out h a ha)).2.2 (by omega)
        have hkk := hkc k hkn
        clear hkc
        have j1 : (k : Int) < (n : Int) := by omega
        generalize ks.getD k 0 = KK at *
        go_wp2_with fail
        go_quiet (fail)
        rw [← HZ.out]
        have HRQ := Lib.hid (show Rf (wr.drewN nq) r (.slice (some ⟨q, 0, none⟩) mi.length lcap) mi { t with fs := crashTo k ks t.fs } from HR.out.of_blocks fun i _ => by rw [(Still.drewN (Still.refl wr) nq).1])
        have HFQ := Lib.hid (show Fr [q] w (wr.drewN nq) from HF.out.same ⟨rfl, rfl, rfl, Nat.le_refl _, fun _ _ _ => rfl⟩)
        clear c0 c1 c2 c3 c4 k0 k1 k2 z1 z2 hkk w1
        generalize wr.drewN nq = wq at *
        have g1 : (0 : Int) ≤ (S : Int) + Z := by omega
        have g2 : (S : Int) + Z ≤ (bc : Int) := by have := HBS.out.2.1; omega
        have g3 : ((S : Int) + Z).toNat = E := by omega
        clear hnn
        have kq1 := HRQ.out.cell k hkm
        obtain ⟨q9, cap9, hv9, _, _, _, y1, y2, yf⟩ := kq1
        cases hv9
        rw [HKE.out] at y1 y2
        rw [HBV.out] at y1
        rw [HSS.out] at y2
        have yz := yf (k * 3 + 1)
        obtain ⟨A8, cap8, hv8, hd8, _⟩ := HRQ.out.form
        cases hv8
        have x1 := hd8.cells.2.1
        rw [HMI.out] at x1
        have r1 := run_toB BA L bc E (HBS.out.2.2.2.1) (by have := HBS.out.2.1; omega)
        have HO1 := Lib.hid (HONE.out wq HRQ.out)
        clear hd8 yf
        go_wp2_with fail
        go_region
        clear r1 x1 y1 y2 yz
        generalize (wq.setCell _ _).drew = w6 at HO1 ⊢
        have HR6 := Lib.hid (show Rf w6 r (.slice (some ⟨q, 0, none⟩) (mi.set k ⟨e.nm, .slice BA E bc, e.zs.take E, e.s⟩).length lcap) (mi.set k ⟨e.nm, .slice BA E bc, e.zs.take E, e.s⟩) { t with fs := fput (e.nm, e.zs.take E, e.s) (crashTo k ks t.fs) } by rw [List.length_set]; rw [HSS.out]; exact HO1.out.1)
        have HF6 := Lib.hid HO1.out.2
        have HSE := Lib.hid (show (mi.set k ⟨e.nm, .slice BA E bc, e.zs.take E, e.s⟩)[k]'(by rw [List.length_set]; exact hkm) = ⟨e.nm, .slice BA E bc, e.zs.take E, e.s⟩ by simp)
        have HTWO := Lib.hid (rcr_two HR6.out k (by rw [List.length_set]; exact hkm) HSE.out)
        obtain ⟨q10, cap10, hv10, _, _, _, y1, y2, yf⟩ := HR6.out.cell k (by rw [List.length_set]; exact hkm)
        cases hv10
        rw [HSE.out] at y1 y2
        have yz := yf (k * 3 + 2)
        obtain ⟨A11, cap11, hv11, hd11, _⟩ := HR6.out.form
        cases hv11
        have x1 := hd11.cells.2.1
        rw [List.length_set, HMI.out] at x1
        simp only at y1 y2
        simp only [HTL.out] at HTWO
        clear hd11 yf HO1
        go_wp2_with fail
        go_region
        clear x1 y1 y2 yz
        generalize (w6.setCell _ _).drew = w7 at HTWO ⊢
        go_wp2
        go_roundw
        case rel =>
          refine ⟨k + 1, by omega, by go_num, (mi.set k ⟨e.nm, .slice BA E bc, e.zs.take E, e.s⟩).set k ⟨e.nm, .slice BA E bc, e.zs.take E, E⟩, ?_, ?_, ?_, ?_⟩
          · rw [List.length_set, List.length_set]; exact HMI.out
          · have h1 := HTWO.out.1
            have h2 : fput (e.nm, e.zs.take E, E) (fput (e.nm, e.zs.take E, e.s) (crashTo k ks t.fs)) = crashTo (k + 1) ks t.fs := by
              have h3 := HNX.out
              rw [HTL.out] at h3
              rw [HSS.out]
              exact h3
            simp only [List.length_set] at h1 ⊢
            rw [h2] at h1
            exact h1
          · exact (HFQ.out.same HF6.out).same HTWO.out.2
          · exact blks_set (blks_set HSUB.out HFI.out) (fun i hi => mem_blks.2 ⟨⟨e.nm, .slice BA E bc, e.zs.take E, e.s⟩, List.mem_iff_getElem.2 ⟨k, by rw [List.length_set]; exact hkm, HSE.out⟩, hi⟩)
        case measure => simp [intOf]; omega
      · have hK0 : ks.getD k 0 = 0 := by rw [List.getD_eq_getElem?_getD, List.getElem?_eq_none (by rw [HK.out.1]; omega)]; rfl
        have hZ0 : Z = 0 := by rw [HZ.out, hK0]; omega
        have hES : E = S := by omega
        subst hES
        have j1 : ¬ (k : Int) < (n : Int) := by omega
        obtain ⟨wq, hwq⟩ : ∃ wq, wq = wr := ⟨_, rfl⟩
        have HRQ := Lib.hid (show Rf wq r (.slice (some ⟨q, 0, none⟩) mi.length lcap) mi { t with fs := crashTo k ks t.fs } by rw [hwq]; exact HR.out)
        have HFQ := Lib.hid (show Fr [q] w wq by rw [hwq]; exact HF.out)
        clear hK0 hZ0 HZ w1 hnn
        go_wp2_with fail
        clear c0 c1 c2 c3 c4 k0 k1 k2 z1 z2
        subst hwq
        have w2 : IntKind.i64.wrap (E : Int) = (E : Int) := IntWalk.i64_in _ (by omega)
        have kq1 := HRQ.out.cell k hkm
        obtain ⟨q9, cap9, hv9, _, _, _, y1, y2, yf⟩ := kq1
        cases hv9
        rw [HKE.out] at y1 y2
        rw [HBV.out] at y1
        rw [HSS.out] at y2
        have yz := yf (k * 3 + 1)
        obtain ⟨A8, cap8, hv8, hd8, _⟩ := HRQ.out.form
        cases hv8
        have x1 := hd8.cells.2.1
        rw [HMI.out] at x1
        have r1 := run_toB BA L bc E (HBS.out.2.2.2.1) (by have := HBS.out.2.1; omega)
        have HO1 := Lib.hid (HONE.out wq HRQ.out)
        clear hd8 yf
        go_wp2_with fail
        go_region
        clear r1 x1 y1 y2 yz
        generalize (wq.setCell _ _).drew = w6 at HO1 ⊢
        have HR6 := Lib.hid (show Rf w6 r (.slice (some ⟨q, 0, none⟩) (mi.set k ⟨e.nm, .slice BA E bc, e.zs.take E, e.s⟩).length lcap) (mi.set k ⟨e.nm, .slice BA E bc, e.zs.take E, e.s⟩) { t with fs := fput (e.nm, e.zs.take E, e.s) (crashTo k ks t.fs) } by rw [List.length_set]; rw [HSS.out]; exact HO1.out.1)
        have HF6 := Lib.hid HO1.out.2
        have HSE := Lib.hid (show (mi.set k ⟨e.nm, .slice BA E bc, e.zs.take E, e.s⟩)[k]'(by rw [List.length_set]; exact hkm) = ⟨e.nm, .slice BA E bc, e.zs.take E, e.s⟩ by simp)
        have HTWO := Lib.hid (rcr_two HR6.out k (by rw [List.length_set]; exact hkm) HSE.out)
        obtain ⟨q10, cap10, hv10, _, _, _, y1, y2, yf⟩ := HR6.out.cell k (by rw [List.length_set]; exact hkm)
        cases hv10
        rw [HSE.out] at y1 y2
        have yz := yf (k * 3 + 2)
        obtain ⟨A11, cap11, hv11, hd11, _⟩ := HR6.out.form
        cases hv11
        have x1 := hd11.cells.2.1
        rw [List.length_set, HMI.out] at x1
        simp only at y1 y2
        simp only [HTL.out] at HTWO
        clear hd11 yf HO1
        go_wp2_with fail
        go_region
        clear x1 y1 y2 yz
        generalize (w6.setCell _ _).drew = w7 at HTWO ⊢
        go_wp2
        go_roundw
        case rel =>
          refine ⟨k + 1, by omega, by go_num, (mi.set k ⟨e.nm, .slice BA E bc, e.zs.take E, e.s⟩).set k ⟨e.nm, .slice BA E bc, e.zs.take E, E⟩, ?_, ?_, ?_, ?_⟩
          · rw [List.length_set, List.length_set]; exact HMI.out
          · have h1 := HTWO.out.1
            have h2 : fput (e.nm, e.zs.take E, E) (fput (e.nm, e.zs.take E, e.s) (crashTo k ks t.fs)) = crashTo (k + 1) ks t.fs := by
              have h3 := HNX.out
              rw [HTL.out] at h3
              rw [HSS.out]
              exact h3
            simp only [List.length_set] at h1 ⊢
            rw [h2] at h1
            exact h1
          · exact (HFQ.out.same HF6.out).same HTWO.out.2
          · exact blks_set (blks_set HSUB.out HFI.out) (fun i hi => mem_blks.2 ⟨⟨e.nm, .slice BA E bc, e.zs.take E, e.s⟩, List.mem_iff_getElem.2 ⟨k, by rw [List.length_set]; exact hkm, HSE.out⟩, hi⟩)
        case measure => simp [intOf]; omega
    · obtain rfl : k = M := by omega
      have f2 := HD.out.free 2
      have f3 := HD.out.free 3
      have f4 := HD.out.free 4
      have hr := HR.out.restart
      have HRS := Lib.hid hr
      clear hr
      go_wp2
      go_end0
      refine ⟨rfl, .slice (some ⟨q, 0, none⟩) mi.length lcap, mi, ?_, ?_, ?_⟩
      · have h1 := HRS.out.1
        have h2 : ({ ({ t with fs := crashTo k ks t.fs } : St) with off := false, fail := none, arm := none } : St) = stCrash ks t := by unfold stCrash; rw [← HFSL.out]
        rw [h2] at h1
        exact h1
      · have h1 : Fr (rfoot r (.slice (some ⟨q, 0, none⟩) m.length lcap) m) w wr := HF.out.mono (by simp [rfoot, Value.ownBlock])
        exact h1.same (HRS.out.2.mono (by simp [rfoot]))
      · intro i hi
        refine .inl ?_
        simp only [rfoot, List.mem_cons, List.mem_append] at hi ⊢
        rcases hi with hi | hi | hi
        · exact .inl hi
        · exact .inr (.inl hi)
        · exact .inr (.inr (HSUB.out i hi))
/-- Crash, whatever the files -/
theorem rcrash_any (r : Nat) (lv : Value) (m : List Ent) (t : St) (A : Option Addr) (n cap : Nat) (ks : List Int) (w : World) (h : Rf w r lv m t) (hm : t.fs.length ≤ 1000000) (hk : RdI w A n ks) (hAb : 0 < n → ∀ a, A = some a → a.block ∉ rfoot r lv m) :
    Calls Try.prog 33 #[.pointer (some ⟨r, 0, none⟩), .slice A n cap] w fun e w' => e = .returned (.tuple #[]) ∧ RL2 w r lv m (stCrash ks t) w' := by
  rcases h.row.2 with ⟨rfl, h0⟩ | ⟨q, lcap, cur, rfl, _, _, _⟩
  · obtain rfl : m = [] := List.eq_nil_of_length_eq_zero h0
    exact (rcrash_none r (.slice none 0 0) t A n cap ks w h).mono fun e w' hh => ⟨hh.1, hh.2.two⟩
  · exact rcrash_some r q lcap m t A n cap ks w h hm hk (fun hn a ha hq => hAb hn a ha (by rw [hq]; simp [rfoot, Value.ownBlock]))
end Go.Proofs.Ythdpdhjhpbkhaaa.Dk
