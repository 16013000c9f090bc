/-
  Layer 7: the document's own write, over the document's own disk. Conditions: the disk lies in memory as it was made, and the bytes can be read.
-/
import Derived.Test.YtejphnbhcabchaaGreatRefOne
import Derived.Test.YtejphnbhcabchaaGreatKeepOne
namespace Go.Proofs.YtejphnbhcabchaaGreat.Kp
open Go.RowKit Go.Proofs.YtejphnbhcabchaaGreat.Dk Go.Proofs.YtejphnbhcabchaaGreat.Fld
set_option linter.unusedVariables false

theorem rapp_all (r : Nat) (lv : Value) (m : List Ent) (t : St) (s : ByteArray) (A : Option Addr) (n cap : Nat) (ys : List Int) (w : World) (h : Rf w r lv m t) (hm : t.fs.length ≤ 900000) (hs : s.size ≤ maxLen) (hr : Rd w A n ys) (hA : A = none → cap = 0) (hAb : 0 < n → ∀ a, A = some a → a.block ∉ rfoot r lv m) (hn : n ≤ 140737488355328) :
    Calls Tryz.prog 22 #[.pointer (some ⟨r, 0, none⟩), .string s, .slice A n cap] w (RDid2 w r lv m (stAppend s.data.toList ys t)) := by
  by_cases h1 : okN s.data.toList = false ∨ (chg t).1 ≠ 0 ∨ t.room < total t.fs + n
  · exact (rapp_not r lv m t s A n cap ys w h (by omega) hs hn hr.1 h1).mono fun _ _ hh => hh.two
  · simp only [not_or] at h1
    exact rapp_made r lv m t s A n cap ys w h hm hs hr hA hAb (by simpa using h1.1) (by have := h1.2.1; omega) (by have := h1.2.2; omega)
/-- the blocks that may change, and those that may change then -/
structure FootL (S S' : List Nat) (w w' : World) : Prop where
  fr : Dk.Fr S w w'
  sub : ∀ i ∈ S', i ∈ S ∨ w.heap.size ≤ i
theorem FootL.trans {S S1 S2 : List Nat} {w w1 w2 : World} (h : FootL S S1 w w1) (k : FootL S1 S2 w1 w2) : FootL S S2 w w2 := by
  refine ⟨h.fr.trans k.fr h.sub, fun i hi => ?_⟩
  rcases k.sub i hi with h1 | h1
  · exact h.sub i h1
  · exact .inr (Nat.le_trans h.fr.size h1)
theorem FootL.below {w w1 : World} (S : List Nat) (hb : Below w.heap.size w w1) : FootL S S w w1 := ⟨Dk.Fr.below hb, fun _ h => .inl h⟩
theorem FootL.of {w w' : World} {r : Nat} {lv : Value} {m : List Ent} {t : St} (h : RL2 w r lv m t w') : ∃ lv' m', Rf w' r lv' m' t ∧ FootL (rfoot r lv m) (rfoot r lv' m') w w' := by
  obtain ⟨lv', m', h1, h2, h3⟩ := h
  exact ⟨lv', m', h1, h2, h3⟩
theorem FootL.to {w w' : World} {r : Nat} {lv lv' : Value} {m m' : List Ent} {t : St} (h1 : Rf w' r lv' m' t) (h : FootL (rfoot r lv m) (rfoot r lv' m') w w') : RL2 w r lv m t w' := ⟨lv', m', h1, h.fr, h.sub⟩
def Ap (S : List Nat) (w : World) (A : Option Addr) (n : Nat) (zs : List Int) : Prop := Rd w A n zs ∧ (0 < n → ∀ a, A = some a → a.block ∉ S)
theorem Ap.left {S S' : List Nat} {w w' : World} {A : Option Addr} {n : Nat} {zs : List Int} (hA : Ap S w A n zs) (h : FootL S S' w w') : Ap S' w' A n zs := by
  refine ⟨rd_frS hA.1 h.fr hA.2, fun hn a ha hm => ?_⟩
  have hno := hA.2 hn a ha
  rcases h.sub _ hm with h4 | h4
  · exact hno h4
  · obtain ⟨bb, off, e, hc⟩ := hA.1.2.2.2 hn
    rw [ha] at e
    injection e with e
    have := lt_of_cell (hc 0 hn)
    rw [e] at h4
    simp only at h4 this
    omega
def ApS (S : List Nat) (w : World) (A : Option Addr) (n : Nat) (ss : List ByteArray) : Prop := RdS w A n ss ∧ (0 < n → ∀ a, A = some a → a.block ∉ S)
theorem ApS.left {S S' : List Nat} {w w' : World} {A : Option Addr} {n : Nat} {ss : List ByteArray} (hA : ApS S w A n ss) (h : FootL S S' w w') : ApS S' w' A n ss := by
  obtain ⟨⟨h1, h2, h3⟩, hno⟩ := hA
  refine ⟨⟨h1, h2, fun hn => ?_⟩, fun hn a ha hm => ?_⟩
  · obtain ⟨b, off, e, hc⟩ := h3 hn
    exact ⟨b, off, e, fun i hi => h.fr.cell (hc i hi) (show b ∉ S from hno hn _ e)⟩
  · rcases h.sub _ hm with h4 | h4
    · exact hno hn a ha h4
    · obtain ⟨bb, off, e, hc⟩ := h3 hn
      rw [ha] at e
      injection e with e
      have := lt_of_cell (hc 0 hn)
      rw [e] at h4
      simp only at h4 this
      omega
theorem rf_below {w w' : World} {r : Nat} {lv : Value} {m : List Ent} {t : St} (h : Rf w r lv m t) (hb : Below w.heap.size w w') : Rf w' r lv m t := h.of_blocks fun i hi => hb.block i (h.foot_lt i hi)
theorem get_fil (m : List Ent) (x : Nm) : (Dk.get Ent.nm x m).isSome = (fget x (m.map Ent.fil)).isSome := by
  unfold fget Dk.get
  rw [List.find?_map, Option.isSome_map]
  rfl
def nmS (m : List Ent) : List ByteArray := m.map fun e => ⟨e.nm.toArray⟩
theorem nm_list (y : Nm) : (⟨y.toArray⟩ : ByteArray).toList = y := by rw [ByteArray.toList_eq]
theorem nmS_at (m : List Ent) (k : Nat) (hk : k < m.length) : (nmS m).getD k ⟨#[]⟩ = ⟨m[k].nm.toArray⟩ := by simp [nmS, hk]
/-- no name stands twice -/
theorem once {m : List Ent} (hu : Up Ent.nm m) (k : Nat) (hk : k < m.length) : hasS ((nmS m).take k) ((nmS m).getD k ⟨#[]⟩) = false := by
  cases hb : hasS ((nmS m).take k) ((nmS m).getD k ⟨#[]⟩) with
  | false => rfl
  | true =>
    exfalso
    unfold hasS at hb
    rw [List.any_eq_true] at hb
    obtain ⟨y, hy, he⟩ := hb
    obtain ⟨j, hj, rfl⟩ := List.getElem_of_mem hy
    have hj2 : j < k ∧ j < m.length := by
      rw [List.length_take] at hj
      simp only [nmS, List.length_map] at hj
      omega
    rw [nmS_at m k hk] at he
    have e2 : ((nmS m).take k)[j] = ⟨m[j].nm.toArray⟩ := by simp [nmS]
    rw [e2, nm_list, nm_list] at he
    have h3 := List.pairwise_iff_getElem.1 hu j k hj2.2 hk hj2.1
    exact before_ne h3 (by simpa using (beq_iff_eq.1 he).symm)
theorem arr_of_list {s : ByteArray} {x : Nm} (h : s.toList = x) : s = ⟨x.toArray⟩ := by
  rw [ByteArray.toList_eq] at h
  subst h
  cases s
  simp
def RwR (w0 : World) (S : List Nat) (r : Nat) (t : St) (x : Nm) (ss : List ByteArray) (A : Option Addr) (n : Nat) (B : Option Addr) (bn : Nat) (bs : List Int) (e i : Value) (wr : World) : Prop := ∃ (k : Nat) (u : St) (lv : Value) (m : List Ent), k ≤ n ∧ e = .int .i64 0 ∧ i = .int .i64 (k : Int) ∧ Rf wr r lv m u ∧ FootL S (rfoot r lv m) w0 wr ∧ ApS (rfoot r lv m) wr A n ss ∧ Ap (rfoot r lv m) wr B bn bs ∧
  (hasS (ss.take k) ⟨x.toArray⟩ = false → u = t) ∧ (hasS (ss.take k) ⟨x.toArray⟩ = true → stUnlink x t = (0, u)) ∧ u.fs.length ≤ t.fs.length
set_option maxRecDepth 100000 in
set_option maxHeartbeats 6400000 in
theorem rwrite_any (r : Nat) (lv : Value) (m : List Ent) (t : St) (x : Nm) (A : Option Addr) (n cap : Nat) (zs : List Int) (w : World) (h : Rf w r lv m t) (hx : x.length ≤ 60) (hm : t.fs.length ≤ 800000) (hr : Rd w A n zs) (hA : A = none → cap = 0) (hn : n ≤ 65536) :
    Calls Tryz.prog 39 #[.pointer (some ⟨r, 0, none⟩), .string ⟨x.toArray⟩, .slice A n cap] w (RDid2 w r lv m (stWrite x (Rc.recd zs) t)) := by
  have p1 := new_add x hx
  have HPT := Lib.hid (Rc.refput_ok A n cap zs w hr hA hn)
  have HR0 := Lib.hid h
  have HUP := Lib.hid h.up
  have HLE := Lib.hid hm
  have HNL := Lib.hid (show (⟨(x ++ newE).toArray⟩ : ByteArray).size ≤ maxLen ∧ (⟨x.toArray⟩ : ByteArray).size ≤ maxLen by
    simp [ByteArray.size, newE, maxLen]; omega)
  have HML := Lib.hid h.len
  have HRC := Lib.hid (show (Rc.recd zs).length ≤ 70000 by rw [Rc.recd_len, hr.1]; omega)
  have HST := Lib.hid (show stWrite x (Rc.recd zs) t = if (fget (x ++ newE) t.fs).isSome then thn (stUnlink (x ++ newE) t) (wr3 x (Rc.recd zs)) else wr3 x (Rc.recd zs) t from rfl)
  have HHAS := Lib.hid (show hasS (nmS m) ⟨(x ++ newE).toArray⟩ = (fget (x ++ newE) t.fs).isSome by
    rw [h.fs, ← get_fil]
    exact hasS_names m (x ++ newE))
  clear h hm hr
  generalize Rc.recd zs = bs at *
  generalize stWrite x bs t = RES at *
  go_enter Tryz.func39, Tryz.ntmps39
  go_wp2_with fail
  refine HPT.out.mono ?_
  clear HPT
  rintro e w1 ⟨v1, rfl, hO1⟩
  obtain ⟨B, bc, hv1, hs1, hf1⟩ := hO1.sl _ rfl
  subst hv1
  have HR1 := Lib.hid (rf_below HR0.out hO1.1)
  have HF1 := Lib.hid (FootL.below (rfoot r lv m) hO1.1)
  have HAP1 := Lib.hid (show Ap (rfoot r lv m) w1 B bs.length bs from ⟨hs1.1, fun h0 a ha hm => by
    have h5 := hf1 a ha
    have h6 := HR0.out.foot_lt _ hm
    omega⟩)
  have HBC := Lib.hid hs1.2.2.2.1
  clear hO1 hs1 hf1 HR0
  have HN := Lib.hid (rnames_any r lv m t w1 HR1.out (by have := HLE.out; omega))
  generalize hbl : bs.length = bl at *
  go_wp2_with fail
  refine HN.out.mono ?_
  clear HN
  rintro e w2 ⟨NA, nc, rfl, hs2, hnb, hb2⟩
  have HS0 := Lib.hid (show RwR w (rfoot r lv m) r t (x ++ newE) (nmS m) NA m.length B bl bs (.int .i64 0) (.int .i64 0) w2 from by
    refine ⟨0, t, lv, m, Nat.zero_le _, rfl, rfl, rf_below HR1.out hb2, HF1.out.trans (FootL.below _ hb2), ⟨hs2, fun h0 a ha hm => ?_⟩, HAP1.out.left (FootL.below _ hb2), fun _ => rfl, fun hh => ?_, Nat.le_refl _⟩
    · have h5 := (hnb a ha).1
      have h6 := HR1.out.foot_lt _ hm
      omega
    · simp [hasS] at hh)
  clear hs2 hnb hb2 HR1 HF1 HAP1
  have HML2 := Lib.hid HML.out
  generalize hN : m.length = N at *
  have hNb : N ≤ 800000 := by have h1 := HML2.out; have h2 := HLE.out; omega
  go_wp2_with fail
  go_loopw [8, 10] (fun e i wr => RwR w (rfoot r lv m) r t (x ++ newE) (nmS m) NA N B bl bs e i wr) (fun _ i _ => N - (intOf i).toNat)
  case atStart => exact HS0.out
  case round =>
    obtain ⟨k, u, lv1, m1, hk, rfl, rfl, hR, hF, hAS, hAP, hno, hyes, hul⟩ := hrel
    have HR := Lib.hid hR
    have HF := Lib.hid hF
    have HAS := Lib.hid hAS
    have HAP := Lib.hid hAP
    have HNO := Lib.hid hno
    have HYES := Lib.hid hyes
    have HUL := Lib.hid hul
    clear hR hF hAS hAP hno hyes hul
    by_cases hlt : k < N
    · obtain ⟨b, off, hadr, hcell⟩ := HAS.out.1.2.2 (by omega)
      subst hadr
      have hc := hcell k hlt
      clear hcell
      have HSL := Lib.hid (show (nmS m).length = N by simp [nmS, hN])
      have HT := Lib.hid (hasS_take (nmS m) ⟨(x ++ newE).toArray⟩ k (by rw [HSL.out]; exact hlt))
      have HO := Lib.hid (once HUP.out k (by omega))
      generalize (nmS m).getD k ⟨#[]⟩ = y at *
      have i1 : (k : Int) < (N : Int) := by omega
      cases hb : (y.toList == x ++ newE) with
      | true =>
        have hy : y = ⟨(x ++ newE).toArray⟩ := arr_of_list (beq_iff_eq.1 hb)
        have HO2 := Lib.hid (show u = t from HNO.out (by rw [← hy]; exact HO.out))
        have HY := Lib.hid hy
        have HU := Lib.hid ((runl_any r lv1 m1 u y wr HR.out (by have := HUL.out; have := HLE.out; omega) (by rw [hy]; exact HNL.out.1)).mono fun _ _ hh => hh.two)
        rw [show y.data.toList = x ++ newE by rw [hy]] at HU
        have HT2 := Lib.hid (show hasS ((nmS m).take (k + 1)) ⟨(x ++ newE).toArray⟩ = true by rw [HT.out, hy]; simp)
        have HXX := Lib.hid (show hasS (nmS m) ⟨(x ++ newE).toArray⟩ = true by
          have := HT2.out
          unfold hasS at this ⊢
          rw [List.any_eq_true] at this ⊢
          obtain ⟨z, hz, he⟩ := this
          exact ⟨z, List.mem_of_mem_take hz, he⟩)
        clear hy HT HO HNO HYES
        have hur := unl_le (x ++ newE) u
        generalize hsu : stUnlink (x ++ newE) u = r3 at *
        have HSU := Lib.hid hsu
        clear hsu
        obtain ⟨c3, t3⟩ := r3
        go_wp2_with fail
        refine HU.out.mono ?_
        clear HU
        rintro e w3 ⟨rfl, hL⟩
        obtain ⟨lv3, m3, hR3, hF3⟩ := FootL.of hL
        have HR3 := Lib.hid (show Rf w3 r lv3 m3 t3 from hR3)
        have HF3 := Lib.hid (HF.out.trans hF3)
        have HAS3 := Lib.hid (HAS.out.left hF3)
        have HAP3 := Lib.hid (HAP.out.left hF3)
        clear hL hR3 hF3
        simp only at hur ⊢
        by_cases h3 : c3 = 0
        · subst h3
          go_wp2
          go_roundw
          case rel => exact ⟨k + 1, t3, lv3, m3, by omega, rfl, by go_num, HR3.out, HF3.out, HAS3.out, HAP3.out, (fun hh => by rw [HT2.out] at hh; cases hh), fun _ => by rw [← HO2.out]; exact HSU.out, by have := HUL.out; omega⟩
          case measure => simp [intOf]; omega
        · have HRES := Lib.hid (show RES = (c3, t3) by
            rw [HST.out, ← HHAS.out, HXX.out, if_pos rfl, ← HO2.out, HSU.out]
            exact thn_no _ h3)
          go_wp2
          go_ret
          exact ⟨by rw [HRES.out]; rfl, by rw [HRES.out]; exact FootL.to HR3.out HF3.out⟩
      | false =>
        have HT2 := Lib.hid (show hasS ((nmS m).take (k + 1)) ⟨(x ++ newE).toArray⟩ = hasS ((nmS m).take k) ⟨(x ++ newE).toArray⟩ by
          rw [HT.out, show ((⟨(x ++ newE).toArray⟩ : ByteArray).toList == y.toList) = false by
            rw [nm_list (x ++ newE), BEq.comm]; exact hb, Bool.or_false])
        clear HT HO
        go_wp2
        go_roundw
        case rel => exact ⟨k + 1, u, lv1, m1, by omega, rfl, by go_num, HR.out, HF.out, HAS.out, HAP.out, fun hh => HNO.out (by rw [← HT2.out]; exact hh), fun hh => HYES.out (by rw [← HT2.out]; exact hh), HUL.out⟩
        case measure => simp [intOf]; omega
    · obtain rfl : k = N := by omega
      have htk : (nmS m).take k = nmS m := List.take_of_length_le (by simp [nmS, hN])
      have HRES := Lib.hid (show RES = wr3 x bs u by
        rw [HST.out, ← HHAS.out]
        rw [htk] at HNO HYES
        cases hh : hasS (nmS m) ⟨(x ++ newE).toArray⟩ with
        | false =>
          rw [HNO.out hh]
          rfl
        | true =>
          rw [if_pos rfl, HYES.out hh]
          exact thn_ok _ rfl)
      clear HNO HYES htk HST HHAS HUP
      have HA1 := Lib.hid (rapp_all r lv1 m1 u ⟨(x ++ newE).toArray⟩ B bl bc bs wr HR.out (by have := HUL.out; have := HLE.out; omega) HNL.out.1 HAP.out.1 HBC.out HAP.out.2 (by have := HRC.out; omega))
      go_wp2_with fail
      refine HA1.out.mono ?_
      clear HA1
      rintro e w4 ⟨rfl, hL4⟩
      obtain ⟨lv4, m4, hR4, hF4⟩ := FootL.of hL4
      have HLE4 := Lib.hid (app_le (x ++ newE) bs u)
      unfold wr3 at HRES
      have HF4 := Lib.hid (HF.out.trans hF4)
      have HR4 := Lib.hid (show Rf w4 r lv4 m4 (stAppend (x ++ newE) bs u).2 from hR4)
      clear hL4 hR4 hF4
      generalize stAppend (x ++ newE) bs u = r4 at *
      obtain ⟨c4, t4⟩ := r4
      simp only at HR4 HLE4 ⊢
      by_cases h4 : c4 = 0
      · subst h4
        rw [thn_ok _ rfl] at HRES
        simp only at HRES
        have HS1 := Lib.hid ((rsync_any r lv4 m4 t4 ⟨(x ++ newE).toArray⟩ w4 HR4.out (by have := HLE.out; have := HLE4.out; have := HUL.out; omega) HNL.out.1).mono fun _ _ hh => hh.two)
        go_wp2_with fail
        refine HS1.out.mono ?_
        clear HS1
        rintro e w5 ⟨rfl, hL5⟩
        obtain ⟨lv5, m5, hR5, hF5⟩ := FootL.of hL5
        have HLE5 := Lib.hid (sync_le (x ++ newE) t4)
        have HF5 := Lib.hid (HF4.out.trans hF5)
        have HR5 := Lib.hid (show Rf w5 r lv5 m5 (stSync (x ++ newE) t4).2 from hR5)
        clear hL5 hR5 hF5
        generalize stSync (x ++ newE) t4 = r5 at *
        obtain ⟨c5, t5⟩ := r5
        simp only at HR5 HLE5 ⊢
        by_cases h5 : c5 = 0
        · subst h5
          rw [thn_ok _ rfl] at HRES
          simp only at HRES
          have HX1 := Lib.hid ((rren_any r lv5 m5 t5 ⟨(x ++ newE).toArray⟩ ⟨x.toArray⟩ w5 HR5.out (by have := HLE.out; have := HLE4.out; have := HLE5.out; have := HUL.out; omega) HNL.out.1 HNL.out.2).mono fun _ _ hh => hh.two)
          go_wp2_with fail
          refine HX1.out.mono ?_
          clear HX1
          rintro e w6 ⟨rfl, hL6⟩
          obtain ⟨lv6, m6, hR6, hF6⟩ := FootL.of hL6
          have HF6 := Lib.hid (HF5.out.trans hF6)
          have HR6 := Lib.hid (show Rf w6 r lv6 m6 (stRename (x ++ newE) x t5).2 from hR6)
          clear hL6 hR6 hF6
          go_wp2
          go_ret
          exact ⟨by rw [HRES.out]; rfl, by rw [HRES.out]; exact FootL.to HR6.out HF6.out⟩
        · rw [thn_no _ h5] at HRES
          go_wp2
          go_ret
          exact ⟨by rw [HRES.out]; rfl, by rw [HRES.out]; exact FootL.to HR5.out HF5.out⟩
      · rw [thn_no _ h4] at HRES
        go_wp2
        go_ret
        exact ⟨by rw [HRES.out]; rfl, by rw [HRES.out]; exact FootL.to HR4.out HF4.out⟩
end Go.Proofs.YtejphnbhcabchaaGreat.Kp
