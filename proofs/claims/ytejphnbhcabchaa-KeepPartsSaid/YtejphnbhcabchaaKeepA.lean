/-
  Layer 7: writing a file whole, in the program: slices.Contains of strings, write. Conditions: the disk lies in memory as it was made, and the bytes are no part of it.
-/
import Derived.Test.YtejphnbhcabchaaDiskKeep
import Derived.Test.YtejphnbhcabchaaKeepMath
import Derived.Laws.Concat
namespace Go.Proofs.Ytejphnbhcabchaa.Kp
open Go.RowKit Go.Proofs.Ytejphnbhcabchaa.Dk Go.Proofs.Ytejphnbhcabchaa.Fld
set_option linter.unusedVariables false

def hasS (ss : List ByteArray) (s : ByteArray) : Bool := ss.any fun x => s.toList == x.toList
theorem hasS_take (ss : List ByteArray) (s : ByteArray) (k : Nat) (h : k < ss.length) : hasS (ss.take (k + 1)) s = (hasS (ss.take k) s || (s.toList == (ss.getD k ⟨#[]⟩).toList)) := by
  unfold hasS
  rw [List.take_add_one, List.getElem?_eq_getElem h, List.any_append, List.getD_eq_getElem?_getD, List.getElem?_eq_getElem h]
  simp
theorem hasS_at (ss : List ByteArray) (s : ByteArray) (k : Nat) (h : k < ss.length) (hb : (s.toList == (ss.getD k ⟨#[]⟩).toList) = true) : hasS ss s = true := by
  unfold hasS
  rw [List.any_eq_true]
  refine ⟨ss[k], List.getElem_mem h, ?_⟩
  rw [List.getD_eq_getElem?_getD, List.getElem?_eq_getElem h] at hb
  exact hb
set_option maxRecDepth 100000 in
set_option maxHeartbeats 800000 in
theorem index_any (A : Option Addr) (n cap : Nat) (ss : List ByteArray) (s : ByteArray) (w : World) (hr : RdS w A n ss) : Calls Try.prog 44 #[.slice A n cap, .string s] w fun e w' => ∃ k : Int, e = .returned (.int .i64 k) ∧ w = w' ∧ decide (0 ≤ k) = hasS ss s := by
  obtain ⟨hl, hm, hc⟩ := hr
  have HL := Lib.hid hl
  have HC := Lib.hid hc
  clear hl hc
  go_enter Try.func44, Try.ntmps44
  go_wp2
  go_loop [8] (fun i => ∃ k : Nat, k ≤ n ∧ i = .int .i64 k ∧ hasS (ss.take k) s = false) (fun i => n - (intOf i).toNat)
  case atStart => exact ⟨0, Nat.zero_le _, rfl, rfl⟩
  case round =>
    obtain ⟨k, hk, rfl, hall⟩ := hrel
    have HA := Lib.hid hall
    clear hall
    by_cases hlt : k < n
    · obtain ⟨b, off, rfl, hcell⟩ := HC.out (by omega)
      have hc := hcell k hlt
      clear hcell
      have HT := Lib.hid (hasS_take ss s k (by rw [HL.out]; exact hlt))
      have HX := Lib.hid (hasS_at ss s k (by rw [HL.out]; exact hlt))
      generalize ss.getD k ⟨#[]⟩ = x at *
      cases hb : (s.toList == x.toList) with
      | true =>
        have HX2 := Lib.hid (HX.out hb)
        clear HX HT
        go_wp2
        go_ret
        exact ⟨_, rfl, rfl, by rw [HX2.out]; simp⟩
      | false =>
        have HT2 := Lib.hid (show hasS (ss.take (k + 1)) s = false by rw [HT.out, HA.out, hb]; rfl)
        clear HX HT
        go_wp2
        go_roundw
        case rel => exact ⟨k + 1, by omega, by go_num, HT2.out⟩
        case measure => simp [intOf]; omega
    · obtain rfl : k = n := by omega
      go_wp2
      go_ret
      exact ⟨_, rfl, rfl, by have := HA.out; rw [← HL.out, List.take_length] at this; rw [this]; rfl⟩
set_option maxRecDepth 100000 in
theorem contains_any (A : Option Addr) (n cap : Nat) (ss : List ByteArray) (s : ByteArray) (w : World) (hr : RdS w A n ss) : Calls Try.prog 31 #[.slice A n cap, .string s] w fun e w' => e = .returned (.bool (hasS ss s)) ∧ w = w' := by
  have HI := Lib.hid (index_any A n cap ss s w hr)
  clear hr
  go_enter Try.func31, Try.ntmps31
  go_wp2_with fail
  refine HI.out.mono ?_
  rintro e w' ⟨k, rfl, rfl, hk⟩
  have HK := Lib.hid hk
  clear hk
  go_wp2
  go_ret
  exact ⟨by rw [← HK.out]; rfl, rfl⟩
theorem hasS_names (m : List Ent) (x : Nm) : hasS (m.map fun e => ⟨e.nm.toArray⟩) ⟨x.toArray⟩ = (Dk.get Ent.nm x m).isSome := by
  have hl : ∀ y : Nm, (⟨y.toArray⟩ : ByteArray).toList = y := fun y => by rw [ByteArray.toList_eq]
  unfold hasS Dk.get
  induction m with
  | nil => rfl
  | cons e m ih =>
    rw [List.map_cons, List.any_cons, List.find?_cons, ih]
    simp only [hl]
    cases hb : (e.nm == x) with
    | true => rw [show (x == e.nm) = true by simp at hb ⊢; exact hb.symm]; rfl
    | false => rw [show (x == e.nm) = false by simp at hb ⊢; exact fun h => hb h.symm]; rfl
theorem has_new {w : World} {g b : Nat} {m : List Ent} {t : St} (h : Im w g b m t) (x : Nm) : (Dk.get Ent.nm x m).isSome = (fget x t.fs).isSome := by
  have := h.get ⟨x.toArray⟩
  simp only at this
  rw [this]
  unfold found
  simp
/-- what a call has left of a disk, and of the blocks that are none of its own -/
def LeftM (w : World) (g b : Nat) (m m' : List Ent) (w' : World) : Prop := Dk.Fr (g :: b :: blks m) w w' ∧ ∀ i ∈ blks m', i ∈ blks m ∨ w.heap.size ≤ i
theorem LeftM.refl (w : World) (g b : Nat) (m : List Ent) : LeftM w g b m m w := ⟨Dk.Fr.refl _ _, fun _ h => .inl h⟩
theorem LeftM.trans {w w1 w2 : World} {g b : Nat} {m m1 m2 : List Ent} (h : LeftM w g b m m1 w1) (k : LeftM w1 g b m1 m2 w2) : LeftM w g b m m2 w2 := by
  refine ⟨h.1.trans k.1 ?_, ?_⟩
  · intro i hi
    simp only [List.mem_cons] at hi ⊢
    rcases hi with rfl | rfl | hi
    · exact .inl (.inl rfl)
    · exact .inl (.inr (.inl rfl))
    · rcases h.2 i hi with h1 | h1
      · exact .inl (.inr (.inr h1))
      · exact .inr h1
  · intro i hi
    rcases k.2 i hi with h1 | h1
    · exact h.2 i h1
    · exact .inr (Nat.le_trans h.1.size h1)
theorem LeftM.below {w w1 : World} {g b : Nat} {m : List Ent} (hb : Below w.heap.size w w1) : LeftM w g b m m w1 := ⟨Dk.Fr.below hb, fun _ h => .inl h⟩
theorem Apart.left {w w' : World} {g b : Nat} {m m' : List Ent} {A : Option Addr} {n : Nat} {zs : List Int} (hA : Apart w g b m A n zs) (h : LeftM w g b m m' w') : Apart w' g b m' A n zs := by
  obtain ⟨h2, h3⟩ := h
  refine ⟨rd_off hA.1 h2 hA.2, fun hn a ha hm => ?_⟩
  have hno := hA.2 hn a ha
  simp only [List.mem_cons, not_or] at hno hm
  rcases hm with hm | hm | hm
  · exact hno.1 hm
  · exact hno.2.1 hm
  · rcases h3 _ hm with h4 | h4
    · exact hno.2.2 h4
    · obtain ⟨bb, off, e, hc⟩ := hA.1.2.2.2 hn
      rw [ha] at e
      injection e with e
      have := lt_of_cell (hc 0 hn)
      rw [e] at h4
      simp only at h4 this
      omega
theorem new_add (x : Nm) (hx : x.length ≤ 60) (W : World) : (Op.stringOp .add ⟨x.toArray⟩ ⟨#[46, 110, 101, 119]⟩).run Try.prog W = .ok (.string ⟨(x ++ newE).toArray⟩) W := run_string_add_lists W x newE (by omega) (by decide)
set_option maxRecDepth 100000 in
set_option maxHeartbeats 3200000 in
theorem write_any (g b : Nat) (m : List Ent) (t : St) (x : Nm) (A : Option Addr) (n cap : Nat) (ys : List Int) (w : World) (h : Im w g b m t) (hx : x.length ≤ 60) (hm : t.fs.length ≤ 900000) (hap : Apart w g b m A n ys) (hA : A = none → cap = 0) (hn : n ≤ 140737488355328) :
    Calls Try.prog 21 #[.pointer (some ⟨g, 0, none⟩), .string ⟨x.toArray⟩, .slice A n cap] w (Did w g b m (stWrite x ys t)) := by
  have p1 := new_add x hx
  have HN := Lib.hid (names_any g b m t w h (by omega))
  have HH := Lib.hid (has_new h (x ++ newE))
  have HI0 := Lib.hid h
  have HAP0 := Lib.hid hap
  have HST0 := Lib.hid (show stWrite x ys t = if (fget (x ++ newE) t.fs).isSome then thn (stUnlink (x ++ newE) t) (wr3 x ys) else wr3 x ys t from rfl)
  have HLE0 := Lib.hid hm
  clear h hap hm
  generalize stWrite x ys t = R at *
  go_enter Try.func21, Try.ntmps21
  go_wp2_with fail
  refine HN.out.mono ?_
  rintro e w1 ⟨A1, c1, rfl, hr1, _, hb1⟩
  have HC := Lib.hid (contains_any A1 _ c1 _ ⟨(x ++ newE).toArray⟩ w1 hr1)
  rw [hasS_names, HH.out] at HC
  have HI1 := Lib.hid (HI0.out.below hb1)
  have HL1 := Lib.hid (LeftM.below (g := g) (b := b) (m := m) hb1)
  have HAP1 := Lib.hid (Apart.left HAP0.out HL1.out)
  clear hr1 hb1 HN HI0 HAP0 HH
  go_wp2_with fail
  refine HC.out.mono ?_
  rintro e w2 ⟨rfl, rfl⟩
  clear HC
  cases hb : (fget (x ++ newE) t.fs).isSome with
  | true =>
    rw [hb, if_pos rfl] at HST0
    have HU := Lib.hid (unl_did g b m t ⟨(x ++ newE).toArray⟩ w1 HI1.out)
    go_wp2_with fail
    refine HU.out.mono ?_
    rintro e w3 ⟨rfl, m3, hL3⟩
    obtain ⟨hI3, hL3⟩ := show Im w3 g b m3 (stUnlink (x ++ newE) t).2 ∧ LeftM w1 g b m m3 w3 from ⟨hL3.1, ⟨hL3.2.1, hL3.2.2⟩⟩
    have HLE3 := Lib.hid (unl_le (x ++ newE) t)
    have HI3 := Lib.hid hI3
    have HL3 := Lib.hid (HL1.out.trans hL3)
    have HAP3 := Lib.hid (Apart.left HAP1.out hL3)
    clear HU hI3 hL3 HI1 HL1 HAP1 hb
    generalize stUnlink (x ++ newE) t = r3 at *
    obtain ⟨c3, t3⟩ := r3
    try simp only at HI3 HST0 HLE3 ⊢
    by_cases h3 : c3 = 0
    · subst h3
      have HST := Lib.hid (HST0.out.trans (thn_ok _ rfl))
      have HLE := Lib.hid (show t3.fs.length ≤ 900000 by have := HLE0.out; have := HLE3.out; omega)
      have HI := HI3
      have HLM := HL3
      have HAP := HAP3
      clear HST0 HLE0 HLE3 HI3 HL3 HAP3
      try simp only at HST

      have HA1 := Lib.hid (app_did g b m3 t3 ⟨(x ++ newE).toArray⟩ A n cap ys w3 HI.out (by have := HLE.out; omega) (HAP.out.1) hA (by omega))
      go_wp2_with fail
      refine HA1.out.mono ?_
      rintro e w4 ⟨rfl, m4, hL4⟩
      obtain ⟨hI4, hL4⟩ := show Im w4 g b m4 (stAppend (x ++ newE) ys t3).2 ∧ LeftM w g b m m4 w4 from ⟨hL4.1, HLM.out.trans ⟨hL4.2.1, hL4.2.2⟩⟩
      have HLE4 := Lib.hid (app_le (x ++ newE) ys t3)
      have HI4 := Lib.hid hI4
      have HL4 := Lib.hid hL4
      clear HA1 hI4 hL4
      unfold wr3 at HST
      generalize stAppend (x ++ newE) ys t3 = r4 at *
      obtain ⟨c4, t4⟩ := r4
      try simp only at HI4 HST HLE4 ⊢
      by_cases h4 : c4 = 0
      · subst h4
        rw [thn_ok _ rfl] at HST
        have HS1 := Lib.hid (sync_did g b m4 t4 ⟨(x ++ newE).toArray⟩ w4 HI4.out (by have := HLE.out; have := HLE4.out; omega))
        go_wp2_with fail
        refine HS1.out.mono ?_
        rintro e w5 ⟨rfl, m5, hL5⟩
        obtain ⟨hI5, hL5⟩ := show Im w5 g b m5 (stSync (x ++ newE) t4).2 ∧ LeftM w g b m m5 w5 from ⟨hL5.1, HL4.out.trans ⟨hL5.2.1, hL5.2.2⟩⟩
        have HLE5 := Lib.hid (sync_le (x ++ newE) t4)
        have HI5 := Lib.hid hI5
        have HL5 := Lib.hid hL5
        clear HS1 hI5 hL5
        try simp only at HST
        generalize stSync (x ++ newE) t4 = r5 at *
        obtain ⟨c5, t5⟩ := r5
        try simp only at HI5 HST HLE5 ⊢
        by_cases h5 : c5 = 0
        · subst h5
          rw [thn_ok _ rfl] at HST
          have HR1 := Lib.hid (ren_did g b m5 t5 ⟨(x ++ newE).toArray⟩ ⟨x.toArray⟩ w5 HI5.out (by have := HLE.out; have := HLE4.out; have := HLE5.out; omega))
          go_wp2_with fail
          refine HR1.out.mono ?_
          rintro e w6 ⟨rfl, m6, hL6⟩
          have HL6 := Lib.hid (show Dk.Left w g b m (stRename (x ++ newE) x t5).2 w6 from ⟨m6, hL6.1, HL5.out.trans ⟨hL6.2.1, hL6.2.2⟩⟩)
          clear HR1 hL6
          try simp only at HST
          go_wp2
          go_ret
          exact ⟨by rw [HST.out]; rfl, by rw [HST.out]; exact HL6.out⟩
        · rw [thn_no _ h5] at HST
          go_wp2
          go_ret
          exact ⟨by rw [HST.out]; rfl, by rw [HST.out]; exact ⟨m5, HI5.out, HL5.out⟩⟩
      · rw [thn_no _ h4] at HST
        go_wp2
        go_ret
        exact ⟨by rw [HST.out]; rfl, by rw [HST.out]; exact ⟨m4, HI4.out, HL4.out⟩⟩

    · have HST := Lib.hid (HST0.out.trans (thn_no _ h3))
      go_wp2
      go_ret
      exact ⟨by rw [HST.out]; rfl, by rw [HST.out]; exact ⟨m3, HI3.out, HL3.out⟩⟩
  | false =>
    rw [hb] at HST0
    have HST := Lib.hid (show R = wr3 x ys t from HST0.out)
    · have HLE := HLE0
      have HI := HI1
      have HLM := HL1
      have HAP := HAP1
      clear HST0 HLE0 HI1 HL1 HAP1 hb

      have HA1 := Lib.hid (app_did g b m t ⟨(x ++ newE).toArray⟩ A n cap ys w1 HI.out (by have := HLE.out; omega) (HAP.out.1) hA (by omega))
      go_wp2_with fail
      refine HA1.out.mono ?_
      rintro e w4 ⟨rfl, m4, hL4⟩
      obtain ⟨hI4, hL4⟩ := show Im w4 g b m4 (stAppend (x ++ newE) ys t).2 ∧ LeftM w g b m m4 w4 from ⟨hL4.1, HLM.out.trans ⟨hL4.2.1, hL4.2.2⟩⟩
      have HLE4 := Lib.hid (app_le (x ++ newE) ys t)
      have HI4 := Lib.hid hI4
      have HL4 := Lib.hid hL4
      clear HA1 hI4 hL4
      unfold wr3 at HST
      generalize stAppend (x ++ newE) ys t = r4 at *
      obtain ⟨c4, t4⟩ := r4
      try simp only at HI4 HST HLE4 ⊢
      by_cases h4 : c4 = 0
      · subst h4
        rw [thn_ok _ rfl] at HST
        have HS1 := Lib.hid (sync_did g b m4 t4 ⟨(x ++ newE).toArray⟩ w4 HI4.out (by have := HLE.out; have := HLE4.out; omega))
        go_wp2_with fail
        refine HS1.out.mono ?_
        rintro e w5 ⟨rfl, m5, hL5⟩
        obtain ⟨hI5, hL5⟩ := show Im w5 g b m5 (stSync (x ++ newE) t4).2 ∧ LeftM w g b m m5 w5 from ⟨hL5.1, HL4.out.trans ⟨hL5.2.1, hL5.2.2⟩⟩
        have HLE5 := Lib.hid (sync_le (x ++ newE) t4)
        have HI5 := Lib.hid hI5
        have HL5 := Lib.hid hL5
        clear HS1 hI5 hL5
        try simp only at HST
        generalize stSync (x ++ newE) t4 = r5 at *
        obtain ⟨c5, t5⟩ := r5
        try simp only at HI5 HST HLE5 ⊢
        by_cases h5 : c5 = 0
        · subst h5
          rw [thn_ok _ rfl] at HST
          have HR1 := Lib.hid (ren_did g b m5 t5 ⟨(x ++ newE).toArray⟩ ⟨x.toArray⟩ w5 HI5.out (by have := HLE.out; have := HLE4.out; have := HLE5.out; omega))
          go_wp2_with fail
          refine HR1.out.mono ?_
          rintro e w6 ⟨rfl, m6, hL6⟩
          have HL6 := Lib.hid (show Dk.Left w g b m (stRename (x ++ newE) x t5).2 w6 from ⟨m6, hL6.1, HL5.out.trans ⟨hL6.2.1, hL6.2.2⟩⟩)
          clear HR1 hL6
          try simp only at HST
          go_wp2
          go_ret
          exact ⟨by rw [HST.out]; rfl, by rw [HST.out]; exact HL6.out⟩
        · rw [thn_no _ h5] at HST
          go_wp2
          go_ret
          exact ⟨by rw [HST.out]; rfl, by rw [HST.out]; exact ⟨m5, HI5.out, HL5.out⟩⟩
      · rw [thn_no _ h4] at HST
        go_wp2
        go_ret
        exact ⟨by rw [HST.out]; rfl, by rw [HST.out]; exact ⟨m4, HI4.out, HL4.out⟩⟩

end Go.Proofs.Ytejphnbhcabchaa.Kp
