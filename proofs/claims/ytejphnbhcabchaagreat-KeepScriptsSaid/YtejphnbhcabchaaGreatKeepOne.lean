/-
  Several texts in one: The plain mathematics of layer 7, first part: what writing a file whole makes of a disk, and what a load of a hard state tells of it. No condition but those that each theorem states. Layer 7: writing a file whole, in the program: slices.Contains of strings, write. Conditions: the disk lies in memory as it was made, and the bytes are no part of it. Layer 7: hard states, written: numbers, validIndex, validHard, encodeHard, save and SaveHard. Conditions: the disk lies in memory as it was made. Layer 7: hard states, saved: save and SaveHard. Conditions: the disk lies in memory as it was made. Layer 7: blocks of a call's own beside a reader: how they are kept (Blk, Twos); a function that answers a struct and a number. Conditions: as each theorem states. Layer 7: hard states, read: readNumber, decodeHard. Conditions: the bytes can be read. Layer 7: valid snapshots, in the program: validNodes, slices.Contains and ContainsFunc of numbers, validGroup, validSnap. Conditions: the lists can be read. Layer 7: valid snapshots, in the program, second part: slices.ContainsFunc with its closure, validGroup, validSnap. Conditions: the lists can be read. Layer 7: snapshots as bytes, in the program: list, slices.Grow and Concat. Conditions: the lists can be read, and are short. Layer 7: snapshots as bytes, in the program: Encode. Conditions: the lists and the data can be read. The reader once more, with where its bytes lie: reading a number leaves them in the block in which they lay. Conditions: the reader lies in memory as it was made (RdO). Layer 7: snapshots, read: readList. Conditions: the reader lies in memory as it was made. Layer 7: snapshots, read: Decode. Conditions: the bytes can be read. Layer 7: snapshots, read: Decode, whole. Conditions: the bytes can be read. Layer 7: the document's own comparison of snapshots: SameInts, SameGroup, SameSnap. Conditions: the snapshots can be read. Arguments opened to cells: a hard state and a snapshot by value, a slice of numbers, as the given rows read them. No condition. Layer 7: the document's own words for what may be: RightHard, rises, Has, RightGroup, RightSnap. Conditions: the lists can be read. Layer 7: the document's own words for what may be, second part: RightGroup, RightSnap. Conditions: the lists can be read. Arguments opened to cells: a step by value, as the given rows read it. No condition. Arguments opened to cells: a slice of steps, as the given row reads it. No condition. Layer 7: the document's own codes: numbers, hard, Encode. Conditions: the lists and the data can be read. Layer 7: the document's own Encode. Conditions: the lists and the data can be read. Layer 7: the document's own reader, with where its bytes lie: Number, Text and list. Conditions: the reader lies in memory as it was made (DAt). Layer 7: the document's own reader, with where its bytes lie: Text. Conditions: the reader lies in memory as it was made (DAt). Layer 7: the document's own Decode. Conditions: the bytes can be read.
-/
import Derived.Test.YtejphnbhcabchaaGreatDiskOne
import Derived.Test.YtejphnbhcabchaaGreatRecMath
import Derived.Test.YtejphnbhcabchaaGreatDiskKeep
import Derived.Laws.Concat
import Derived.Test.YtejphnbhcabchaaGreatFieldMore
import Derived.Test.YtejphnbhcabchaaGreatRecBase
import Derived.Test.YtejphnbhcabchaaGreatFieldNum
import Derived.Test.YtejphnbhcabchaaGreatRecRdL
import Derived.Lib.AppendZeros
import Derived.Deep.RegionHeld3
import Derived.Test.YtejphnbhcabchaaGreatFieldTxt
import Derived.BigQuiet
import Derived.Deep.Slices
import Derived.Deep.Fields
import Derived.ChangeSame
import Derived.OpenShut
import Derived.Test.YtejphnbhcabchaaGreatFieldOne
namespace Go.Proofs.YtejphnbhcabchaaGreat.Kp
open Go.Proofs.YtejphnbhcabchaaGreat.Dk Go.Proofs.YtejphnbhcabchaaGreat.Fld
set_option linter.unusedVariables false

def newE : Nm := [46, 110, 101, 119]
def hardN : Nm := [104, 97, 114, 100]
def snapN : Nm := [115, 110, 97, 112]
/-- one step behind another -/
def thn (r : Int × St) (k : St → Int × St) : Int × St := if r.1 = 0 then k r.2 else r
def wr3 (x : Nm) (b : List Int) (t : St) : Int × St := thn (stAppend (x ++ newE) b t) fun t => thn (stSync (x ++ newE) t) fun t => stRename (x ++ newE) x t
/-- b as the file x -/
def stWrite (x : Nm) (b : List Int) (t : St) : Int × St :=
  if (fget (x ++ newE) t.fs).isSome then thn (stUnlink (x ++ newE) t) (wr3 x b) else wr3 x b t

theorem fdel_le (fs : List Fil) (x : Nm) : (fdel x fs).length ≤ fs.length := by
  unfold fdel del
  exact List.length_filter_le _ _
theorem fput_le (f : Fil) (fs : List Fil) : (fput f fs).length ≤ fs.length + 1 := by
  have h1 : (fput f fs).length = (fdel f.1 fs).length + 1 := by
    have := (ins_perm (key := Prod.fst) f (fdel f.1 fs)).length_eq
    rw [List.length_cons] at this
    exact this
  have h2 := fdel_le fs f.1
  omega
theorem doing_le (ok : Bool) (t : St) (f : St → Int × St) (hf : ∀ t, (f t).2.fs.length ≤ t.fs.length + 1) : (doing ok t f).2.fs.length ≤ t.fs.length + 1 := by
  unfold doing
  split
  · split
    · have := hf (chg t).2
      rw [(chg_same t).2] at this
      exact this
    · rw [(chg_same t).2]; omega
  · simp
theorem app_le (x : Nm) (b : List Int) (t : St) : (stAppend x b t).2.fs.length ≤ t.fs.length + 1 := by
  refine doing_le _ _ _ fun t => ?_
  unfold app1
  split
  · simp
  · simp only
    split <;> exact fput_le _ _
theorem sync_le (x : Nm) (t : St) : (stSync x t).2.fs.length ≤ t.fs.length + 1 := by
  refine doing_le _ _ _ fun t => ?_
  unfold sync1
  split
  · exact fput_le _ _
  · simp
theorem unl_le (x : Nm) (t : St) : (stUnlink x t).2.fs.length ≤ t.fs.length := by
  unfold stUnlink doing
  split
  · split
    · unfold unl1
      split
      · simp only
        rw [(chg_same t).2]
        exact fdel_le _ _
      · rw [(chg_same t).2]; exact Nat.le_refl _
    · rw [(chg_same t).2]; exact Nat.le_refl _
  · exact Nat.le_refl _
theorem ren_le (x y : Nm) (t : St) : (stRename x y t).2.fs.length ≤ t.fs.length + 1 := by
  refine doing_le _ _ _ fun t => ?_
  unfold ren1
  split
  · split
    · simp
    · simp only
      refine Nat.le_trans (fdel_le _ _) (Nat.le_trans (fput_le _ _) ?_)
      have := fdel_le t.fs y
      omega
  · simp
theorem thn_ok {r : Int × St} (k : St → Int × St) (h : r.1 = 0) : thn r k = k r.2 := by unfold thn; rw [if_pos h]
theorem thn_no {r : Int × St} (k : St → Int × St) (h : ¬ r.1 = 0) : thn r k = r := by unfold thn; rw [if_neg h]
theorem wr3_le (x : Nm) (b : List Int) (t : St) : (wr3 x b t).2.fs.length ≤ t.fs.length + 3 := by
  have h1 := app_le (x ++ newE) b t
  unfold wr3
  by_cases c1 : (stAppend (x ++ newE) b t).1 = 0
  · rw [thn_ok _ c1]
    generalize (stAppend (x ++ newE) b t).2 = t1 at *
    have h2 := sync_le (x ++ newE) t1
    by_cases c2 : (stSync (x ++ newE) t1).1 = 0
    · rw [thn_ok _ c2]
      have := ren_le (x ++ newE) x (stSync (x ++ newE) t1).2
      omega
    · rw [thn_no _ c2]; omega
  · rw [thn_no _ c1]; omega
theorem write_le (x : Nm) (b : List Int) (t : St) : (stWrite x b t).2.fs.length ≤ t.fs.length + 3 := by
  unfold stWrite
  have h1 := unl_le (x ++ newE) t
  split
  · by_cases c1 : (stUnlink (x ++ newE) t).1 = 0
    · rw [thn_ok _ c1]
      have := wr3_le x b (stUnlink (x ++ newE) t).2
      omega
    · rw [thn_no _ c1]; omega
  · exact wr3_le x b t

/-! ### hard states -/
def hardC (a b : Nat) : List Int := code a ++ code b
def hardOk (a b : Int) : Bool := decide (0 ≤ a) && decide (a ≤ 1099511627776) && (decide (0 ≤ b) && decide (b ≤ 15))
/-- the numbers that a reader of bytes tells, one behind the other; and whether all went well, and nothing is left -/
def rdN (r : List Int × Bool) (most : Nat) : Nat × (List Int × Bool) :=
  if r.2 then (0, r) else match cutNum r.1 with
    | some (v, z) => if v ≤ most then (v, (z, false)) else (0, (r.1, true))
    | none => (0, (r.1, true))
def decHard (zs : List Int) : (Int × Int) × Int :=
  let p := rdN (zs, false) 1099511627776
  let q := rdN p.2 15
  if q.2.2 = false ∧ q.2.1 = [] then (((p.1 : Int), (q.1 : Int)), 0) else ((0, 0), 6)
/-- the content of the record that bytes are -/
def single (zs : List Int) : Option (List Int) := match Rc.first zs with | some c => if zs = Rc.recd c then some c else none | none => none
end Go.Proofs.YtejphnbhcabchaaGreat.Kp

namespace Go.Proofs.YtejphnbhcabchaaGreat.Kp
open Go.RowKit Go.Proofs.YtejphnbhcabchaaGreat.Dk Go.Proofs.YtejphnbhcabchaaGreat.Fld
set_option linter.unusedVariables false

def hasS (ss : List ByteArray) (s : ByteArray) : Bool := ss.any fun x => s.toList == x.toList
theorem hasS_take (ss : List ByteArray) (s : ByteArray) (k : Nat) (h : k < ss.length) : hasS (ss.take (k + 1)) s = (hasS (ss.take k) s || (s.toList == (ss.getD k ⟨#[]⟩).toList)) := by
  unfold hasS
  rw [List.take_add_one, List.getElem?_eq_getElem h, List.any_append, List.getD_eq_getElem?_getD, List.getElem?_eq_getElem h]
  simp
theorem hasS_at (ss : List ByteArray) (s : ByteArray) (k : Nat) (h : k < ss.length) (hb : (s.toList == (ss.getD k ⟨#[]⟩).toList) = true) : hasS ss s = true := by
  unfold hasS
  rw [List.any_eq_true]
  refine ⟨ss[k], List.getElem_mem h, ?_⟩
  rw [List.getD_eq_getElem?_getD, List.getElem?_eq_getElem h] at hb
  exact hb
set_option maxRecDepth 100000 in
set_option maxHeartbeats 800000 in
theorem index_any (A : Option Addr) (n cap : Nat) (ss : List ByteArray) (s : ByteArray) (w : World) (hr : RdS w A n ss) : Calls Tryz.prog 128 #[.slice A n cap, .string s] w fun e w' => ∃ k : Int, e = .returned (.int .i64 k) ∧ w = w' ∧ decide (0 ≤ k) = hasS ss s := by
  obtain ⟨hl, hm, hc⟩ := hr
  have HL := Lib.hid hl
  have HC := Lib.hid hc
  clear hl hc
  go_enter Tryz.func128, Tryz.ntmps128
  go_wp2
  go_loop [8] (fun i => ∃ k : Nat, k ≤ n ∧ i = .int .i64 k ∧ hasS (ss.take k) s = false) (fun i => n - (intOf i).toNat)
  case atStart => exact ⟨0, Nat.zero_le _, rfl, rfl⟩
  case round =>
    obtain ⟨k, hk, rfl, hall⟩ := hrel
    have HA := Lib.hid hall
    clear hall
    by_cases hlt : k < n
    · obtain ⟨b, off, rfl, hcell⟩ := HC.out (by omega)
      have hc := hcell k hlt
      clear hcell
      have HT := Lib.hid (hasS_take ss s k (by rw [HL.out]; exact hlt))
      have HX := Lib.hid (hasS_at ss s k (by rw [HL.out]; exact hlt))
      generalize ss.getD k ⟨#[]⟩ = x at *
      cases hb : (s.toList == x.toList) with
      | true =>
        have HX2 := Lib.hid (HX.out hb)
        clear HX HT
        go_wp2
        go_ret
        exact ⟨_, rfl, rfl, by rw [HX2.out]; simp⟩
      | false =>
        have HT2 := Lib.hid (show hasS (ss.take (k + 1)) s = false by rw [HT.out, HA.out, hb]; rfl)
        clear HX HT
        go_wp2
        go_roundw
        case rel => exact ⟨k + 1, by omega, by go_num, HT2.out⟩
        case measure => simp [intOf]; omega
    · obtain rfl : k = n := by omega
      go_wp2
      go_ret
      exact ⟨_, rfl, rfl, by have := HA.out; rw [← HL.out, List.take_length] at this; rw [this]; rfl⟩
set_option maxRecDepth 100000 in
theorem contains_any (A : Option Addr) (n cap : Nat) (ss : List ByteArray) (s : ByteArray) (w : World) (hr : RdS w A n ss) : Calls Tryz.prog 106 #[.slice A n cap, .string s] w fun e w' => e = .returned (.bool (hasS ss s)) ∧ w = w' := by
  have HI := Lib.hid (index_any A n cap ss s w hr)
  clear hr
  go_enter Tryz.func106, Tryz.ntmps106
  go_wp2_with fail
  refine HI.out.mono ?_
  rintro e w' ⟨k, rfl, rfl, hk⟩
  have HK := Lib.hid hk
  clear hk
  go_wp2
  go_ret
  exact ⟨by rw [← HK.out]; rfl, rfl⟩
theorem hasS_names (m : List Ent) (x : Nm) : hasS (m.map fun e => ⟨e.nm.toArray⟩) ⟨x.toArray⟩ = (Dk.get Ent.nm x m).isSome := by
  have hl : ∀ y : Nm, (⟨y.toArray⟩ : ByteArray).toList = y := fun y => by rw [ByteArray.toList_eq]
  unfold hasS Dk.get
  induction m with
  | nil => rfl
  | cons e m ih =>
    rw [List.map_cons, List.any_cons, List.find?_cons, ih]
    simp only [hl]
    cases hb : (e.nm == x) with
    | true => rw [show (x == e.nm) = true by simp at hb ⊢; exact hb.symm]; rfl
    | false => rw [show (x == e.nm) = false by simp at hb ⊢; exact fun h => hb h.symm]; rfl
theorem has_new {w : World} {g b : Nat} {m : List Ent} {t : St} (h : Im w g b m t) (x : Nm) : (Dk.get Ent.nm x m).isSome = (fget x t.fs).isSome := by
  have := h.get ⟨x.toArray⟩
  simp only at this
  rw [this]
  unfold found
  simp
/-- what a call has left of a disk, and of the blocks that are none of its own -/
def LeftM (w : World) (g b : Nat) (m m' : List Ent) (w' : World) : Prop := Dk.Fr (g :: b :: blks m) w w' ∧ ∀ i ∈ blks m', i ∈ blks m ∨ w.heap.size ≤ i
theorem LeftM.refl (w : World) (g b : Nat) (m : List Ent) : LeftM w g b m m w := ⟨Dk.Fr.refl _ _, fun _ h => .inl h⟩
theorem LeftM.trans {w w1 w2 : World} {g b : Nat} {m m1 m2 : List Ent} (h : LeftM w g b m m1 w1) (k : LeftM w1 g b m1 m2 w2) : LeftM w g b m m2 w2 := by
  refine ⟨h.1.trans k.1 ?_, ?_⟩
  · intro i hi
    simp only [List.mem_cons] at hi ⊢
    rcases hi with rfl | rfl | hi
    · exact .inl (.inl rfl)
    · exact .inl (.inr (.inl rfl))
    · rcases h.2 i hi with h1 | h1
      · exact .inl (.inr (.inr h1))
      · exact .inr h1
  · intro i hi
    rcases k.2 i hi with h1 | h1
    · exact h.2 i h1
    · exact .inr (Nat.le_trans h.1.size h1)
theorem LeftM.below {w w1 : World} {g b : Nat} {m : List Ent} (hb : Below w.heap.size w w1) : LeftM w g b m m w1 := ⟨Dk.Fr.below hb, fun _ h => .inl h⟩
theorem Apart.left {w w' : World} {g b : Nat} {m m' : List Ent} {A : Option Addr} {n : Nat} {zs : List Int} (hA : Apart w g b m A n zs) (h : LeftM w g b m m' w') : Apart w' g b m' A n zs := by
  obtain ⟨h2, h3⟩ := h
  refine ⟨rd_off hA.1 h2 hA.2, fun hn a ha hm => ?_⟩
  have hno := hA.2 hn a ha
  simp only [List.mem_cons, not_or] at hno hm
  rcases hm with hm | hm | hm
  · exact hno.1 hm
  · exact hno.2.1 hm
  · rcases h3 _ hm with h4 | h4
    · exact hno.2.2 h4
    · obtain ⟨bb, off, e, hc⟩ := hA.1.2.2.2 hn
      rw [ha] at e
      injection e with e
      have := lt_of_cell (hc 0 hn)
      rw [e] at h4
      simp only at h4 this
      omega
theorem new_add (x : Nm) (hx : x.length ≤ 60) (W : World) : (Op.stringOp .add ⟨x.toArray⟩ ⟨#[46, 110, 101, 119]⟩).run Tryz.prog W = .ok (.string ⟨(x ++ newE).toArray⟩) W := run_string_add_lists W x newE (by omega) (by decide)
set_option maxRecDepth 100000 in
set_option maxHeartbeats 3200000 in
theorem write_any (g b : Nat) (m : List Ent) (t : St) (x : Nm) (A : Option Addr) (n cap : Nat) (ys : List Int) (w : World) (h : Im w g b m t) (hx : x.length ≤ 60) (hm : t.fs.length ≤ 900000) (hap : Apart w g b m A n ys) (hA : A = none → cap = 0) (hn : n ≤ 140737488355328) :
    Calls Tryz.prog 74 #[.pointer (some ⟨g, 0, none⟩), .string ⟨x.toArray⟩, .slice A n cap] w (Did w g b m (stWrite x ys t)) := by
  have p1 := new_add x hx
  have HN := Lib.hid (names_any g b m t w h (by omega))
  have HH := Lib.hid (has_new h (x ++ newE))
  have HI0 := Lib.hid h
  have HAP0 := Lib.hid hap
  have HST0 := Lib.hid (show stWrite x ys t = if (fget (x ++ newE) t.fs).isSome then thn (stUnlink (x ++ newE) t) (wr3 x ys) else wr3 x ys t from rfl)
  have HLE0 := Lib.hid hm
  clear h hap hm
  generalize stWrite x ys t = R at *
  go_enter Tryz.func74, Tryz.ntmps74
  go_wp2_with fail
  refine HN.out.mono ?_
  rintro e w1 ⟨A1, c1, rfl, hr1, _, hb1⟩
  have HC := Lib.hid (contains_any A1 _ c1 _ ⟨(x ++ newE).toArray⟩ w1 hr1)
  rw [hasS_names, HH.out] at HC
  have HI1 := Lib.hid (HI0.out.below hb1)
  have HL1 := Lib.hid (LeftM.below (g := g) (b := b) (m := m) hb1)
  have HAP1 := Lib.hid (Apart.left HAP0.out HL1.out)
  clear hr1 hb1 HN HI0 HAP0 HH
  go_wp2_with fail
  refine HC.out.mono ?_
  rintro e w2 ⟨rfl, rfl⟩
  clear HC
  cases hb : (fget (x ++ newE) t.fs).isSome with
  | true =>
    rw [hb, if_pos rfl] at HST0
    have HU := Lib.hid (unl_did g b m t ⟨(x ++ newE).toArray⟩ w1 HI1.out)
    go_wp2_with fail
    refine HU.out.mono ?_
    rintro e w3 ⟨rfl, m3, hL3⟩
    obtain ⟨hI3, hL3⟩ := show Im w3 g b m3 (stUnlink (x ++ newE) t).2 ∧ LeftM w1 g b m m3 w3 from ⟨hL3.1, ⟨hL3.2.1, hL3.2.2⟩⟩
    have HLE3 := Lib.hid (unl_le (x ++ newE) t)
    have HI3 := Lib.hid hI3
    have HL3 := Lib.hid (HL1.out.trans hL3)
    have HAP3 := Lib.hid (Apart.left HAP1.out hL3)
    clear HU hI3 hL3 HI1 HL1 HAP1 hb
    generalize stUnlink (x ++ newE) t = r3 at *
    obtain ⟨c3, t3⟩ := r3
    try simp only at HI3 HST0 HLE3 ⊢
    by_cases h3 : c3 = 0
    · subst h3
      have HST := Lib.hid (HST0.out.trans (thn_ok _ rfl))
      have HLE := Lib.hid (show t3.fs.length ≤ 900000 by have := HLE0.out; have := HLE3.out; omega)
      have HI := HI3
      have HLM := HL3
      have HAP := HAP3
      clear HST0 HLE0 HLE3 HI3 HL3 HAP3
      try simp only at HST

      have HA1 := Lib.hid (app_did g b m3 t3 ⟨(x ++ newE).toArray⟩ A n cap ys w3 HI.out (by have := HLE.out; omega) (HAP.out.1) hA (by omega))
      go_wp2_with fail
      refine HA1.out.mono ?_
      rintro e w4 ⟨rfl, m4, hL4⟩
      obtain ⟨hI4, hL4⟩ := show Im w4 g b m4 (stAppend (x ++ newE) ys t3).2 ∧ LeftM w g b m m4 w4 from ⟨hL4.1, HLM.out.trans ⟨hL4.2.1, hL4.2.2⟩⟩
      have HLE4 := Lib.hid (app_le (x ++ newE) ys t3)
      have HI4 := Lib.hid hI4
      have HL4 := Lib.hid hL4
      clear HA1 hI4 hL4
      unfold wr3 at HST
      generalize stAppend (x ++ newE) ys t3 = r4 at *
      obtain ⟨c4, t4⟩ := r4
      try simp only at HI4 HST HLE4 ⊢
      by_cases h4 : c4 = 0
      · subst h4
        rw [thn_ok _ rfl] at HST
        have HS1 := Lib.hid (sync_did g b m4 t4 ⟨(x ++ newE).toArray⟩ w4 HI4.out (by have := HLE.out; have := HLE4.out; omega))
        go_wp2_with fail
        refine HS1.out.mono ?_
        rintro e w5 ⟨rfl, m5, hL5⟩
        obtain ⟨hI5, hL5⟩ := show Im w5 g b m5 (stSync (x ++ newE) t4).2 ∧ LeftM w g b m m5 w5 from ⟨hL5.1, HL4.out.trans ⟨hL5.2.1, hL5.2.2⟩⟩
        have HLE5 := Lib.hid (sync_le (x ++ newE) t4)
        have HI5 := Lib.hid hI5
        have HL5 := Lib.hid hL5
        clear HS1 hI5 hL5
        try simp only at HST
        generalize stSync (x ++ newE) t4 = r5 at *
        obtain ⟨c5, t5⟩ := r5
        try simp only at HI5 HST HLE5 ⊢
        by_cases h5 : c5 = 0
        · subst h5
          rw [thn_ok _ rfl] at HST
          have HR1 := Lib.hid (ren_did g b m5 t5 ⟨(x ++ newE).toArray⟩ ⟨x.toArray⟩ w5 HI5.out (by have := HLE.out; have := HLE4.out; have := HLE5.out; omega))
          go_wp2_with fail
          refine HR1.out.mono ?_
          rintro e w6 ⟨rfl, m6, hL6⟩
          have HL6 := Lib.hid (show Dk.Left w g b m (stRename (x ++ newE) x t5).2 w6 from ⟨m6, hL6.1, HL5.out.trans ⟨hL6.2.1, hL6.2.2⟩⟩)
          clear HR1 hL6
          try simp only at HST
          go_wp2
          go_ret
          exact ⟨by rw [HST.out]; rfl, by rw [HST.out]; exact HL6.out⟩
        · rw [thn_no _ h5] at HST
          go_wp2
          go_ret
          exact ⟨by rw [HST.out]; rfl, by rw [HST.out]; exact ⟨m5, HI5.out, HL5.out⟩⟩
      · rw [thn_no _ h4] at HST
        go_wp2
        go_ret
        exact ⟨by rw [HST.out]; rfl, by rw [HST.out]; exact ⟨m4, HI4.out, HL4.out⟩⟩

    · have HST := Lib.hid (HST0.out.trans (thn_no _ h3))
      go_wp2
      go_ret
      exact ⟨by rw [HST.out]; rfl, by rw [HST.out]; exact ⟨m3, HI3.out, HL3.out⟩⟩
  | false =>
    rw [hb] at HST0
    have HST := Lib.hid (show R = wr3 x ys t from HST0.out)
    · have HLE := HLE0
      have HI := HI1
      have HLM := HL1
      have HAP := HAP1
      clear HST0 HLE0 HI1 HL1 HAP1 hb

      have HA1 := Lib.hid (app_did g b m t ⟨(x ++ newE).toArray⟩ A n cap ys w1 HI.out (by have := HLE.out; omega) (HAP.out.1) hA (by omega))
      go_wp2_with fail
      refine HA1.out.mono ?_
      rintro e w4 ⟨rfl, m4, hL4⟩
      obtain ⟨hI4, hL4⟩ := show Im w4 g b m4 (stAppend (x ++ newE) ys t).2 ∧ LeftM w g b m m4 w4 from ⟨hL4.1, HLM.out.trans ⟨hL4.2.1, hL4.2.2⟩⟩
      have HLE4 := Lib.hid (app_le (x ++ newE) ys t)
      have HI4 := Lib.hid hI4
      have HL4 := Lib.hid hL4
      clear HA1 hI4 hL4
      unfold wr3 at HST
      generalize stAppend (x ++ newE) ys t = r4 at *
      obtain ⟨c4, t4⟩ := r4
      try simp only at HI4 HST HLE4 ⊢
      by_cases h4 : c4 = 0
      · subst h4
        rw [thn_ok _ rfl] at HST
        have HS1 := Lib.hid (sync_did g b m4 t4 ⟨(x ++ newE).toArray⟩ w4 HI4.out (by have := HLE.out; have := HLE4.out; omega))
        go_wp2_with fail
        refine HS1.out.mono ?_
        rintro e w5 ⟨rfl, m5, hL5⟩
        obtain ⟨hI5, hL5⟩ := show Im w5 g b m5 (stSync (x ++ newE) t4).2 ∧ LeftM w g b m m5 w5 from ⟨hL5.1, HL4.out.trans ⟨hL5.2.1, hL5.2.2⟩⟩
        have HLE5 := Lib.hid (sync_le (x ++ newE) t4)
        have HI5 := Lib.hid hI5
        have HL5 := Lib.hid hL5
        clear HS1 hI5 hL5
        try simp only at HST
        generalize stSync (x ++ newE) t4 = r5 at *
        obtain ⟨c5, t5⟩ := r5
        try simp only at HI5 HST HLE5 ⊢
        by_cases h5 : c5 = 0
        · subst h5
          rw [thn_ok _ rfl] at HST
          have HR1 := Lib.hid (ren_did g b m5 t5 ⟨(x ++ newE).toArray⟩ ⟨x.toArray⟩ w5 HI5.out (by have := HLE.out; have := HLE4.out; have := HLE5.out; omega))
          go_wp2_with fail
          refine HR1.out.mono ?_
          rintro e w6 ⟨rfl, m6, hL6⟩
          have HL6 := Lib.hid (show Dk.Left w g b m (stRename (x ++ newE) x t5).2 w6 from ⟨m6, hL6.1, HL5.out.trans ⟨hL6.2.1, hL6.2.2⟩⟩)
          clear HR1 hL6
          try simp only at HST
          go_wp2
          go_ret
          exact ⟨by rw [HST.out]; rfl, by rw [HST.out]; exact HL6.out⟩
        · rw [thn_no _ h5] at HST
          go_wp2
          go_ret
          exact ⟨by rw [HST.out]; rfl, by rw [HST.out]; exact ⟨m5, HI5.out, HL5.out⟩⟩
      · rw [thn_no _ h4] at HST
        go_wp2
        go_ret
        exact ⟨by rw [HST.out]; rfl, by rw [HST.out]; exact ⟨m4, HI4.out, HL4.out⟩⟩

end Go.Proofs.YtejphnbhcabchaaGreat.Kp

namespace Go.Proofs.YtejphnbhcabchaaGreat.Kp
open Go.RowKit Go.Proofs.YtejphnbhcabchaaGreat.Dk Go.Proofs.YtejphnbhcabchaaGreat.Fld
set_option linter.unusedVariables false

def enc (l : List Nat) : List Int := l.flatMap code
theorem enc_len (l : List Nat) (h : ∀ n ∈ l, n < 18446744073709551616) : (enc l).length ≤ 9 * l.length := by
  induction l with
  | nil => simp [enc]
  | cons n l ih =>
    have h1 := digs_len8 n (h n (by simp))
    have h2 := ih (fun m hm => h m (by simp [hm]))
    unfold enc at *
    rw [List.flatMap_cons, List.length_append, code_len, List.length_cons]
    omega
theorem enc_take (l : List Nat) (k : Nat) (h : k < l.length) : enc (l.take (k + 1)) = enc (l.take k) ++ code (l.getD k 0) := by
  rw [List.take_add_one, List.getElem?_eq_getElem h, enc, List.flatMap_append, List.getD_eq_getElem?_getD, List.getElem?_eq_getElem h]
  simp [enc]
theorem alloc_below (w : World) (o : Obj) : Below w.heap.size w (w.alloc o) := (Below.refl _ _).alloc (Nat.le_refl _) o
def ints (l : List Nat) : List Int := l.map fun (n : Nat) => (n : Int)
theorem ints_at (l : List Nat) (k : Nat) (h : k < l.length) : (ints l).getD k 0 = ((l.getD k 0 : Nat) : Int) := by simp [ints, h]
set_option maxRecDepth 100000 in
set_option maxHeartbeats 3200000 in
theorem numbers_any (A : Option Addr) (n cap : Nat) (l : List Nat) (w : World) (hr : Dk.RdI w A n (ints l)) (hl : l.length = n) (hn : n ≤ 100) (hs : ∀ m ∈ l, m ≤ 9223372036854775807) :
    Calls Tryz.prog 59 #[.slice A n cap] w (Made w (enc l)) := by
  have HR := Lib.hid hr
  have HL := Lib.hid hl
  have HS := Lib.hid hs
  clear hr hl hs
  go_enter Tryz.func59, Tryz.ntmps59
  go_wp2
  go_loopw [3, 8] (fun v i wr => ∃ k : Nat, k ≤ n ∧ i = .int .i64 k ∧ Own w wr v (enc (l.take k))) (fun _ i _ => n - (intOf i).toNat)
  case atStart => exact ⟨0, Nat.zero_le _, rfl, Own.nil w w (Below.refl _ _)⟩
  case round =>
    obtain ⟨k, hk, rfl, hO⟩ := hrel
    have HO := Lib.hid hO
    clear hO
    by_cases hlt : k < n
    · obtain ⟨b, off, rfl, hc1⟩ := HR.out.2.2 (by omega)
      have hc := hc1 k hlt
      rw [ints_at l k (by rw [HL.out]; exact hlt)] at hc
      have hc := (HO.out.1.cell (lt_of_cell hc)).trans hc
      clear hc1
      have hm : l.getD k 0 ≤ 9223372036854775807 := HS.out _ (by rw [List.getD_eq_getElem?_getD, List.getElem?_eq_getElem (by rw [HL.out]; exact hlt)]; simp)
      have HE := Lib.hid (enc_take l k (by rw [HL.out]; exact hlt))
      have HL1 := Lib.hid (show (enc (l.take k)).length ≤ 900 from by
        have := enc_len (l.take k) (fun m hm => by have := HS.out m (List.mem_of_mem_take hm); omega)
        rw [List.length_take] at this
        omega)
      generalize l.getD k 0 = m at *
      have HN := Lib.hid (number_any m (by omega) wr)
      have HM := Lib.hid (digs_len8 m (by omega))
      go_wp2_with fail
      refine HN.out.mono ?_
      rintro e w1 ⟨v1, rfl, hO1⟩
      obtain ⟨A1, c1, rfl, hs1, _⟩ := hO1.sl _ rfl
      have HO1 := Lib.hid (HO.out.below hO1.1)
      have HS1 := Lib.hid hs1
      clear hs1 hO1
      go_wp2_with (at_builtin; refine wpList_append_rd rfl _ _ rfl w _ (enc (l.take k)) rfl HO1.out A1 _ c1 (code m) rfl HS1.out.2.2.2.1 HS1.out.1 (by have := HM.out; have := HL1.out; rw [code_len]; omega) ?_; intro v2 w2 hO2 _ _; have HO2 := Lib.hid hO2; clear hO2)
      go_roundw
      case rel => exact ⟨k + 1, by omega, by go_num, by rw [HE.out]; exact HO2.out⟩
      case measure => simp [intOf]; omega
    · obtain rfl : k = n := by omega
      go_wp2
      go_ret
      exact ⟨_, rfl, by have := HO.out; rwa [← HL.out, List.take_length] at this⟩
theorem rdI_built (w : World) (l : List Nat) (hl : l.length ≤ 100) (t : TypeId) : Dk.RdI (w.alloc (.cells (l.map fun (n : Nat) => Value.int .i64 (n : Int)).toArray t)) (some ⟨w.heap.size, 0, none⟩) l.length (ints l) := by
  refine ⟨by simp [ints], by unfold maxLen; omega, fun _ => ⟨_, _, rfl, fun i hi => ?_⟩⟩
  rw [World.cell?_alloc_mark, Nat.zero_add, ints_at l i hi]
  simp [hi]
def idxOk (a : Int) : Bool := decide (0 ≤ a) && decide (a ≤ 1099511627776)
set_option maxRecDepth 100000 in
theorem validIndex_any (a : Int) (w : World) : Calls Tryz.prog 93 #[.int .i64 a] w fun e w' => e = .returned (.bool (idxOk a)) ∧ w = w' := by
  unfold idxOk
  by_cases h1 : 0 ≤ a
  · by_cases h2 : a ≤ 1099511627776
    all_goals
      go_enter Tryz.func93, Tryz.ntmps93
      go_wp2
      go_ret
      exact ⟨by simp [h1, h2], rfl⟩
  · go_enter Tryz.func93, Tryz.ntmps93
    go_wp2
    go_ret
    exact ⟨by simp; omega, rfl⟩
theorem hardOk_eq (a b : Int) : hardOk a b = (idxOk a && (decide (0 ≤ b) && decide (b ≤ 15))) := rfl
def hardV (a b : Int) : Value := .agg #[.int .i64 a, .int .i64 b]
set_option maxRecDepth 100000 in
theorem validHard_any (a b : Int) (w : World) : Calls Tryz.prog 75 #[hardV a b] w fun e w' => e = .returned (.bool (hardOk a b)) ∧ Below w.heap.size w w' := by
  have HB := Lib.hid (alloc_below w (.cells #[.int .i64 a, .int .i64 b] 32))
  have HI := fun W => Lib.hid (validIndex_any a W)
  rw [hardOk_eq]
  unfold hardV
  generalize idxOk a = B at *
  cases B with
  | false =>
    go_enter Tryz.func75, Tryz.ntmps75
    go_wp2_with (go_at_call 93; refine (HI _).out.mono ?_; rintro e w' ⟨rfl, rfl⟩)
    go_ret
    exact ⟨rfl, HB.out⟩
  | true =>
    by_cases h1 : 0 ≤ b
    · by_cases h2 : b ≤ 15
      all_goals
        go_enter Tryz.func75, Tryz.ntmps75
        go_wp2_with (go_at_call 93; refine (HI _).out.mono ?_; rintro e w' ⟨rfl, rfl⟩)
        go_ret
        exact ⟨by simp [h1, h2], HB.out⟩
    · go_enter Tryz.func75, Tryz.ntmps75
      go_wp2_with (go_at_call 93; refine (HI _).out.mono ?_; rintro e w' ⟨rfl, rfl⟩)
      go_ret
      exact ⟨by simp; omega, HB.out⟩
/-- what an encoding function answers -/
def Encd (w : World) (ok : Bool) (zs : List Int) (e : Ending) (w' : World) : Prop := if ok then ∃ v, e = .returned (.tuple #[v, .int .i64 0]) ∧ Own w w' v zs else e = .returned (.tuple #[.slice none 0 0, .int .i64 1]) ∧ Below w.heap.size w w'
theorem hard_nat {a b : Int} (h : hardOk a b = true) : ∃ m n : Nat, a = (m : Int) ∧ b = (n : Int) ∧ m ≤ 1099511627776 ∧ n ≤ 15 := by
  unfold hardOk at h
  simp only [Bool.and_eq_true, decide_eq_true_eq] at h
  exact ⟨a.toNat, b.toNat, by omega, by omega, by omega, by omega⟩
theorem hardC_enc (m n : Nat) : enc [m, n] = hardC m n := by simp [enc, hardC]
set_option maxRecDepth 100000 in
set_option maxHeartbeats 800000 in
theorem encodeHard_any (a b : Int) (w : World) : Calls Tryz.prog 38 #[hardV a b] w (Encd w (hardOk a b) (hardC a.toNat b.toNat)) := by
  have HB := Lib.hid (alloc_below w (.cells #[.int .i64 a, .int .i64 b] 32))
  have HV := Lib.hid (validHard_any a b (w.alloc (.cells #[.int .i64 a, .int .i64 b] 32)))
  cases hok : hardOk a b with
  | false =>
    rw [hok] at HV
    unfold hardV at HV ⊢
    go_enter Tryz.func38, Tryz.ntmps38
    go_wp2_with (go_at_call 75; refine HV.out.mono ?_; rintro e w' ⟨rfl, hb1⟩; have HB1 := Lib.hid hb1; clear hb1)
    go_ret2
    exact ⟨rfl, HB.out.trans (HB1.out.mono HB.out.size)⟩
  | true =>
    rw [hok] at HV
    unfold hardV at HV ⊢
    obtain ⟨m, n, rfl, rfl, hm, hn⟩ := hard_nat hok
    rw [Int.toNat_natCast, Int.toNat_natCast]
    clear hok
    have c0 : (w.alloc (.cells #[.int .i64 (m : Int), .int .i64 (n : Int)] 32)).cell? ⟨w.heap.size, 0, none⟩ = some (.int .i64 (m : Int)) := by rw [World.cell?_alloc_mark]; rfl
    have c1 : (w.alloc (.cells #[.int .i64 (m : Int), .int .i64 (n : Int)] 32)).cell? ⟨w.heap.size, 1, none⟩ = some (.int .i64 (n : Int)) := by rw [World.cell?_alloc_mark]; rfl
    go_enter Tryz.func38, Tryz.ntmps38
    go_wp2_with fail
    refine HV.out.mono ?_
    rintro e w1 ⟨rfl, hb1⟩
    have d0 := (hb1.cell (lt_of_cell c0)).trans c0
    have d1 := (hb1.cell (lt_of_cell c1)).trans c1
    have HB1 := Lib.hid (HB.out.trans (hb1.mono HB.out.size))
    clear hb1 c0 c1
    have HR := Lib.hid (rdI_built w1 [m, n] (by simp) 3)
    have HN := Lib.hid (numbers_any _ 2 2 [m, n] _ HR.out rfl (by omega) (by simp; omega))
    have HB2 := Lib.hid (HB1.out.trans ((alloc_below w1 (.cells #[.int .i64 (m : Int), .int .i64 (n : Int)] 3)).mono HB1.out.size))
    go_wp2_with fail
    refine HN.out.mono ?_
    rintro e w2 ⟨v2, rfl, hO2⟩
    have HO2 := Lib.hid (hO2.since HB2.out)
    clear hO2
    rw [hardC_enc] at HO2
    go_wp2
    go_ret2
    exact ⟨_, rfl, HO2.out⟩
end Go.Proofs.YtejphnbhcabchaaGreat.Kp

namespace Go.Proofs.YtejphnbhcabchaaGreat.Kp
open Go.RowKit Go.Proofs.YtejphnbhcabchaaGreat.Dk Go.Proofs.YtejphnbhcabchaaGreat.Fld
set_option linter.unusedVariables false

theorem hardC_len (m n : Nat) (hm : m ≤ 1099511627776) (hn : n ≤ 15) : (hardC m n).length ≤ 18 := by
  have h1 := digs_len8 m (by omega)
  have h2 := digs_len8 n (by omega)
  unfold hardC
  rw [List.length_append, code_len, code_len]
  omega
/-- what SaveHard answers, and makes of the disk -/
def stHard (a b : Int) (t : St) : Int × St := if hardOk a b then stWrite hardN (Rc.recd (hardC a.toNat b.toNat)) t else (1, t)
set_option maxRecDepth 100000 in
set_option maxHeartbeats 1600000 in
theorem save_any (g b : Nat) (m : List Ent) (t : St) (p q : Int) (w : World) (h : Im w g b m t) (hm : t.fs.length ≤ 900000) :
    Calls Tryz.prog 37 #[.pointer (some ⟨g, 0, none⟩), .string ⟨#[104, 97, 114, 100]⟩, hardV p q, .func (.func 38) #[] #[]] w (Did w g b m (stHard p q t)) := by
  have HB := Lib.hid (alloc_below w (.cells #[.int .i64 p, .int .i64 q] 32))
  have HE := Lib.hid (encodeHard_any p q (w.alloc (.cells #[.int .i64 p, .int .i64 q] 32)))
  have HI := Lib.hid h
  unfold stHard
  cases hok : hardOk p q with
  | false =>
    rw [hok] at HE
    unfold hardV at HE ⊢
    clear h
    go_enter Tryz.func37, Tryz.ntmps37
    go_wp2_with fail
    refine HE.out.mono ?_
    rintro e w1 ⟨rfl, hb1⟩
    have HB1 := Lib.hid (HB.out.trans (hb1.mono HB.out.size))
    clear hb1
    go_wp2
    go_ret
    exact ⟨rfl, m, HI.out.below HB1.out, LeftM.below HB1.out⟩
  | true =>
    rw [hok] at HE
    unfold hardV at HE ⊢
    have HLN := Lib.hid (show (hardC p.toNat q.toNat).length ≤ 18 by
      obtain ⟨m', n', rfl, rfl, hm, hn⟩ := hard_nat hok
      exact hardC_len _ _ (by omega) (by omega))
    clear hok h
    rw [if_pos rfl]
    generalize hardC p.toNat q.toNat = zs at *
    go_enter Tryz.func37, Tryz.ntmps37
    go_wp2_with fail
    refine HE.out.mono ?_
    rintro e w1 ⟨v1, rfl, hO1⟩
    obtain ⟨A1, c1, rfl, hs1, _⟩ := hO1.sl _ rfl
    have HB1 := Lib.hid (HB.out.trans (hO1.1.mono HB.out.size))
    have HP := Lib.hid (Rc.put_ok A1 _ c1 zs w1 hs1.1 hs1.2.2.2.1 (by have := HLN.out; omega))
    clear hs1 hO1 HE
    go_wp2_with fail
    refine HP.out.mono ?_
    rintro e w2 ⟨v2, rfl, hO2⟩
    obtain ⟨A2, c2, rfl, hs2, hf2⟩ := hO2.sl _ rfl
    have HI2 := Lib.hid (HI.out.below (HB1.out.trans (hO2.1.mono HB1.out.size)))
    have HL2 := Lib.hid (LeftM.below (g := g) (b := b) (m := m) (HB1.out.trans (hO2.1.mono HB1.out.size)))
    have HAP := Lib.hid (apart_new (HI.out.below HB1.out) hs2.1 hf2)
    have HW := Lib.hid (write_any g b m t hardN A2 _ c2 _ w2 HI2.out (by decide) hm HAP.out hs2.2.2.2.1 (by rw [Rc.recd_len]; have := HLN.out; omega))
    clear hs2 hO2 hf2 HP HAP
    go_wp2_with fail
    refine HW.out.mono ?_
    rintro e w3 ⟨rfl, m3, hI3, hL3⟩
    have HD := Lib.hid (show Dk.Left w g b m (stWrite hardN (Rc.recd zs) t).2 w3 from ⟨m3, hI3, HL2.out.trans hL3⟩)
    clear hI3 hL3 HW
    generalize stWrite hardN (Rc.recd zs) t = R at *
    go_wp2
    go_ret
    exact ⟨rfl, HD.out⟩
set_option maxRecDepth 100000 in
theorem saveHard_any (g b : Nat) (m : List Ent) (t : St) (p q : Int) (w : World) (h : Im w g b m t) (hm : t.fs.length ≤ 900000) :
    Calls Tryz.prog 11 #[.pointer (some ⟨g, 0, none⟩), hardV p q] w (Did w g b m (stHard p q t)) := by
  have HB := alloc_below w (.cells #[.int .i64 p, .int .i64 q] 32)
  have HS := Lib.hid (save_any g b m t p q _ (h.below HB) hm)
  have HL := Lib.hid (LeftM.below (g := g) (b := b) (m := m) HB)
  unfold hardV at HS ⊢
  clear h HB
  generalize stHard p q t = R at *
  go_enter Tryz.func11, Tryz.ntmps11
  go_wp2_with fail
  refine HS.out.mono ?_
  rintro e w3 ⟨rfl, m3, hI3, hL3⟩
  have HD := Lib.hid (show Dk.Left w g b m R.2 w3 from ⟨m3, hI3, HL.out.trans hL3⟩)
  clear hI3 hL3
  go_wp2
  go_ret
  exact ⟨rfl, HD.out⟩
end Go.Proofs.YtejphnbhcabchaaGreat.Kp

namespace Go.Proofs.YtejphnbhcabchaaGreat.Kp
open Go.RowKit Go.Proofs.YtejphnbhcabchaaGreat.Fld
set_option linter.unusedVariables false

theorem alloc_below' (w : World) (o : Obj) : Below w.heap.size w (w.alloc o) := (Below.refl _ _).alloc (Nat.le_refl _) o
/-- a block's cells -/
def Blk (w : World) (B : Nat) (cs : Array Value) (ty : TypeId) : Prop := w.heap[B]? = some (.cells cs ty (0, 0))
theorem Blk.cell {w : World} {B : Nat} {cs : Array Value} {ty : TypeId} (h : Blk w B cs ty) (i : Nat) (v : Value) (hv : cs[i]? = some v) : w.cell? ⟨B, i, none⟩ = some v := by rw [cell_of_row w B i _ _ (0, 0) h]; exact hv
theorem Blk.free {w : World} {B : Nat} {cs : Array Value} {ty : TypeId} (h : Blk w B cs ty) (i : Nat) : w.frozen? ⟨B, i, none⟩ = false := frozen_of_row w B i _ _ h
theorem Blk.lt {w : World} {B : Nat} {cs : Array Value} {ty : TypeId} (h : Blk w B cs ty) : B < w.heap.size := by
  rcases Nat.lt_or_ge B w.heap.size with h' | h'
  · exact h'
  · unfold Blk at h; rw [Array.getElem?_eq_none h'] at h; cases h
theorem Blk.of {w w' : World} {B : Nat} {cs : Array Value} {ty : TypeId} (h : Blk w B cs ty) (hb : w'.heap[B]? = w.heap[B]?) : Blk w' B cs ty := hb.trans h
theorem Blk.chg {w w' : World} {B g : Nat} {cs : Array Value} {ty : TypeId} (h : Blk w B cs ty) (hc : Chg g w w') (hg : B ≠ g) : Blk w' B cs ty := h.of (hc.block B h.lt hg)
theorem Blk.below {w w' : World} {B : Nat} {cs : Array Value} {ty : TypeId} (h : Blk w B cs ty) (hb : Below w.heap.size w w') : Blk w' B cs ty := h.of (hb.block B h.lt)
theorem Blk.new (w : World) (cs : Array Value) (ty : TypeId) : Blk (w.alloc (.cells cs ty)) w.heap.size cs ty := heap_alloc_new w _
theorem Blk.past {w : World} {B : Nat} {cs : Array Value} {ty : TypeId} (h : Blk w B cs ty) (o : Obj) : Blk (w.alloc o) B cs ty := h.of (Below.heap_alloc _ _ _ h.lt)
theorem Blk.set {w : World} {B : Nat} {cs : Array Value} {ty : TypeId} (h : Blk w B cs ty) (i : Nat) (v : Value) (hi : i < cs.size) : Blk (w.setCell ⟨B, i, none⟩ v) B (cs.setIfInBounds i v) ty := heap_setCell_same w B i _ _ _ h
theorem Blk.far {w : World} {B : Nat} {cs : Array Value} {ty : TypeId} (h : Blk w B cs ty) (p : Addr) (hp : p.block ≠ B) (v : Value) : Blk (w.setCell p v) B cs ty := h.of (Below.heap_setCell _ _ _ _ (Ne.symm hp))

theorem Rdr.past {w : World} {g : Nat} {zs : List Int} {bad : Bool} (h : Rdr w g zs bad) (o : Obj) : Rdr (w.alloc o) g zs bad := h.below (alloc_below' w o)
theorem Rdr.far {w : World} {g : Nat} {zs : List Int} {bad : Bool} (h : Rdr w g zs bad) {B : Nat} {cs : Array Value} {ty : TypeId} (hb : Blk w B cs ty) (hg : B ≠ g) (i : Nat) (hi : ∀ c, cs[i]? ≠ some (.int .u8 c)) (v : Value) : Rdr (w.setCell ⟨B, i, none⟩ v) g zs bad := by
  obtain ⟨A, n, cap, h1, h2, h3⟩ := h
  refine ⟨A, n, cap, h1.other _ hg v, ⟨h2.1.of_same fun a c hc => ?_, h2.2⟩, h3⟩
  have hne : a ≠ ⟨B, i, none⟩ := by
    rintro rfl
    have := hb.cell i
    rw [cell_of_row w B i _ _ (0, 0) hb] at hc
    exact hi c hc
  exact World.cell?_setCell_other w _ _ _ (Ne.symm hne)
theorem Rd.far {w : World} {A : Option Addr} {n : Nat} {zs : List Int} (h : Rd w A n zs) {B : Nat} {cs : Array Value} {ty : TypeId} (hb : Blk w B cs ty) (i : Nat) (hi : ∀ c, cs[i]? ≠ some (.int .u8 c)) (v : Value) : Rd (w.setCell ⟨B, i, none⟩ v) A n zs := by
  refine h.of_same fun a c hc => ?_
  have hne : a ≠ ⟨B, i, none⟩ := by
    rintro rfl
    rw [cell_of_row w B i _ _ (0, 0) hb] at hc
    exact hi c hc
  exact World.cell?_setCell_other w _ _ _ (Ne.symm hne)
theorem Sl.far {w : World} {A : Option Addr} {n cap : Nat} {zs : List Int} (h : Sl w A n cap zs) {B : Nat} {cs : Array Value} {ty : TypeId} (hb : Blk w B cs ty) (i : Nat) (hi : ∀ c, cs[i]? ≠ some (.int .u8 c)) (v : Value) : Sl (w.setCell ⟨B, i, none⟩ v) A n cap zs := ⟨Rd.far h.1 hb i hi v, h.2⟩
/-- a block of the call's own, and the result's, behind one more reading -/
structure Twos (g : Nat) (w W : World) (q : List Int × Bool) (R C : Nat) (rs cs : Array Value) (tr tc : TypeId) : Prop where
  rd : Rdr W g q.1 q.2
  res : Blk W R rs tr
  own : Blk W C cs tc
  chg : Chg g w W
  r : w.heap.size ≤ R
  c : w.heap.size ≤ C
  ne : R ≠ C ∧ R ≠ g ∧ C ≠ g
theorem Twos.call {g : Nat} {w W W' : World} {q q' : List Int × Bool} {R C : Nat} {rs cs : Array Value} {tr tc : TypeId} (h : Twos g w W q R C rs cs tr tc) (hc : Chg g W W') (hr : Rdr W' g q'.1 q'.2) : Twos g w W' q' R C rs cs tr tc :=
  ⟨hr, h.res.chg hc h.ne.2.1, h.own.chg hc h.ne.2.2, h.chg.trans hc, h.r, h.c, h.ne⟩
theorem Twos.store {g : Nat} {w W : World} {q : List Int × Bool} {R C : Nat} {rs cs : Array Value} {tr tc : TypeId} (h : Twos g w W q R C rs cs tr tc) (i : Nat) (hi : i < cs.size) (hn : ∀ c, cs[i]? ≠ some (.int .u8 c)) (v : Value) : Twos g w (W.setCell ⟨C, i, none⟩ v) q R C rs (cs.setIfInBounds i v) tr tc :=
  ⟨Rdr.far h.rd h.own h.ne.2.2 i hn v, h.res.far _ (Ne.symm h.ne.1) v, h.own.set i v hi, h.chg.setCell _ (.inr h.c) v, h.r, h.c, h.ne⟩
theorem Twos.storeR {g : Nat} {w W : World} {q : List Int × Bool} {R C : Nat} {rs cs : Array Value} {tr tc : TypeId} (h : Twos g w W q R C rs cs tr tc) (i : Nat) (hi : i < rs.size) (hn : ∀ c, rs[i]? ≠ some (.int .u8 c)) (v : Value) : Twos g w (W.setCell ⟨R, i, none⟩ v) q R C (rs.setIfInBounds i v) cs tr tc :=
  ⟨Rdr.far h.rd h.res h.ne.2.1 i hn v, h.res.set i v hi, h.own.far _ h.ne.1 v, h.chg.setCell _ (.inr h.r) v, h.r, h.c, h.ne⟩
theorem results_two {P : Program} {fn : Func} {p u : Tmp} {ty : TypeId} (h : fn.results = #[.cell p ty, .tmp u]) (tmps : Array Value) (w : World) (g : Nat) (t : TypeId) (cs : Array Value) (fr : Nat × Nat) (d : TypeDesc)
    (hp : tmps.getD p undef = .pointer (some ⟨g, 0, none⟩)) (hg : w.heap[g]? = some (.cells cs t fr))
    (hu : P.underlying ty = some d) (hd : (match d with | .struct _ | .array _ _ => true | _ => false) = true) (hi : (P.info? ty).map (·.size) = some cs.size) :
    (results fn tmps).run P w = .ok (.tuple #[.agg cs, tmps.getD u undef]) w := by
  rw [results_cell_tmp h, hp]
  simp [asAddr, run_loadVar_row w g t ty cs fr d hg hu hd hi, Result.andThen]
theorem Twos.below {g : Nat} {w W : World} {q : List Int × Bool} {R C : Nat} {rs cs : Array Value} {tr tc : TypeId} (h : Twos g w W q R C rs cs tr tc) (hg : w.heap.size ≤ g) : Below w.heap.size w W :=
  ⟨h.chg.os, h.chg.tape, h.chg.output, h.chg.size, fun k hk => h.chg.block k hk (by omega)⟩
theorem and_far {w : World} {A : Option Addr} {n cap : Nat} {zs : List Int} (h : Rd w A n zs ∧ (A = none → cap = 0)) {B : Nat} {cs : Array Value} {ty : TypeId} (hb : Blk w B cs ty) (i : Nat) (hi : ∀ c, cs[i]? ≠ some (.int .u8 c)) (v : Value) : Rd (w.setCell ⟨B, i, none⟩ v) A n zs ∧ (A = none → cap = 0) := ⟨Rd.far h.1 hb i hi v, h.2⟩
end Go.Proofs.YtejphnbhcabchaaGreat.Kp

namespace Go.Proofs.YtejphnbhcabchaaGreat.Kp
open Go.RowKit Go.Proofs.YtejphnbhcabchaaGreat.Fld
set_option linter.unusedVariables false

theorem number_rd (g : Nat) (q : List Int × Bool) (w : World) (most : Nat) (h : Rdr w g q.1 q.2) : Calls Tryz.prog 97 #[.pointer (some ⟨g, 0, none⟩), .int .u64 (most : Int)] w (Got g w (.int .u64 ((rdN q most).1 : Int)) (rdN q most).2.1 (rdN q most).2.2) := by
  obtain ⟨zs, bad⟩ := q
  unfold rdN
  cases bad with
  | true => exact num_bad g zs w true h _ (.inl rfl)
  | false =>
    simp only [Bool.false_eq_true, if_false]
    cases hc : cutNum zs with
    | none => exact num_bad g zs w false h _ (.inr (.inl hc))
    | some vr =>
      obtain ⟨v, r⟩ := vr
      simp only
      by_cases hb : v ≤ most
      · rw [if_pos hb]
        exact num_ok g zs w h v r hc _ (by omega)
      · rw [if_neg hb]
        exact num_bad g zs w false h _ (.inr (.inr ⟨v, r, hc, by omega⟩))
theorem rdN_most (q : List Int × Bool) (most : Nat) : (rdN q most).1 ≤ most := by
  unfold rdN
  split
  · simp
  · split
    · split
      · assumption
      · simp
    · simp
set_option maxRecDepth 100000 in
theorem readNumber_any (g : Nat) (q : List Int × Bool) (w : World) (most : Nat) (hm : most ≤ 9223372036854775807) (h : Rdr w g q.1 q.2) : Calls Tryz.prog 66 #[.pointer (some ⟨g, 0, none⟩), .int .u64 (most : Int)] w (Got g w (.int .i64 ((rdN q most).1 : Int)) (rdN q most).2.1 (rdN q most).2.2) := by
  have HR := Lib.hid (number_rd g q w most h)
  have hv := rdN_most q most
  clear h
  obtain ⟨v, hv2⟩ : ∃ v, (rdN q most).1 = v := ⟨_, rfl⟩
  rw [hv2] at HR hv ⊢
  have hv : v ≤ 9223372036854775807 := by omega
  go_enter Tryz.func66, Tryz.ntmps66
  go_wp2_with (go_at_call 97; refine HR.out.mono ?_; rintro e w' ⟨rfl, hc, hr⟩; have HC := Lib.hid hc; have HRR := Lib.hid hr; clear hc hr)
  go_ret
  exact ⟨rfl, HC.out, HRR.out⟩
def HardIs (w : World) (r : (Int × Int) × Int) (e : Ending) (w' : World) : Prop := e = .returned (.tuple #[.agg #[.int .i64 r.1.1, .int .i64 r.1.2], .int .i64 r.2]) ∧ Below w.heap.size w w'
theorem decHard_eq (zs : List Int) : decHard zs = if wholeB (rdN (rdN (zs, false) 1099511627776).2 15).2.1 (rdN (rdN (zs, false) 1099511627776).2 15).2.2 then ((((rdN (zs, false) 1099511627776).1 : Int), ((rdN (rdN (zs, false) 1099511627776).2 15).1 : Int)), 0) else ((0, 0), 6) := by
  unfold decHard wholeB
  simp only
  cases (rdN (rdN (zs, false) 1099511627776).2 15).2.2 <;> simp
set_option maxRecDepth 100000 in
set_option maxHeartbeats 1600000 in
theorem decodeHard_any (A : Option Addr) (n cap : Nat) (zs : List Int) (w : World) (hr : Rd w A n zs) (hA : A = none → cap = 0) (hn : n ≤ 140737488355328) : Calls Tryz.prog 51 #[.slice A n cap] w (HardIs w (decHard zs)) := by
  have HB0 := Lib.hid (alloc_below' w (.cells #[.int .i64 0, .int .i64 0] 32))
  have HN := Lib.hid (new_any A n cap zs _ (hr.below HB0.out) hA hn)
  have HF := Lib.hid (decHard_eq zs)
  clear hr hA
  have HK0 := Lib.hid (Blk.new w #[.int .i64 0, .int .i64 0] 32)
  go_enter Tryz.func51, Tryz.ntmps51
  go_wp2_with fail
  generalize w.alloc (.cells #[.int .i64 0, .int .i64 0] 32) = w1 at *
  refine HN.out.mono ?_
  rintro e w2 ⟨g, rfl, hg, hrd, hb2⟩
  have HBL := Lib.hid (HB0.out.trans (hb2.mono HB0.out.size))
  have T0 := Lib.hid (show Twos g w (w2.alloc (.cells #[.int .i64 0, .int .i64 0] 32)) (zs, false) w.heap.size w2.heap.size #[.int .i64 0, .int .i64 0] #[.int .i64 0, .int .i64 0] 32 32 from
    ⟨Rdr.past hrd _, (HK0.out.below hb2).past _, Blk.new w2 _ _, (Chg.below HBL.out).alloc _, Nat.le_refl _, HBL.out.size, by have := HK0.out.lt; have := hb2.size; omega, by have := HK0.out.lt; omega, by have := hrd.lt; omega⟩)
  have HG := Lib.hid (show w.heap.size ≤ g by have := HB0.out.size; omega)
  clear hg hrd hb2 HN HBL HK0 HB0
  have q1 := readNumber_any g (zs, false) (w2.alloc (.cells #[.int .i64 0, .int .i64 0] 32)) 1099511627776 (by omega) T0.out.rd
  have HQ1 := Lib.hid q1
  clear q1
  go_wp2_with fail
  generalize w2.alloc (.cells #[.int .i64 0, .int .i64 0] 32) = w3 at *
  generalize w2.heap.size = C at *
  refine HQ1.out.mono ?_
  generalize rdN (zs, false) 1099511627776 = a1 at *
  obtain ⟨v1, q1⟩ := a1
  rintro e w4 ⟨rfl, hc, hr⟩
  have T1 := Lib.hid (T0.out.call hc hr)
  clear hc hr HQ1
  have c0 := T1.out.own.cell 0 _ rfl
  have f0 := T1.out.own.free 0
  go_wp2_with fail
  have T1b := Lib.hid (T1.out.store 0 (by simp) (by intro c h; cases h) (.int .i64 (v1 : Int)))
  generalize w4.setCell ⟨C, 0, none⟩ (.int .i64 (v1 : Int)) = w5 at *
  refine (readNumber_any g q1 w5 15 (by omega) T1b.out.rd).mono ?_
  try simp only at HF
  generalize rdN q1 15 = a2 at *
  obtain ⟨v2, q2⟩ := a2
  rintro e w6 ⟨rfl, hc, hr⟩
  have T2 := Lib.hid (T1b.out.call hc hr)
  clear hc hr c0 f0
  have c0 := T2.out.own.cell 1 _ rfl
  have f0 := T2.out.own.free 1
  go_wp2_with fail
  have T2b := Lib.hid (T2.out.store 1 (by simp) (by intro c h; cases h) (.int .i64 (v2 : Int)))
  generalize w6.setCell ⟨C, 1, none⟩ (.int .i64 (v2 : Int)) = w7 at *
  refine (whole_any g q2.1 q2.2 w7 T2b.out.rd).mono ?_
  rintro e w8 ⟨rfl, rfl⟩
  clear c0 f0
  try simp only at HF
  have d0 := T2b.out.own.cell 0 _ rfl
  have d1 := T2b.out.own.cell 1 _ rfl
  have r0 := T2b.out.res.cell 0 _ rfl
  have r1 := T2b.out.res.cell 1 _ rfl
  have g0 := T2b.out.res.free 0
  have g1 := T2b.out.res.free 1
  cases hwb : wholeB q2.1 q2.2 with
  | false =>
    rw [hwb] at HF
    have S0 := Lib.hid (T2b.out.storeR 0 (by simp) (by intro c h; cases h) (.int .i64 0))
    have S1 := Lib.hid (S0.out.storeR 1 (by simp) (by intro c h; cases h) (.int .i64 0))
    go_wp2
    refine bodyPost_ret (v := .tuple #[.agg #[.int .i64 0, .int .i64 0], .int .i64 6]) ?_ ?_ ?_
    · exact results_two Tryz.results51 _ _ w.heap.size 32 #[.int .i64 0, .int .i64 0] (0, 0) _ rfl S1.out.res Tryz.underlying32 rfl (by kernel_rfl)
    · rfl
    · exact ⟨by rw [HF.out]; rfl, S1.out.below HG.out⟩
  | true =>
    rw [hwb] at HF
    have S0 := Lib.hid (T2b.out.storeR 0 (by simp) (by intro c h; cases h) (.int .i64 (v1 : Int)))
    have S1 := Lib.hid (S0.out.storeR 1 (by simp) (by intro c h; cases h) (.int .i64 (v2 : Int)))
    go_wp2
    refine bodyPost_ret (v := .tuple #[.agg #[.int .i64 (v1 : Int), .int .i64 (v2 : Int)], .int .i64 0]) ?_ ?_ ?_
    · exact results_two Tryz.results51 _ _ w.heap.size 32 #[.int .i64 (v1 : Int), .int .i64 (v2 : Int)] (0, 0) _ rfl S1.out.res Tryz.underlying32 rfl (by kernel_rfl)
    · rfl
    · exact ⟨by rw [HF.out]; rfl, S1.out.below HG.out⟩
end Go.Proofs.YtejphnbhcabchaaGreat.Kp

namespace Go.Proofs.YtejphnbhcabchaaGreat.Kp
open Go.RowKit Go.Proofs.YtejphnbhcabchaaGreat.Dk Go.Proofs.YtejphnbhcabchaaGreat.Fld
set_option linter.unusedVariables false

/-- numbers of nodes that rise, above b -/
def upN : Int → List Int → Bool
  | _, [] => true
  | b, n :: r => decide (b < n) && decide (n ≤ 15) && upN n r
theorem upN_snoc : ∀ (xs : List Int) (b c : Int), upN b (xs ++ [c]) = (upN b xs && (decide (xs.getLastD b < c) && decide (c ≤ 15)))
  | [], b, c => by simp [upN]
  | n :: r, b, c => by
    rw [List.cons_append, upN, upN, upN_snoc r n c]
    have : (n :: r).getLastD b = r.getLastD n := by cases r <;> simp [List.getLastD]
    rw [this]
    simp [Bool.and_assoc]
theorem take_succ (l : List Int) (k : Nat) (h : k < l.length) : l.take (k + 1) = l.take k ++ [l.getD k 0] := by
  rw [List.take_add_one, List.getElem?_eq_getElem h, List.getD_eq_getElem?_getD, List.getElem?_eq_getElem h]
  rfl
theorem last_snoc (xs : List Int) (b c : Int) : (xs ++ [c]).getLastD b = c := by simp [List.getLastD_eq_getLast?]
theorem upN_false : ∀ (xs ys : List Int) (b : Int), upN b xs = false → upN b (xs ++ ys) = false
  | [], _, _, h => by simp [upN] at h
  | n :: r, ys, b, h => by
    rw [upN] at h
    rw [List.cons_append, upN]
    cases h1 : (decide (b < n) && decide (n ≤ 15)) with
    | false => rfl
    | true =>
      rw [h1] at h
      rw [upN_false r ys n (by simpa using h)]
      rfl
theorem upN_cut (l : List Int) (b : Int) (k : Nat) (h : upN b (l.take k) = false) : upN b l = false := by
  have := upN_false _ (l.drop k) b h
  rwa [List.take_append_drop] at this
set_option maxRecDepth 100000 in
set_option maxHeartbeats 1600000 in
theorem validNodes_any (A : Option Addr) (n cap : Nat) (l : List Int) (w : World) (hr : RdI w A n l) : Calls Tryz.prog 119 #[.slice A n cap] w fun e w' => e = .returned (.bool (upN 0 l)) ∧ w = w' := by
  obtain ⟨hl, hm, hc⟩ := hr
  unfold maxLen at hm
  obtain ⟨B, hB⟩ : ∃ B, upN 0 l = B := ⟨_, rfl⟩
  have HB := Lib.hid hB
  have HL := Lib.hid hl
  have HC := Lib.hid hc
  rw [hB]
  clear hB hl hc
  go_enter Tryz.func119, Tryz.ntmps119
  go_wp2
  go_loop [3, 8] (fun p i => ∃ k : Nat, k ≤ n ∧ i = .int .i64 k ∧ p = .int .i64 ((l.take k).getLastD 0) ∧ upN 0 (l.take k) = true) (fun _ i => n - (intOf i).toNat)
  case atStart => exact ⟨0, Nat.zero_le _, rfl, rfl, rfl⟩
  case round =>
    obtain ⟨k, hk, rfl, rfl, hall⟩ := hrel
    have HA := Lib.hid hall
    clear hall
    by_cases hlt : k < n
    · obtain ⟨b, off, rfl, hcell⟩ := HC.out (by omega)
      have hc := hcell k hlt
      clear hcell
      have HT := Lib.hid (take_succ l k (by rw [HL.out]; exact hlt))
      have HS := Lib.hid (show upN 0 (l.take (k + 1)) = (decide ((l.take k).getLastD 0 < l.getD k 0) && decide (l.getD k 0 ≤ 15)) by rw [HT.out, upN_snoc, HA.out]; rfl)
      have HG := Lib.hid (show (l.take (k + 1)).getLastD 0 = l.getD k 0 by rw [HT.out, last_snoc])
      generalize l.getD k 0 = x at *
      generalize (l.take k).getLastD 0 = p at *
      by_cases h1 : x ≤ p
      · have HF := Lib.hid (show B = false by rw [← HB.out]; exact upN_cut l 0 (k + 1) (by rw [HS.out]; simp; omega))
        go_wp2
        go_ret
        exact ⟨by rw [HF.out]; rfl, rfl⟩
      by_cases h2 : 15 < x
      · have HF := Lib.hid (show B = false by rw [← HB.out]; exact upN_cut l 0 (k + 1) (by rw [HS.out]; simp; omega))
        go_wp2
        go_ret
        exact ⟨by rw [HF.out]; rfl, rfl⟩
      have HK := Lib.hid (show upN 0 (l.take (k + 1)) = true by rw [HS.out]; simp; omega)
      go_wp2
      go_roundw
      case rel => exact ⟨k + 1, by omega, by go_num, by rw [HG.out], HK.out⟩
      case measure => simp [intOf]; omega
    · obtain rfl : k = n := by omega
      have HT := Lib.hid (show B = true by rw [← HB.out]; have := HA.out; rwa [← HL.out, List.take_length] at this)
      go_wp2
      go_ret
      exact ⟨by rw [HT.out]; rfl, rfl⟩
def hasI (l : List Int) (x : Int) : Bool := l.contains x
theorem has_take (l : List Int) (x : Int) (k : Nat) (h : k < l.length) : hasI (l.take (k + 1)) x = (hasI (l.take k) x || (x == l.getD k 0)) := by
  unfold hasI
  rw [take_succ l k h, Bool.eq_iff_iff]
  simp
theorem has_at (l : List Int) (x : Int) (k : Nat) (h : k < l.length) (hx : (x == l.getD k 0) = true) : hasI l x = true := by
  unfold hasI
  rw [List.contains_iff_mem, show x = l[k] by rw [List.getD_eq_getElem?_getD, List.getElem?_eq_getElem h] at hx; simpa using hx]
  exact List.getElem_mem h
set_option maxRecDepth 100000 in
set_option maxHeartbeats 800000 in
theorem indexI_any (A : Option Addr) (n cap : Nat) (l : List Int) (x : Int) (w : World) (hr : RdI w A n l) : Calls Tryz.prog 139 #[.slice A n cap, .int .i64 x] w fun e w' => ∃ k : Int, e = .returned (.int .i64 k) ∧ w = w' ∧ decide (0 ≤ k) = hasI l x := by
  obtain ⟨hl, hm, hc⟩ := hr
  unfold maxLen at hm
  have HL := Lib.hid hl
  have HC := Lib.hid hc
  clear hl hc
  go_enter Tryz.func139, Tryz.ntmps139
  go_wp2
  go_loop [8] (fun i => ∃ k : Nat, k ≤ n ∧ i = .int .i64 k ∧ hasI (l.take k) x = false) (fun i => n - (intOf i).toNat)
  case atStart => exact ⟨0, Nat.zero_le _, rfl, rfl⟩
  case round =>
    obtain ⟨k, hk, rfl, hall⟩ := hrel
    have HA := Lib.hid hall
    clear hall
    by_cases hlt : k < n
    · obtain ⟨b, off, rfl, hcell⟩ := HC.out (by omega)
      have hc := hcell k hlt
      clear hcell
      have HT := Lib.hid (has_take l x k (by rw [HL.out]; exact hlt))
      have HX := Lib.hid (has_at l x k (by rw [HL.out]; exact hlt))
      generalize l.getD k 0 = y at *
      cases hb : (x == y) with
      | true =>
        have HX2 := Lib.hid (HX.out hb)
        clear HX HT
        go_wp2
        go_ret
        exact ⟨_, rfl, rfl, by rw [HX2.out]; simp⟩
      | false =>
        have HT2 := Lib.hid (show hasI (l.take (k + 1)) x = false by rw [HT.out, HA.out, hb]; rfl)
        clear HX HT
        go_wp2
        go_roundw
        case rel => exact ⟨k + 1, by omega, by go_num, HT2.out⟩
        case measure => simp [intOf]; omega
    · obtain rfl : k = n := by omega
      go_wp2
      go_ret
      exact ⟨_, rfl, rfl, by have := HA.out; rw [← HL.out, List.take_length] at this; rw [this]; rfl⟩
set_option maxRecDepth 100000 in
theorem containsI_any (A : Option Addr) (n cap : Nat) (l : List Int) (x : Int) (w : World) (hr : RdI w A n l) : Calls Tryz.prog 122 #[.slice A n cap, .int .i64 x] w fun e w' => e = .returned (.bool (hasI l x)) ∧ w = w' := by
  have HI := Lib.hid (indexI_any A n cap l x w hr)
  clear hr
  go_enter Tryz.func122, Tryz.ntmps122
  go_wp2_with fail
  refine HI.out.mono ?_
  rintro e w' ⟨k, rfl, rfl, hk⟩
  have HK := Lib.hid hk
  clear hk
  go_wp2
  go_ret
  exact ⟨by rw [← HK.out]; rfl, rfl⟩
end Go.Proofs.YtejphnbhcabchaaGreat.Kp

namespace Go.Proofs.YtejphnbhcabchaaGreat.Kp
open Go.RowKit Go.Proofs.YtejphnbhcabchaaGreat.Dk Go.Proofs.YtejphnbhcabchaaGreat.Fld
set_option linter.unusedVariables false

theorem RdI.below {w w' : World} {A : Option Addr} {n : Nat} {l : List Int} (h : RdI w A n l) (hb : Below w.heap.size w w') : RdI w' A n l := h.fr (S := []) (Dk.Fr.below hb) (fun _ _ _ => by simp)
def anyI (l : List Int) (p : Int → Bool) : Bool := l.any p
theorem any_take (l : List Int) (p : Int → Bool) (k : Nat) (h : k < l.length) : anyI (l.take (k + 1)) p = (anyI (l.take k) p || p (l.getD k 0)) := by
  unfold anyI
  rw [take_succ l k h, List.any_append]
  simp
theorem any_at (l : List Int) (p : Int → Bool) (k : Nat) (h : k < l.length) (hx : p (l.getD k 0) = true) : anyI l p = true := by
  unfold anyI
  rw [List.any_eq_true]
  exact ⟨l[k], List.getElem_mem h, by rw [List.getD_eq_getElem?_getD, List.getElem?_eq_getElem h] at hx; exact hx⟩
set_option maxRecDepth 100000 in
theorem both_any (G : Nat) (LA : Option Addr) (ln lc : Nat) (ls : List Int) (x : Int) (w : World) (hc : w.cell? ⟨G, 1, none⟩ = some (.slice LA ln lc)) (hr : RdI w LA ln ls) :
    Calls Tryz.prog 121 #[.int .i64 x, .pointer (some ⟨G, 0, none⟩)] w fun e w' => e = .returned (.bool (hasI ls x)) ∧ w = w' := by
  have HC := Lib.hid (containsI_any LA ln lc ls x w hr)
  clear hr
  go_enter Tryz.func121, Tryz.ntmps121
  go_wp2_with (go_at_call 122; refine HC.out.mono ?_; rintro e w' ⟨rfl, rfl⟩)
  go_ret
  exact ⟨rfl, rfl⟩
set_option maxRecDepth 100000 in
set_option maxHeartbeats 1600000 in
theorem indexF_any (A : Option Addr) (n cap : Nat) (l : List Int) (p : Int → Bool) (c : Value) (w : World) (hr : RdI w A n l) (hf : ∀ x, Calls Tryz.prog 121 #[.int .i64 x, c] w fun e w' => e = .returned (.bool (p x)) ∧ w = w') :
    Calls Tryz.prog 138 #[.slice A n cap, .func (.func 121) #[] #[c]] w fun e w' => ∃ k : Int, e = .returned (.int .i64 k) ∧ w = w' ∧ decide (0 ≤ k) = anyI l p := by
  obtain ⟨hl, hm, hc⟩ := hr
  unfold maxLen at hm
  have HL := Lib.hid hl
  have HC := Lib.hid hc
  have HF := Lib.hid hf
  clear hl hc hf
  go_enter Tryz.func138, Tryz.ntmps138
  go_wp2
  go_loopw [8] (fun i wr => ∃ k : Nat, k ≤ n ∧ i = .int .i64 k ∧ anyI (l.take k) p = false ∧ wr = w) (fun i _ => n - (intOf i).toNat)
  case atStart => exact ⟨0, Nat.zero_le _, rfl, rfl, rfl⟩
  case round =>
    obtain ⟨k, hk, rfl, hall, rfl⟩ := hrel
    have HA := Lib.hid hall
    clear hall
    by_cases hlt : k < n
    · obtain ⟨b, off, rfl, hcell⟩ := HC.out (by omega)
      have hc := hcell k hlt
      clear hcell
      have HT := Lib.hid (any_take l p k (by rw [HL.out]; exact hlt))
      have HX := Lib.hid (any_at l p k (by rw [HL.out]; exact hlt))
      generalize l.getD k 0 = y at *
      have HY := Lib.hid (HF.out y)
      cases hb : p y with
      | true =>
        rw [hb] at HY
        have HX2 := Lib.hid (HX.out hb)
        clear HX HT
        go_wp2_with fail
        refine HY.out.mono ?_
        rintro e w' ⟨rfl, rfl⟩
        go_wp2
        go_ret
        exact ⟨_, rfl, rfl, by rw [HX2.out]; simp⟩
      | false =>
        rw [hb] at HY
        have HT2 := Lib.hid (show anyI (l.take (k + 1)) p = false by rw [HT.out, HA.out, hb]; rfl)
        clear HX HT
        go_wp2_with fail
        refine HY.out.mono ?_
        rintro e w' ⟨rfl, rfl⟩
        go_wp2
        go_roundw
        case rel => exact ⟨k + 1, by omega, by go_num, HT2.out, trivial⟩
        case measure => simp [intOf]; omega
    · obtain rfl : k = n := by omega
      go_wp2
      go_ret
      exact ⟨_, rfl, rfl, by have := HA.out; rw [← HL.out, List.take_length] at this; rw [this]; rfl⟩
set_option maxRecDepth 100000 in
theorem containsF_any (A : Option Addr) (n cap : Nat) (l : List Int) (p : Int → Bool) (c : Value) (w : World) (hr : RdI w A n l) (hf : ∀ x, Calls Tryz.prog 121 #[.int .i64 x, c] w fun e w' => e = .returned (.bool (p x)) ∧ w = w') :
    Calls Tryz.prog 120 #[.slice A n cap, .func (.func 121) #[] #[c]] w fun e w' => e = .returned (.bool (anyI l p)) ∧ w = w' := by
  have HI := Lib.hid (indexF_any A n cap l p c w hr hf)
  clear hr hf
  go_enter Tryz.func120, Tryz.ntmps120
  go_wp2_with fail
  refine HI.out.mono ?_
  rintro e w' ⟨k, rfl, rfl, hk⟩
  have HK := Lib.hid hk
  clear hk
  go_wp2
  go_ret
  exact ⟨by rw [← HK.out]; rfl, rfl⟩
def grpOk (vs ls : List Int) : Bool := !(decide (vs.length = 0)) && upN 0 vs && upN 0 ls && !(anyI vs fun x => hasI ls x)
set_option maxRecDepth 100000 in
set_option maxHeartbeats 1600000 in
theorem validGroup_any (VA : Option Addr) (vn vc : Nat) (vs : List Int) (LA : Option Addr) (ln lc : Nat) (ls : List Int) (w : World) (hv : RdI w VA vn vs) (hl : RdI w LA ln ls) :
    Calls Tryz.prog 94 #[.agg #[.slice VA vn vc, .slice LA ln lc]] w fun e w' => e = .returned (.bool (grpOk vs ls)) ∧ Below w.heap.size w w' := by
  have hb := alloc_below w (.cells #[.slice VA vn vc, .slice LA ln lc] 35)
  have HB := Lib.hid hb
  have HK := Lib.hid (Blk.new w #[.slice VA vn vc, .slice LA ln lc] 35)
  have HV := Lib.hid (RdI.below hv hb)
  have HL := Lib.hid (RdI.below hl hb)
  have HVN := Lib.hid hv.1
  have hmv := hv.2.1
  unfold maxLen at hmv
  have hmf : ∀ (fn : Fn) (first cap : Array Value) (w : World), (Instr.makeFunc fn first cap).run Tryz.prog w = .ok (.func fn first cap) w := fun _ _ _ _ => rfl
  clear hv hl hb
  generalize hwa : w.alloc (.cells #[.slice VA vn vc, .slice LA ln lc] 35) = wa at *
  have HWA := Lib.hid hwa
  have H1 := Lib.hid (validNodes_any VA vn vc vs wa HV.out)
  have H2 := Lib.hid (validNodes_any LA ln lc ls wa HL.out)
  have H3 := Lib.hid (containsF_any VA vn vc vs (fun x => hasI ls x) (.pointer (some ⟨w.heap.size, 0, none⟩)) wa HV.out (fun x => both_any w.heap.size LA ln lc ls x wa (HK.out.cell 1 _ rfl) HL.out))
  have HG := Lib.hid (show grpOk vs ls = (!(decide (vs.length = 0)) && upN 0 vs && upN 0 ls && !(anyI vs fun x => hasI ls x)) from rfl)
  rw [HVN.out] at HG
  rw [HG.out]
  generalize upN 0 vs = b1 at *
  generalize upN 0 ls = b2 at *
  generalize anyI vs (fun x => hasI ls x) = b3 at *
  subst hwa
  have c0 := HK.out.cell 0 _ rfl
  have c1 := HK.out.cell 1 _ rfl
  by_cases h0 : vn = 0
  · subst h0
    go_enter Tryz.func94, Tryz.ntmps94
    go_wp2
    go_ret
    exact ⟨by simp, HB.out⟩
  have j0 : ((vn : Int) == 0) = false := by simp [h0]
  cases b1 with
  | false =>
    go_enter Tryz.func94, Tryz.ntmps94
    go_wp2_with (go_at_call 119; refine H1.out.mono ?_; rintro e w' ⟨rfl, rfl⟩)
    go_ret
    exact ⟨by simp, HB.out⟩
  | true =>
    cases b2 with
    | false =>
      go_enter Tryz.func94, Tryz.ntmps94
      go_wp2_with fail
      refine H1.out.mono ?_
      rintro e w' ⟨rfl, rfl⟩
      go_wp2_with fail
      refine H2.out.mono ?_
      rintro e w' ⟨rfl, rfl⟩
      go_wp2
      go_ret
      exact ⟨by simp, HB.out⟩
    | true =>
      go_enter Tryz.func94, Tryz.ntmps94
      go_wp2_with fail
      refine H1.out.mono ?_
      rintro e w' ⟨rfl, rfl⟩
      go_wp2_with fail
      refine H2.out.mono ?_
      rintro e w' ⟨rfl, rfl⟩
      go_wp2_with fail
      refine H3.out.mono ?_
      rintro e w' ⟨rfl, rfl⟩
      go_wp2
      go_ret
      exact ⟨by simp [h0], HB.out⟩
def snapV (i t : Int) (V L D : Value) : Value := .agg #[.int .i64 i, .int .i64 t, V, L, D]
def snapOk (i t : Int) (vs ls : List Int) (dn : Nat) : Bool := idxOk i && idxOk t && grpOk vs ls && decide (dn ≤ 60000)
set_option maxRecDepth 100000 in
set_option maxHeartbeats 1600000 in
theorem validSnap_any (i t : Int) (VA : Option Addr) (vn vc : Nat) (vs : List Int) (LA : Option Addr) (ln lc : Nat) (ls : List Int) (DA : Option Addr) (dn dc : Nat) (w : World) (hv : RdI w VA vn vs) (hl : RdI w LA ln ls) :
    Calls Tryz.prog 57 #[snapV i t (.slice VA vn vc) (.slice LA ln lc) (.slice DA dn dc)] w fun e w' => e = .returned (.bool (snapOk i t vs ls dn)) ∧ Below w.heap.size w w' := by
  have hb := alloc_below w (.cells #[.int .i64 i, .int .i64 t, .slice VA vn vc, .slice LA ln lc, .slice DA dn dc] 38)
  have HB := Lib.hid hb
  have HK := Lib.hid (Blk.new w #[.int .i64 i, .int .i64 t, .slice VA vn vc, .slice LA ln lc, .slice DA dn dc] 38)
  have HV := Lib.hid (RdI.below hv hb)
  have HL := Lib.hid (RdI.below hl hb)
  have H1 := fun W => Lib.hid (validIndex_any i W)
  have H2 := fun W => Lib.hid (validIndex_any t W)
  have H3 := Lib.hid (validGroup_any VA vn vc vs LA ln lc ls _ HV.out HL.out)
  have HG := Lib.hid (show snapOk i t vs ls dn = (idxOk i && idxOk t && grpOk vs ls && decide (dn ≤ 60000)) from rfl)
  rw [HG.out]
  unfold snapV
  clear hv hl hb
  generalize idxOk i = b1 at *
  generalize idxOk t = b2 at *
  generalize grpOk vs ls = b3 at *
  cases b1 with
  | false =>
    go_enter Tryz.func57, Tryz.ntmps57
    go_wp2_with (go_at_call 93; refine (H1 _).out.mono ?_; rintro e w' ⟨rfl, rfl⟩)
    go_ret
    exact ⟨by simp, HB.out⟩
  | true =>
    cases b2 with
    | false =>
      go_enter Tryz.func57, Tryz.ntmps57
      go_wp2_with fail
      refine (H1 _).out.mono ?_
      rintro e w' ⟨rfl, rfl⟩
      go_wp2_with fail
      refine (H2 _).out.mono ?_
      rintro e w' ⟨rfl, rfl⟩
      go_wp2
      go_ret
      exact ⟨by simp, HB.out⟩
    | true =>
      have c4 := HK.out.cell 4 _ rfl
      cases b3 with
      | false =>
        go_enter Tryz.func57, Tryz.ntmps57
        go_wp2_with fail
        refine (H1 _).out.mono ?_
        rintro e w' ⟨rfl, rfl⟩
        go_wp2_with fail
        refine (H2 _).out.mono ?_
        rintro e w' ⟨rfl, rfl⟩
        go_wp2_with fail
        refine H3.out.mono ?_
        rintro e w' ⟨rfl, hb3⟩
        have HB3 := Lib.hid (HB.out.trans (hb3.mono HB.out.size))
        clear hb3
        go_wp2
        go_ret
        exact ⟨by simp, HB3.out⟩
      | true =>
        by_cases h4 : (dn : Int) ≤ 60000
        all_goals
          go_enter Tryz.func57, Tryz.ntmps57
          go_wp2_with fail
          refine (H1 _).out.mono ?_
          rintro e w' ⟨rfl, rfl⟩
          go_wp2_with fail
          refine (H2 _).out.mono ?_
          rintro e w' ⟨rfl, rfl⟩
          go_wp2_with fail
          refine H3.out.mono ?_
          rintro e w' ⟨rfl, hb3⟩
          have HB3 := Lib.hid (HB.out.trans (hb3.mono HB.out.size))
          have d4 := (HK.out.below hb3).cell 4 _ rfl
          clear hb3 c4
          go_wp2
          go_ret
          exact ⟨by simp; omega, HB3.out⟩
end Go.Proofs.YtejphnbhcabchaaGreat.Kp

namespace Go.Proofs.YtejphnbhcabchaaGreat.Kp
open Go.RowKit Go.Proofs.YtejphnbhcabchaaGreat.Dk Go.Proofs.YtejphnbhcabchaaGreat.Fld
set_option linter.unusedVariables false

theorem enc_cons (n : Nat) (l : List Nat) : enc (n :: l) = enc [n] ++ enc l := by simp [enc]
set_option maxRecDepth 100000 in
set_option maxHeartbeats 1600000 in
theorem list_any (A : Option Addr) (n cap : Nat) (l : List Nat) (w : World) (hr : Dk.RdI w A n (ints l)) (hl : l.length = n) (hn : n ≤ 100) (hs : ∀ m ∈ l, m ≤ 9223372036854775807) :
    Calls Tryz.prog 60 #[.slice A n cap] w (Made w (enc (n :: l))) := by
  have HB := Lib.hid (alloc_below w (.cells #[.int .i64 (n : Int)] 3))
  have HN := Lib.hid (numbers_any _ 1 1 [n] _ (rdI_built w [n] (by simp) 3) rfl (by omega) (by simp; omega))
  have HL1 := Lib.hid (enc_len [n] (by simp; omega))
  have HL2 := Lib.hid (enc_len l (fun m hm => by have := hs m hm; omega))
  have HR := Lib.hid hr
  have HL := Lib.hid hl
  have HS := Lib.hid hs
  clear hr hl hs
  go_enter Tryz.func60, Tryz.ntmps60
  go_wp2_with fail
  refine HN.out.mono ?_
  rintro e w1 ⟨v1, rfl, hO1⟩
  have HO1 := Lib.hid (hO1.since HB.out)
  clear hO1
  have HM := Lib.hid (numbers_any A n cap l w1 (RdI.below HR.out HO1.out.1) HL.out hn HS.out)
  go_wp2_with fail
  refine HM.out.mono ?_
  rintro e w2 ⟨v2, rfl, hO2⟩
  obtain ⟨A2, c2, hv2, hs2, _⟩ := hO2.sl _ rfl
  subst hv2
  have HO2 := Lib.hid (HO1.out.below hO2.1)
  have HS2 := Lib.hid hs2
  clear hO2 hs2
  go_wp2_with (at_builtin; refine wpList_append_rd rfl _ _ rfl w v1 (enc [n]) rfl HO2.out A2 _ c2 (enc l) rfl HS2.out.2.2.2.1 HS2.out.1 (by have h1 := HL1.out; have h2 := HL2.out; rw [HL.out] at h2; simp at h1; omega) ?_; intro v3 w3 hO3 _ _; rw [← enc_cons] at hO3; have HO3 := Lib.hid hO3; clear hO3)
  go_ret
  exact ⟨_, rfl, HO3.out⟩
theorem grown_own (w : World) (N c : Nat) (hN : N ≤ c) (hc : c ≤ maxLen) (cs : Array Value) (hs : cs.size = c) (wd : World) (hw : wd.heap.size = w.heap.size) (hb : Below w.heap.size w wd) : Own w (wd.alloc (.cells cs 5)) (.slice (some ⟨wd.heap.size, 0, none⟩) 0 c) [] :=
  ⟨hb.alloc (by omega) _, fun c hc => by simp at hc, rfl, .inr ⟨wd.heap.size, c, cs, rfl, by omega, heap_alloc_new wd _, Nat.zero_le _, hc, by simpa using hs, by simp [by8]⟩⟩
set_option maxRecDepth 100000 in
set_option maxHeartbeats 1600000 in
theorem grow_any (N : Nat) (w : World) (h0 : 0 < N) (hN : N ≤ 1000000) : Calls Tryz.prog 95 #[.slice none 0 0, .int .i64 (N : Int)] w (Made w []) := by
  obtain ⟨i, hi, hz, hsz, hby⟩ := byte_info
  have hrun := fun ty => Lib.run_append_nil_zeros (P := Tryz.prog) w 36 3 ty 5 i (.int .u8 0) .i64 .i64 Tryz.underlying36 Tryz.underlying3 hi hz N h0 (by omega) (by omega) (by rw [hby]; omega)
  have hge := grownCap_ge w N 0 5
  have hcm := grownCap_le_maxLen w N 0 5 (by unfold maxLen; omega)
  generalize grownCap w N 0 5 = gc at *
  have HO := Lib.hid (grown_own w N gc hge hcm (Builtin.zeroCells (Value.int .u8 0).cells N ++ Builtin.zeroCells (Value.int .u8 0).cells (gc - N)) (by rw [Array.size_append, size_zeroCells, size_zeroCells]; simp [Value.cells]; omega) w.drew rfl ⟨rfl, rfl, rfl, Nat.le_refl _, fun _ _ => rfl⟩)
  have hup : ∀ W, (Instr.slice 36 (.slice (some ⟨w.heap.size, 0, none⟩) N gc) none (some (.int .i64 0)) none).run Tryz.prog W = .ok (.slice (some ⟨w.heap.size, 0, none⟩) 0 gc) W := by
    intro W
    have h3 : (0 : Int) ≤ (gc : Int) := by omega
    go_simp
  have HR := Lib.hid hrun
  clear hrun hi hz
  have j0 : (0 : Int) < (N : Int) := by omega
  generalize Builtin.zeroCells (Value.int .u8 0).cells N ++ Builtin.zeroCells (Value.int .u8 0).cells (gc - N) = cs at *
  go_enter Tryz.func95, Tryz.ntmps95
  go_wp2_with (at_builtin; refine Lib.wpList_append_run _ rfl _ _ _ _ rfl _ _ rfl rfl _ _ (HR.out _) ?_)
  go_ret
  exact ⟨_, rfl, HO.out⟩
theorem flat_take (ls : List (List Int)) (k : Nat) (h : k < ls.length) : (ls.take (k + 1)).flatten = (ls.take k).flatten ++ ls.getD k [] := by
  rw [List.take_add_one, List.getElem?_eq_getElem h, List.flatten_append, List.getD_eq_getElem?_getD, List.getElem?_eq_getElem h]
  simp
theorem flat_le (ls : List (List Int)) (k : Nat) : (ls.take k).flatten.length ≤ ls.flatten.length := by
  conv => rhs; rw [← List.take_append_drop k ls, List.flatten_append, List.length_append]
  omega
theorem rdl_row {w : World} {B : Option Addr} {m : Nat} {ls : List (List Int)} (h : RdL w B m ls) (i : Nat) (hi : i < m) : ∃ b off A n c, B = some ⟨b, off, none⟩ ∧ w.cell? ⟨b, off + i, none⟩ = some (.slice A n c) ∧ Rd w A n (ls.getD i []) ∧ (A = none → c = 0) := by
  obtain ⟨b, off, e, hc⟩ := h.2.2 (by omega)
  obtain ⟨A, n, c, h1, h2, h3⟩ := hc i hi
  exact ⟨b, off, A, n, c, e, h1, h2, h3⟩
set_option maxRecDepth 100000 in
set_option maxHeartbeats 3200000 in
theorem concat_any (A : Option Addr) (m cap : Nat) (ls : List (List Int)) (w : World) (hr : RdL w A m ls) (hm : m ≤ 100) (h0 : 0 < ls.flatten.length) (hz : ls.flatten.length ≤ 1000000) :
    Calls Tryz.prog 58 #[.slice A m cap] w (Made w ls.flatten) := by
  have HR := Lib.hid hr
  have HL := Lib.hid hr.1
  have HLE := Lib.hid (flat_le ls)
  clear hr
  go_enter Tryz.func58, Tryz.ntmps58
  go_wp2
  go_loop [3, 11] (fun p i => ∃ k : Nat, k ≤ m ∧ i = .int .i64 k ∧ p = .int .i64 (((ls.take k).flatten.length : Nat) : Int)) (fun _ i => m - (intOf i).toNat)
  case atStart => exact ⟨0, Nat.zero_le _, rfl, rfl⟩
  case round =>
    obtain ⟨k, hk, rfl, rfl⟩ := hrel
    by_cases hlt : k < m
    · obtain ⟨b, off, A1, n1, c1, rfl, hc, hrd, _⟩ := rdl_row HR.out k hlt
      have HN := Lib.hid (show (ls.take (k + 1)).flatten.length = (ls.take k).flatten.length + n1 by rw [flat_take ls k (by rw [HL.out]; exact hlt), List.length_append, hrd.1])
      have hu := HLE.out (k + 1)
      rw [HN.out] at hu
      clear hrd
      generalize (ls.take k).flatten.length = u at *
      have j1 : ¬ ((u : Int) + (n1 : Int) < 0) := by omega
      go_wp2
      go_roundw
      case rel => exact ⟨k + 1, by omega, by go_num, by rw [HN.out]; go_num⟩
      case measure => simp [intOf]; omega
    · obtain rfl : k = m := by omega
      rw [← HL.out, List.take_length]
      have HG := Lib.hid (grow_any ls.flatten.length w h0 hz)
      generalize hfl : ls.flatten.length = u at *
      have HFL := Lib.hid hfl
      clear hfl
      rw [HL.out]
      go_wp2_with fail
      refine HG.out.mono ?_
      rintro e w1 ⟨v1, rfl, hO1⟩
      have HO1 := Lib.hid hO1
      clear hO1
      go_wp2_with fail
      go_loopw [6, 27] (fun v i wr => ∃ j : Nat, j ≤ k ∧ i = .int .i64 j ∧ Own w wr v (ls.take j).flatten) (fun _ i _ => k - (intOf i).toNat)
      case atStart => exact ⟨0, Nat.zero_le _, rfl, HO1.out⟩
      case round =>
        obtain ⟨j, hj, rfl, hO⟩ := hrel
        have HO := Lib.hid hO
        clear hO
        by_cases hlt2 : j < k
        · obtain ⟨b, off, A1, n1, c1, rfl, hc, hrd, hA1⟩ := rdl_row (HR.out.below HO.out.1) j hlt2
          have HF := Lib.hid (flat_take ls j (by rw [HL.out]; exact hlt2))
          have HRD := Lib.hid hrd
          have HA1 := Lib.hid hA1
          have HB := Lib.hid (show (ls.take j).flatten.length + n1 ≤ 140737488355328 by
            have h1 := HLE.out (j + 1)
            rw [HF.out, List.length_append, hrd.1] at h1
            omega)
          clear hrd hA1
          go_wp2_with (at_builtin; refine wpList_append_rd rfl _ _ rfl w _ (ls.take j).flatten rfl HO.out A1 n1 c1 (ls.getD j []) rfl HA1.out HRD.out HB.out ?_; intro v2 w2 hO2 _ _; rw [← HF.out] at hO2; have HO2 := Lib.hid hO2; clear hO2)
          go_roundw
          case rel => exact ⟨j + 1, by omega, by go_num, HO2.out⟩
          case measure => simp [intOf]; omega
        · obtain rfl : j = k := by omega
          go_wp2
          go_ret
          exact ⟨_, rfl, by have := HO.out; rwa [← HL.out, List.take_length] at this⟩
end Go.Proofs.YtejphnbhcabchaaGreat.Kp

namespace Go.Proofs.YtejphnbhcabchaaGreat.Kp
open Go.RowKit Go.Proofs.YtejphnbhcabchaaGreat.Dk Go.Proofs.YtejphnbhcabchaaGreat.Fld
set_option linter.unusedVariables false

theorem upN_nat : ∀ (l : List Int) (b : Int), 0 ≤ b → b ≤ 15 → upN b l = true → (l.length : Int) + b ≤ 15 ∧ ∃ k : List Nat, l = ints k ∧ ∀ m ∈ k, m ≤ 15
  | [], b, h0, h1, _ => ⟨by simp; omega, [], rfl, by simp⟩
  | n :: r, b, h0, h1, h => by
    rw [upN] at h
    simp only [Bool.and_eq_true, decide_eq_true_eq] at h
    obtain ⟨⟨h2, h3⟩, h4⟩ := h
    obtain ⟨h5, k, rfl, h6⟩ := upN_nat r n (by omega) h3 h4
    refine ⟨by rw [List.length_cons]; omega, n.toNat :: k, ?_, ?_⟩
    · show n :: ints k = ((n.toNat : Nat) : Int) :: ints k
      rw [Int.toNat_of_nonneg (by omega)]
    · intro m hm
      rcases List.mem_cons.1 hm with rfl | hm
      · omega
      · exact h6 m hm
/-- a snapshot's bytes -/
def snapC (i t : Nat) (vs ls : List Nat) (ds : List Int) : List Int := enc [i, t] ++ (enc (vs.length :: vs) ++ (enc (ls.length :: ls) ++ textC ds))
def toNats (l : List Int) : List Nat := l.map Int.toNat
theorem toNats_ints (k : List Nat) : toNats (ints k) = k := by
  unfold toNats ints
  rw [List.map_map]
  exact List.map_id'' (fun x => Int.toNat_natCast x) k
theorem ints_len (k : List Nat) : (ints k).length = k.length := by simp [ints]
theorem snap_nat {i t : Int} {vs ls : List Int} {dn : Nat} (h : snapOk i t vs ls dn = true) : ∃ (a b : Nat) (v l : List Nat), i = (a : Int) ∧ t = (b : Int) ∧ vs = ints v ∧ ls = ints l ∧ a ≤ 1099511627776 ∧ b ≤ 1099511627776 ∧ v.length ≤ 15 ∧ l.length ≤ 15 ∧ (∀ m ∈ v, m ≤ 15) ∧ (∀ m ∈ l, m ≤ 15) ∧ dn ≤ 60000 := by
  unfold snapOk grpOk idxOk at h
  simp only [Bool.and_eq_true, decide_eq_true_eq] at h
  obtain ⟨⟨⟨⟨h1, h2⟩, h3, h4⟩, ⟨⟨_, h5⟩, h6⟩, _⟩, h7⟩ := h
  obtain ⟨k1, v, rfl, hv⟩ := upN_nat vs 0 (by omega) (by omega) h5
  obtain ⟨k2, l, rfl, hl⟩ := upN_nat ls 0 (by omega) (by omega) h6
  rw [ints_len] at k1 k2
  exact ⟨i.toNat, t.toNat, v, l, by omega, by omega, rfl, rfl, by omega, by omega, by omega, by omega, hv, hl, h7⟩
theorem Blk.five {w : World} {B : Nat} {a b c d e : Value} {ty : TypeId} (h : Blk w B #[a, b, c, d, e] ty) : w.cell? ⟨B, 0, none⟩ = some a ∧ w.cell? ⟨B, 1, none⟩ = some b ∧ w.cell? ⟨B, 2, none⟩ = some c ∧ w.cell? ⟨B, 3, none⟩ = some d ∧ w.cell? ⟨B, 4, none⟩ = some e :=
  ⟨h.cell 0 _ rfl, h.cell 1 _ rfl, h.cell 2 _ rfl, h.cell 3 _ rfl, h.cell 4 _ rfl⟩
theorem rdl_four (w : World) (A1 A2 A3 A4 : Option Addr) (n1 n2 n3 n4 c1 c2 c3 c4 : Nat) (z1 z2 z3 z4 : List Int) (h1 : Sl w A1 n1 c1 z1) (h2 : Sl w A2 n2 c2 z2) (h3 : Sl w A3 n3 c3 z3) (h4 : Sl w A4 n4 c4 z4) (t : TypeId) :
    RdL (w.alloc (.cells #[.slice A1 n1 c1, .slice A2 n2 c2, .slice A3 n3 c3, .slice A4 n4 c4] t)) (some ⟨w.heap.size, 0, none⟩) 4 [z1, z2, z3, z4] := by
  have hb := alloc_below w (.cells #[.slice A1 n1 c1, .slice A2 n2 c2, .slice A3 n3 c3, .slice A4 n4 c4] t)
  refine ⟨rfl, by unfold maxLen; omega, fun _ => ⟨_, _, rfl, fun i hi => ?_⟩⟩
  rw [World.cell?_alloc_mark, Nat.zero_add]
  rcases (show i = 0 ∨ i = 1 ∨ i = 2 ∨ i = 3 by omega) with rfl | rfl | rfl | rfl
  · exact ⟨A1, n1, c1, rfl, h1.1.below hb, h1.2.2.2.1⟩
  · exact ⟨A2, n2, c2, rfl, h2.1.below hb, h2.2.2.2.1⟩
  · exact ⟨A3, n3, c3, rfl, h3.1.below hb, h3.2.2.2.1⟩
  · exact ⟨A4, n4, c4, rfl, h4.1.below hb, h4.2.2.2.1⟩
set_option maxRecDepth 100000 in
set_option maxHeartbeats 3200000 in
theorem encode_any (i t : Int) (VA : Option Addr) (vn vc : Nat) (vs : List Int) (LA : Option Addr) (ln lc : Nat) (ls : List Int) (DA : Option Addr) (dn dc : Nat) (ds : List Int) (w : World) (hv : RdI w VA vn vs) (hl : RdI w LA ln ls) (hd : Rd w DA dn ds) (hD : DA = none → dc = 0) :
    Calls Tryz.prog 31 #[snapV i t (.slice VA vn vc) (.slice LA ln lc) (.slice DA dn dc)] w (Encd w (snapOk i t vs ls dn) (snapC i.toNat t.toNat (toNats vs) (toNats ls) ds)) := by
  have hb := alloc_below w (.cells #[.int .i64 i, .int .i64 t, .slice VA vn vc, .slice LA ln lc, .slice DA dn dc] 38)
  have HB := Lib.hid hb
  have HV := Lib.hid (validSnap_any i t VA vn vc vs LA ln lc ls DA dn dc _ (RdI.below hv hb) (RdI.below hl hb))
  have HK := Lib.hid (Blk.new w #[.int .i64 i, .int .i64 t, .slice VA vn vc, .slice LA ln lc, .slice DA dn dc] 38)
  cases hok : snapOk i t vs ls dn with
  | false =>
    rw [hok] at HV
    unfold snapV at HV ⊢
    clear hv hl hd hD hb hok
    go_enter Tryz.func31, Tryz.ntmps31
    go_wp2_with (go_at_call 57; refine HV.out.mono ?_; rintro e w' ⟨rfl, hb1⟩; have HB1 := Lib.hid hb1; clear hb1)
    go_ret2
    exact ⟨rfl, HB.out.trans (HB1.out.mono HB.out.size)⟩
  | true =>
    rw [hok] at HV
    obtain ⟨a, b, v, l, rfl, rfl, rfl, rfl, ha, hbb, hvl, hll, hvm, hlm, hdn⟩ := snap_nat hok
    rw [toNats_ints, toNats_ints, Int.toNat_natCast, Int.toNat_natCast]
    have hvn : v.length = vn := by rw [← ints_len]; exact hv.1
    have hln : l.length = ln := by rw [← ints_len]; exact hl.1
    unfold snapV at HV ⊢
    have HRV := Lib.hid hv
    have HRL := Lib.hid hl
    have HRD := Lib.hid hd
    have HD := Lib.hid hD
    have HVN := Lib.hid hvn
    have HLN := Lib.hid hln
    have HVM := Lib.hid hvm
    have HLM := Lib.hid hlm
    have HSC := Lib.hid (show snapC a b v l ds = enc [a, b] ++ (enc (v.length :: v) ++ (enc (l.length :: l) ++ textC ds)) from rfl)
    have hL1 := enc_len [a, b] (by simp; omega)
    have hL2 := enc_len (v.length :: v) (by
      intro m hm
      rcases List.mem_cons.1 hm with rfl | hm
      · omega
      · have := hvm m hm; omega)
    have hL3 := enc_len (l.length :: l) (by
      intro m hm
      rcases List.mem_cons.1 hm with rfl | hm
      · omega
      · have := hlm m hm; omega)
    have hL4 := textC_len ds
    rw [hd.1] at hL4
    have hD8 := digs_len8 dn (by omega)
    have HTOT := Lib.hid (show [enc [a, b], enc (v.length :: v), enc (l.length :: l), textC ds].flatten.length ≤ 1000000 ∧ 0 < [enc [a, b], enc (v.length :: v), enc (l.length :: l), textC ds].flatten.length by
      simp only [List.flatten_cons, List.flatten_nil, List.length_append, List.length_nil]
      simp only [List.length_cons, List.length_nil] at hL1 hL2 hL3
      omega)
    have HFL := Lib.hid (show [enc [a, b], enc (v.length :: v), enc (l.length :: l), textC ds].flatten = snapC a b v l ds by simp [snapC])
    rw [HVN.out, HLN.out] at HTOT HFL
    clear hok hv hl hd hD hvn hln hvm hlm hL1 hL2 hL3 hL4 hD8 hb
    go_enter Tryz.func31, Tryz.ntmps31
    go_wp2_with fail
    refine HV.out.mono ?_
    rintro e wa ⟨rfl, hb1⟩
    have HBA := Lib.hid (HB.out.trans (hb1.mono HB.out.size))
    have HKA := Lib.hid (HK.out.below hb1)
    clear hb1 HV HK
    obtain ⟨s0, s1, s2, s3, s4⟩ := HKA.out.five
    have HN := Lib.hid (show Calls Tryz.prog 59 #[.slice (some ⟨wa.heap.size, 0, none⟩) 2 2] (wa.alloc (.cells #[.int .i64 (a : Int), .int .i64 (b : Int)] 3)).drew (fun e w1 => ∃ v1, e = .returned v1 ∧ Fld.Own wa w1 v1 (enc [a, b])) from
      (numbers_any _ 2 2 [a, b] (wa.alloc (.cells #[.int .i64 (a : Int), .int .i64 (b : Int)] 3)).drew (rdI_built wa [a, b] (by simp) 3) rfl (by omega) (by simp; omega)).mono (by
        rintro e w1 ⟨v1, rfl, hO1⟩
        exact ⟨v1, rfl, hO1.since ((alloc_below wa _).drew)⟩))
    have HBW := fun W (hW : Below wa.heap.size wa W) => HBA.out.trans (hW.mono HBA.out.size)
    go_wp2_with fail
    go_region_held3 (fun w' => w'.cell? ⟨w.heap.size, 0, none⟩ = some (.int .i64 (a : Int)) ∧ w'.cell? ⟨w.heap.size, 1, none⟩ = some (.int .i64 (b : Int)) ∧ w'.cell? ⟨w.heap.size, 2, none⟩ = some (.slice VA vn vc) ∧ w'.cell? ⟨w.heap.size, 3, none⟩ = some (.slice LA ln lc) ∧ w'.cell? ⟨w.heap.size, 4, none⟩ = some (.slice DA dn dc)) (first | exact ⟨by assumption, by assumption, by assumption, by assumption, by assumption⟩ | exact (HKA.out.past _).five | exact HK1.out.five | exact HK2.out.five | exact HK3.out.five | exact HK4.out.five | exact (HK4.out.past _).five | exact HK5.out.five | go_keep) (first
      | (go_at_call 59; refine HN.out.mono ?_; rintro e w1 ⟨v1, rfl, hO1⟩; obtain ⟨A1, c1, hv1, hs1, _⟩ := hO1.sl _ rfl; subst hv1; have HS1 := Lib.hid hs1; have HB1 := Lib.hid hO1.1; have HK1 := Lib.hid (HKA.out.below hO1.1); obtain ⟨r0, r1, r2, r3, r4⟩ := HK1.out.five; clear hO1 hs1)
      | (go_at_call_of 60 (Value.slice VA vn vc); refine (list_any VA vn vc v _ (RdI.below HRV.out (HBW _ HB1.out)) HVN.out (by have := HVN.out; omega) (fun m hm => by have := HVM.out m hm; omega)).mono ?_; rintro e w2 ⟨v2, rfl, hO2⟩; obtain ⟨A2, c2, hv2, hs2, _⟩ := hO2.sl _ rfl; subst hv2; have HS2 := Lib.hid (And.intro (HS1.out.below hO2.1) hs2); have HB2 := Lib.hid (HB1.out.trans (hO2.1.mono HB1.out.size)); have HK2 := Lib.hid (HK1.out.below hO2.1); obtain ⟨r0, r1, r2, r3, r4⟩ := HK2.out.five; clear hO2 hs2)
      | (go_at_call_of 60 (Value.slice LA ln lc); refine (list_any LA ln lc l _ (RdI.below HRL.out (HBW _ HB2.out)) HLN.out (by have := HLN.out; omega) (fun m hm => by have := HLM.out m hm; omega)).mono ?_; rintro e w3 ⟨v3, rfl, hO3⟩; obtain ⟨A3, c3, hv3, hs3, _⟩ := hO3.sl _ rfl; subst hv3; have HS3 := Lib.hid (And.intro (HS2.out.1.below hO3.1) (And.intro (HS2.out.2.below hO3.1) hs3)); have HB3 := Lib.hid (HB2.out.trans (hO3.1.mono HB2.out.size)); have HK3 := Lib.hid (HK2.out.below hO3.1); obtain ⟨r0, r1, r2, r3, r4⟩ := HK3.out.five; clear hO3 hs3)
      | (go_at_call 61; refine (text_any DA dn dc ds _ (HRD.out.below (HBW _ HB3.out)) HD.out (by omega)).mono ?_; rintro e w4 ⟨v4, rfl, hO4⟩; obtain ⟨A4, c4, hv4, hs4, _⟩ := hO4.sl _ rfl; subst hv4; have HS4 := Lib.hid (And.intro (HS3.out.1.below hO4.1) (And.intro (HS3.out.2.1.below hO4.1) (And.intro (HS3.out.2.2.below hO4.1) hs4))); have HB4 := Lib.hid (HB3.out.trans (hO4.1.mono HB3.out.size)); have HK4 := Lib.hid (HK3.out.below hO4.1); obtain ⟨r0, r1, r2, r3, r4⟩ := HK4.out.five; clear hO4 hs4)
      | (go_at_call 58; refine (concat_any _ 4 4 _ _ (rdl_four w4 A1 A2 A3 A4 _ _ _ _ c1 c2 c3 c4 _ _ _ _ HS4.out.1 HS4.out.2.1 HS4.out.2.2.1 HS4.out.2.2.2 _) (by omega) HTOT.out.2 HTOT.out.1).mono ?_; rintro e w5 ⟨v5, rfl, hO5⟩; have HO5 := Lib.hid (hO5.since ((HBW _ HB4.out).trans ((alloc_below w4 _).mono (HBW _ HB4.out).size))); have HK5 := Lib.hid ((HK4.out.past _).below hO5.1); obtain ⟨r0, r1, r2, r3, r4⟩ := HK5.out.five; clear hO5)
      )
    rw [HFL.out] at HO5
    go_wp2
    go_ret2
    exact ⟨_, rfl, HO5.out⟩
end Go.Proofs.YtejphnbhcabchaaGreat.Kp

namespace Go.Proofs.YtejphnbhcabchaaGreat.Fld
open Go.RowKit

def CutAt (B : Nat) (w : World) (v : Value) (zs : List Int) (e : Ending) (w' : World) : Prop := ∃ a n cap, e = .returned (.tuple #[v, .slice (some a) n cap]) ∧ Sl w' (some a) n cap zs ∧ Still w w' ∧ a.block = B
/-- a reader whose bytes lie below hi -/
def RdO (w : World) (g : Nat) (zs : List Int) (bad : Bool) (hi : Nat) : Prop := ∃ A n cap, Two w g A n cap bad ∧ Sl w A n cap zs ∧ n ≤ 140737488355328 ∧ (0 < n → ∀ a, A = some a → a.block < hi)
theorem RdO.rdr {w : World} {g : Nat} {zs : List Int} {bad : Bool} {hi : Nat} (h : RdO w g zs bad hi) : Rdr w g zs bad := by
  obtain ⟨A, n, cap, h1, h2, h3, _⟩ := h
  exact ⟨A, n, cap, h1, h2, h3⟩
theorem Rdr.low {w : World} {g : Nat} {zs : List Int} {bad : Bool} (h : Rdr w g zs bad) : RdO w g zs bad w.heap.size := by
  obtain ⟨A, n, cap, h1, h2, h3⟩ := h
  refine ⟨A, n, cap, h1, h2, h3, fun hn a ha => ?_⟩
  obtain ⟨b, off, e, hc⟩ := h2.1.2.2.2 hn
  rw [ha] at e
  injection e with e
  have := lt_of_cell (hc 0 hn)
  rw [e]
  exact this
theorem RdO.below {w w' : World} {g : Nat} {zs : List Int} {bad : Bool} {hi : Nat} (h : RdO w g zs bad hi) (hb : Below w.heap.size w w') : RdO w' g zs bad hi := by
  obtain ⟨A, n, cap, h1, h2, h3, h4⟩ := h
  exact ⟨A, n, cap, h1.below hb, h2.below hb, h3, h4⟩
/-- a row that lies above, and grows, leaves the reader -/
theorem RdO.grown {w w' : World} {g : Nat} {zs : List Int} {bad : Bool} {hi : Nat} (h : RdO w g zs bad hi) {row : Option Nat} (hg : w.grownBy w' row) (hr : ∀ r, row = some r → hi ≤ r ∧ g ≠ r) : RdO w' g zs bad hi := by
  obtain ⟨A, n, cap, h1, h2, h3, h4⟩ := h
  have hlt := h1.lt
  refine ⟨A, n, cap, h1.of_block (hg.block g hlt (fun e => (hr g e.symm).2 rfl)), ⟨?_, h2.2⟩, h3, h4⟩
  rcases Nat.eq_zero_or_pos n with h0 | h0
  · subst h0
    obtain rfl : zs = [] := List.eq_nil_of_length_eq_zero h2.1.1
    exact Rd.zero _ _
  · exact h2.1.grown hg (fun a ha e => by have h5 := (hr _ e).1; have h6 := h4 h0 a ha; omega)
def GotO (g : Nat) (w : World) (v : Value) (zs : List Int) (bad : Bool) (hi : Nat) (e : Ending) (w' : World) : Prop := e = .returned v ∧ Chg g w w' ∧ RdO w' g zs bad hi
set_option maxHeartbeats 800000 in
theorem cutD_at (a : Addr) (ha : a.spot = none) (n cap k : Nat) (zs : List Int) (w : World) (hs : Sl w (some a) n cap zs) (hok : okD zs k) :
    Calls Tryz.prog 140 #[.slice (some a) n cap, .int .i64 (k : Int)] w (CutAt a.block w (.int .u64 (val (zs.take k) : Nat)) (zs.drop k)) := by
  obtain ⟨h8, hkl, hz⟩ := hok
  have hl := hs.1.1
  rw [hl] at hkl
  have hnc := hs.2.1
  have hcm := hs.2.2.1
  have hsl := run_tail .i64 a ha n cap k hkl hnc
  unfold maxLen at hcm
  obtain ⟨b, off, sp⟩ := a
  obtain rfl : sp = none := ha
  have HS := Lib.hid hs
  have HL := Lib.hid hl
  have HZ := Lib.hid hz
  have HSL := Lib.hid hsl
  clear hs hl hz hsl
  have main : (((k : Int) == 0) = true ∨ (((k : Int) == 0) = false ∧ 0 < n ∧ ∃ c0 : Int, w.cell? ⟨b, off, none⟩ = some (.int .u8 c0) ∧ (c0 != 0) = true)) := by
    by_cases hk0 : k = 0
    · left; simp; omega
    · right
      refine ⟨by simp; omega, by omega, ?_⟩
      obtain ⟨b', off', he, hc0⟩ := HS.out.1.addr 0 (by omega)
      injection he with he
      injection he with e1 e2
      subst e1 e2
      refine ⟨_, hc0, ?_⟩
      rcases HZ.out with h | h
      · omega
      · simpa using h
  have j1 : (k : Int) ≤ 8 := by omega
  have j2 : (k : Int) ≤ (n : Int) := by omega
  have j3 : (k : Int) ≤ (cap : Int) := by omega
  have j0 : (0 : Int) ≤ (k : Int) := by omega
  rcases main with hk0 | ⟨hk0, hnp, c0, hc0, hne⟩
  all_goals
    go_enter Tryz.func140, Tryz.ntmps140
    go_wp2_with (go_at_call 101; refine (demand_ok _).mono ?_; rintro e w' ⟨rfl, rfl⟩)
    first
      | clear hk0 hc0 hne
      | clear hk0
    go_loop [6, 31] (fun v i => ∃ j : Nat, j ≤ k ∧ i = .int .i64 j ∧ v = .int .u64 (val (zs.take j) : Nat)) (fun _ i => k - (intOf i).toNat)
    case atStart => exact ⟨0, by omega, rfl, rfl⟩
    case round =>
      obtain ⟨j, hj, rfl, rfl⟩ := hrel
      by_cases hlt : j < k
      · obtain ⟨b', off', he, hc⟩ := HS.out.1.addr j (by omega)
        injection he with he
        injection he with e1 e2
        subst e1 e2
        generalize hcg : zs.getD j 0 = c at hc
        have HCG := Lib.hid hcg
        have hcb := getD_byte HS.out.1.2.2.1 j (by rw [HL.out]; omega)
        rw [hcg] at hcb
        clear hcg
        have HV := Lib.hid (val_take zs j (by rw [HL.out]; omega))
        rw [HCG.out] at HV
        have hvl : val (zs.take j) < 72057594037927936 := by
          have h1 := val_lt j (zs.take j) (by rw [List.length_take, HL.out]; omega) (bytes_take HS.out.1.2.2.1 j)
          have h2 : (256 : Nat) ^ j ≤ 256 ^ 7 := Nat.pow_le_pow_right (by omega) (by omega)
          have h3 : (256 : Nat) ^ 7 = 72057594037927936 := by decide
          omega
        have HOR := Lib.hid (or_digit _ c hvl hcb.1 hcb.2)
        rw [← HV.out] at HOR
        go_wp2
        go_round
        case rel => exact ⟨j + 1, by omega, by go_num, congrArg (Value.int .u64) HOR.out⟩
        case measure => simp [intOf]; omega
      · obtain rfl : j = k := by omega
        have hsl := HSL.out
        have HT := Lib.hid (HS.out.tail j hkl)
        go_wp2_with fail
        go_quiet (fail)
        go_wp2
        go_ret2
        exact ⟨_, _, _, rfl, Still.sl HT.out (Still.drewN (Still.refl _) _), Still.drewN (Still.refl _) _, by unfold past; split <;> rfl⟩

set_option maxHeartbeats 800000 in
theorem cutN_at (A : Option Addr) (n cap : Nat) (zs : List Int) (w : World) (hs : Sl w A n cap zs) (v : Nat) (r : List Int) (h : cutNum zs = some (v, r)) (B : Nat) (hB : ∀ a, A = some a → a.block = B) :
    Calls Tryz.prog 125 #[.slice A n cap] w (CutAt B w (.int .u64 (v : Int)) r) := by
  cases zs with
  | nil => simp [cutNum] at h
  | cons c rr =>
    have hc := hs.1.2.2.1 c (by simp)
    obtain ⟨k, rfl⟩ : ∃ k : Nat, c = (k : Int) := ⟨c.toNat, by omega⟩
    rw [cutNum, Int.toNat_natCast] at h
    by_cases hok : okD rr k
    · rw [if_pos hok] at h
      simp only [Option.some.injEq, Prod.mk.injEq] at h
      obtain ⟨rfl, rfl⟩ := h
      have hl := hs.1.1
      simp only [List.length_cons] at hl
      have hnp : 0 < n := by omega
      have hcm := hs.1.2.1
      unfold maxLen at hcm
      obtain ⟨b, off, rfl, hc0⟩ := hs.1.addr 0 hnp
      rw [Nat.add_zero] at hc0
      have hc1 : w.cell? ⟨b, off, none⟩ = some (.int .u8 (k : Int)) := hc0
      have HT := Lib.hid (show Sl w.drew _ _ _ rr from Still.sl (hs.tail 1 (by omega)) (Still.refl w).drew)
      have hsl : ∀ W : World, (Instr.slice 36 (.slice (some ⟨b, off, none⟩) n cap) (some (.int .i64 1)) none none).run Tryz.prog W = .ok (.slice (some (past ⟨b, off, none⟩ cap 1)) (n - 1) (cap - 1)) W := run_tail .i64 ⟨b, off, none⟩ rfl n cap 1 (by omega) hs.2.1
      have HBK := Lib.hid (show (past ⟨b, off, none⟩ cap 1).block = B by rw [← hB _ rfl]; unfold past; split <;> rfl)
      have HSP := Lib.hid (show (past ⟨b, off, none⟩ cap 1).spot = none by unfold past; split <;> rfl)
      generalize past ⟨b, off, none⟩ cap 1 = a1 at *
      have HOK := Lib.hid hok
      have hwk : IntKind.i64.wrap (k : Int) = (k : Int) := IntWalk.i64_in _ (by omega)
      clear hs hc0 hl hok hc hB
      go_enter Tryz.func125, Tryz.ntmps125
      go_wp2_with (go_at_call 101; refine (demand_ok _).mono ?_; rintro e w' ⟨rfl, rfl⟩)
      go_region_with ((go_at_call 140; refine (cutD_at a1 HSP.out _ _ k rr _ HT.out HOK.out).mono ?_; rintro e w' ⟨A', n', cap', rfl, hs', hst, hbk⟩; have HBK2 := Lib.hid (hbk.trans HBK.out); have HS' := Lib.hid hs'; have HST := Lib.hid hst; clear hs' hst hbk))
      all_goals go_wp2
      all_goals go_ret2
      all_goals exact ⟨_, _, _, rfl, HS'.out, (Still.refl w).drew.trans HST.out, HBK2.out⟩
    · rw [if_neg hok] at h
      cases h

set_option maxHeartbeats 800000 in
theorem num_at (g : Nat) (zs : List Int) (w : World) (hi : Nat) (hr : RdO w g zs false hi) (v : Nat) (r : List Int) (h : cutNum zs = some (v, r)) (most : Int) (hm : (v : Int) ≤ most) :
    Calls Tryz.prog 97 #[.pointer (some ⟨g, 0, none⟩), .int .u64 most] w (GotO g w (.int .u64 (v : Int)) r false hi) := by
  obtain ⟨A, n, cap, ht, hs, hn, hlow⟩ := hr
  obtain ⟨B, hB, hBh⟩ : ∃ B, (∀ a, A = some a → a.block = B) ∧ B < hi := by
    cases zs with
    | nil => simp [cutNum] at h
    | cons c rr =>
      have hl := hs.1.1
      simp only [List.length_cons] at hl
      obtain ⟨b, off, e, _⟩ := hs.1.addr 0 (by omega)
      exact ⟨b, (fun a ha => by rw [e] at ha; injection ha with ha; rw [← ha]), hlow (by omega) _ e⟩
  have HBB := Lib.hid (And.intro hB hBh)
  clear hlow hB hBh
  have hmf : ∀ (fn : Fn) (first cap : Array Value) (w : World), (Instr.makeFunc fn first cap).run Tryz.prog w = .ok (.func fn first cap) w := fun _ _ _ _ => rfl
  have hgl := ht.lt
  have HLN := Lib.hid (cutNum_len zs v r h)
  rw [hs.1.1] at HLN
  have HF := Lib.hid (Fr.start ht (.int .u64 0) (nb_u64 0) 107 98)
  have HS := Lib.hid (hs.chg HF.out.2.2.2.2.1 ht)
  have HC := Lib.hid h
  clear ht hs h
  go_enter_defers Tryz.func97, Tryz.ntmps97
  go_wp2_with fail
  refine (unread_ok g A n cap _ HF.out.2.2.2.1).mono ?_
  rintro e w' ⟨rfl, rfl⟩
  go_wp2_with fail
  refine (cutN_at A n cap zs _ HS.out v r HC.out B HBB.out.1).mono ?_
  rintro e W ⟨a, n1, cap1, rfl, hs1, hst, hab⟩
  have HAB := Lib.hid hab
  clear hab
  have hf := HF.out.still hst
  have c0 := hf.2.1
  have c1 := hf.cellM.1
  have c2 := hf.cellM.2
  have c3 := hf.2.2.2.1.cells.1
  have c4 := hf.2.2.2.1.cells.2.2.1
  have hf1 := hf.setM (.int .u64 (v : Int)) (nb_u64 _)
  have hf2 := hf1.set0 (some a) n1 cap1
  have HF1 := Lib.hid (hf2.setM (.int .u64 (v : Int)) (nb_u64 _))
  have HS1 := Lib.hid (hf2.slM (hf1.slG (hf.slM hs1 (.int .u64 (v : Int))) 0 (.slice (some a) n1 cap1)) (.int .u64 (v : Int)))
  have HN1 := Lib.hid (show n1 ≤ 140737488355328 by have := hs1.1.1; have := HLN.out; omega)
  clear HF HS hst hf1 hf2 hs1 hf
  have d1 : ¬ g = w.heap.size := by omega
  have d2 : ¬ g = w.heap.size + 1 := by omega
  have d3 : ¬ w.heap.size = g := by omega
  have d4 : ¬ w.heap.size + 1 = g := by omega
  go_wp2_with (go_at_call 101; refine (demand_ok _).mono ?_; rintro e w' ⟨rfl, rfl⟩)
  clear c0 c1 c2 c3 c4
  generalize ((W.setCell _ _).setCell _ _).setCell _ _ = W4 at HF1 HS1 ⊢
  have c1 := HF1.out.cellM.1
  refine leaves_cons (f := 124) (args := #[.pointer (some ⟨w.heap.size + 1, 0, none⟩), .pointer (some ⟨w.heap.size, 0, none⟩)]) (by simp) (by simp [go_sem]) ?_
  refine (catchN_idle _ _ _).mono ?_
  rintro e u' w'' ⟨rfl, rfl, rfl⟩
  simp [Leaves, settle, results, Tryz.results97, go_sem, c1]
  exact ⟨rfl, HF1.out.2.2.2.2.1, _, _, _, HF1.out.2.2.2.1, HS1.out, HN1.out, fun _ x hx => by injection hx with hx; rw [← hx, HAB.out]; exact HBB.out.2⟩

/-- the door, where the method panicked -/
theorem doorO {w W : World} {g : Nat} {x : Value} {A : Option Addr} {n cap : Nat} {bad : Bool} (hf : Fr w W g x A n cap bad) {zs : List Int} (hs : Sl W A n cap zs) (hn : n ≤ 140737488355328) (hi : Nat) (hlow : 0 < n → ∀ a, A = some a → a.block < hi) (ts : Array Value) (h4 : ts[4]? = some (.pointer (some ⟨w.heap.size + 1, 0, none⟩))) :
    bodyPostD Tryz.prog Tryz.f97 (GotO g w (.int .u64 0) zs true hi) (Exit.panic errP) { tmps := ts, defers := [{ target := Target.fn (Fn.func 124) #[.pointer (some ⟨w.heap.size + 1, 0, none⟩), .pointer (some ⟨w.heap.size, 0, none⟩)], args := #[] }] } W := by
  have hgl := hf.1
  have hf1 := hf.setM (.int .u64 0) (nb_u64 _)
  have hf2 := hf1.set1 true
  have hs2 := hf1.slG (hf.slM hs (.int .u64 0)) 1 (.bool true)
  have c1 := hf2.cellM.1
  refine leaves_cons (f := 124) (args := #[.pointer (some ⟨w.heap.size + 1, 0, none⟩), .pointer (some ⟨w.heap.size, 0, none⟩)]) (by simp) (by simp [go_sem]) ?_
  refine (catchN_panic ⟨w.heap.size + 1, 0, none⟩ ⟨w.heap.size, 0, none⟩ g x bad W hf.cellM.1 hf.cellM.2 hf.2.1 hf.2.2.2.1.cells.2.1 hf.2.2.2.1.cells.2.2.2 (by simp; omega) [] 25 (.int .i64 6)).mono ?_
  rintro e u' w'' ⟨rfl, rfl, rfl⟩
  generalize (W.setCell _ _).setCell _ _ = W4 at hf2 hs2 c1 ⊢
  simp [Leaves, settle, results, Tryz.results97, go_sem, Array.getD_eq_getD_getElem?, h4, c1]
  exact ⟨rfl, hf2.2.2.2.2.1, _, _, _, hf2.2.2.2.1, hs2, hn, hlow⟩

set_option maxHeartbeats 800000 in
theorem num_no (g : Nat) (zs : List Int) (w : World) (bad : Bool) (hi : Nat) (hr : RdO w g zs bad hi) (most : Int) (h : bad = true ∨ cutNum zs = none ∨ ∃ v r, cutNum zs = some (v, r) ∧ most < (v : Int)) :
    Calls Tryz.prog 97 #[.pointer (some ⟨g, 0, none⟩), .int .u64 most] w (GotO g w (.int .u64 0) zs true hi) := by
  obtain ⟨A, n, cap, ht, hs, hn, hlow⟩ := hr
  have HLOW := Lib.hid hlow
  clear hlow
  have hmf : ∀ (fn : Fn) (first cap : Array Value) (w : World), (Instr.makeFunc fn first cap).run Tryz.prog w = .ok (.func fn first cap) w := fun _ _ _ _ => rfl
  have hgl := ht.lt
  have HF := Lib.hid (Fr.start ht (.int .u64 0) (nb_u64 0) 107 98)
  have HS := Lib.hid (hs.chg HF.out.2.2.2.2.1 ht)
  have HH := Lib.hid h
  clear ht hs h
  cases bad with
  | true =>
    go_enter_defers Tryz.func97, Tryz.ntmps97
    go_wp2_with fail
    refine (unread_bad g A n cap _ HF.out.2.2.2.1).mono ?_
    rintro e w' ⟨rfl, rfl⟩
    exact doorO HF.out HS.out hn hi HLOW.out _ rfl
  | false =>
    cases hc : cutNum zs with
    | none =>
      have HC := Lib.hid hc
      clear hc
      go_enter_defers Tryz.func97, Tryz.ntmps97
      go_wp2_with fail
      refine (unread_ok g A n cap _ HF.out.2.2.2.1).mono ?_
      rintro e w' ⟨rfl, rfl⟩
      go_wp2_with fail
      refine (cutN_bad A n cap zs _ HS.out HC.out).mono ?_
      rintro e W ⟨rfl, hst⟩
      exact doorO (HF.out.still hst) (Still.sl HS.out hst) hn hi HLOW.out _ rfl
    | some q =>
      obtain ⟨v, r⟩ := q
      have hv : most < (v : Int) := by
        rcases HH.out with h | h | ⟨v', r', h, h'⟩
        · cases h
        · rw [hc] at h; cases h
        · rw [hc] at h; cases h; exact h'
      have HC := Lib.hid hc
      clear hc HH
      go_enter_defers Tryz.func97, Tryz.ntmps97
      go_wp2_with fail
      refine (unread_ok g A n cap _ HF.out.2.2.2.1).mono ?_
      rintro e w' ⟨rfl, rfl⟩
      go_wp2_with fail
      refine (cutN_ok A n cap zs _ HS.out v r HC.out).mono ?_
      rintro e W ⟨a, n1, cap1, rfl, hs1, hst⟩
      have hf := HF.out.still hst
      have c0 := hf.2.1
      have c1 := hf.cellM.1
      have c2 := hf.cellM.2
      have HF1 := Lib.hid (hf.setM (.int .u64 (v : Int)) (nb_u64 _))
      have HS1 := Lib.hid (hf.slM (Still.sl HS.out hst) (.int .u64 (v : Int)))
      clear HF HS hst hf
      have hmi : decide ((v : Int) ≤ most) = false := by simp; omega
      go_wp2_with (go_at_call 101; refine (demand_bad _).mono ?_; rintro e w' ⟨rfl, rfl⟩)
      exact doorO HF1.out HS1.out hn hi HLOW.out _ rfl
end Go.Proofs.YtejphnbhcabchaaGreat.Fld

namespace Go.Proofs.YtejphnbhcabchaaGreat.Kp
open Go.RowKit Go.Proofs.YtejphnbhcabchaaGreat.Dk Go.Proofs.YtejphnbhcabchaaGreat.Fld
set_option linter.unusedVariables false

theorem number_o (g : Nat) (q : List Int × Bool) (w : World) (most hi : Nat) (h : RdO w g q.1 q.2 hi) : Calls Tryz.prog 97 #[.pointer (some ⟨g, 0, none⟩), .int .u64 (most : Int)] w (GotO g w (.int .u64 ((rdN q most).1 : Int)) (rdN q most).2.1 (rdN q most).2.2 hi) := by
  obtain ⟨zs, bad⟩ := q
  unfold rdN
  cases bad with
  | true => exact num_no g zs w true hi h _ (.inl rfl)
  | false =>
    simp only [Bool.false_eq_true, if_false]
    cases hc : cutNum zs with
    | none => exact num_no g zs w false hi h _ (.inr (.inl hc))
    | some vr =>
      obtain ⟨v, r⟩ := vr
      simp only
      by_cases hb : v ≤ most
      · rw [if_pos hb]
        exact num_at g zs w hi h v r hc _ (by omega)
      · rw [if_neg hb]
        exact num_no g zs w false hi h _ (.inr (.inr ⟨v, r, hc, by omega⟩))
set_option maxRecDepth 100000 in
theorem readNumber_o (g : Nat) (q : List Int × Bool) (w : World) (most hi : Nat) (hm : most ≤ 9223372036854775807) (h : RdO w g q.1 q.2 hi) : Calls Tryz.prog 66 #[.pointer (some ⟨g, 0, none⟩), .int .u64 (most : Int)] w (GotO g w (.int .i64 ((rdN q most).1 : Int)) (rdN q most).2.1 (rdN q most).2.2 hi) := by
  have HR := Lib.hid (number_o g q w most hi h)
  have hv := rdN_most q most
  clear h
  obtain ⟨v, hv2⟩ : ∃ v, (rdN q most).1 = v := ⟨_, rfl⟩
  rw [hv2] at HR hv ⊢
  have hv : v ≤ 9223372036854775807 := by omega
  go_enter Tryz.func66, Tryz.ntmps66
  go_wp2_with (go_at_call 97; refine HR.out.mono ?_; rintro e w' ⟨rfl, hc, hr⟩; have HC := Lib.hid hc; have HRR := Lib.hid hr; clear hc hr)
  go_ret
  exact ⟨rfl, HC.out, HRR.out⟩
/-- so many numbers of nodes, one behind the other -/
def rdTo (q : List Int × Bool) : Nat → List Nat × (List Int × Bool)
  | 0 => ([], q)
  | k + 1 => ((rdTo q k).1 ++ [(rdN (rdTo q k).2 15).1], (rdN (rdTo q k).2 15).2)
def rdLs (q : List Int × Bool) : List Nat × (List Int × Bool) := rdTo (rdN q 15).2 (rdN q 15).1
theorem rdTo_len (q : List Int × Bool) : ∀ k, (rdTo q k).1.length = k
  | 0 => rfl
  | k + 1 => by rw [rdTo, List.length_append, rdTo_len q k]; rfl
theorem rdTo_most (q : List Int × Bool) : ∀ k, ∀ m ∈ (rdTo q k).1, m ≤ 15
  | 0 => by simp [rdTo]
  | k + 1 => by
    intro m hm
    rw [rdTo] at hm
    rcases List.mem_append.1 hm with hm | hm
    · exact rdTo_most q k m hm
    · rw [List.mem_singleton] at hm
      rw [hm]
      exact rdN_most _ _
def vOf (l : List Nat) : List Value := l.map fun (n : Nat) => .int .i64 (n : Int)
theorem vOf_snoc (l : List Nat) (n : Nat) : vOf (l ++ [n]) = vOf l ++ [.int .i64 (n : Int)] := by simp [vOf]
theorem int_info : ∃ i, Tryz.prog.info? 3 = some i ∧ i.zero = some (.int .i64 0) ∧ i.size = 1 ∧ i.bytes = 8 := by
  have h : (Tryz.prog.info? 3).map (fun i => (i.zero, i.size, i.bytes)) = some (some (.int .i64 0), 1, 8) := by kernel_rfl
  cases hq : Tryz.prog.info? 3 with
  | none => simp [hq] at h
  | some i => simp [hq] at h; exact ⟨i, rfl, h⟩
theorem wpList_append_int {w : World} {ops : Array Oper} {rest : List Oper} {o : Oper} {a : Act} {Q : Exit → Act → World → Prop} (hgd : o.guard = none) (s x : Operand)
    (ho : o.op = .call { callee := .builtin .append, args := #[s, x], argTypes := #[33, 33] })
    (base : Nat) (v : Value) (k : Nat) (vs : List Value) (z : Int) (hs : a.eval s = v) (hown : w.ownsRow base 3 1 v k vs) (g : Nat) (hx : a.eval x = .slice (some ⟨g, 0, none⟩) 1 1) (hc : w.cell? ⟨g, 0, none⟩ = some (.int .i64 z))
    (hk : k + 1 ≤ 1099511627776) (hb : base ≤ w.heap.size)
    (h : ∀ v' w', w'.ownsRow base 3 1 v' (k + 1) (vs ++ [.int .i64 z]) → w.grownBy w' v.ownBlock → wpList Tryz.prog ops Q rest (a.put o.dst v') w') : wpList Tryz.prog ops Q (o :: rest) a w := by
  obtain ⟨i, hi, hz, hsz, hby⟩ := int_info
  refine wpList_append_own_at w hgd s x _ ho base 3 i _ 1 8 Tryz.underlying33 hi hz hsz hby rfl (by omega) v k vs hs hown ⟨g, 0, none⟩ 1 1 [.int .i64 z] hx rfl ?_ ?_ (by unfold maxLen; omega) (by omega) hb ?_
  · intro j u hu
    rcases j with _ | j
    · simp at hu; subst hu; exact hc
    · simp at hu
  · intro u hu; simp at hu; subst hu; rfl
  · intro v' w' h1 h2 _ _
    exact h v' w' h1 h2
theorem row_of_blocks {W W' : World} {base e s k : Nat} {v : Value} {vs : List Value} (h : W.ownsRow base e s v k vs) (hb : ∀ i, base ≤ i → i < W.heap.size → W'.heap[i]? = W.heap[i]?) : W'.ownsRow base e s v k vs := by
  obtain ⟨h1, h2⟩ := h
  refine ⟨h1, ?_⟩
  rcases h2 with h2 | ⟨g, cap, cur, e, h3, h4, h5⟩
  · exact .inl h2
  · exact .inr ⟨g, cap, cur, e, h3, (hb g h3 (Array.getElem?_eq_some_iff.1 h4).1).trans h4, h5⟩
theorem row_base {W : World} {base e s k : Nat} {v : Value} {vs : List Value} (h : W.ownsRow base e s v k vs) : ∀ r, v.ownBlock = some r → base ≤ r := by
  intro r hr
  rcases h.2 with ⟨rfl, _⟩ | ⟨g, cap, cur, rfl, hg, _⟩
  · simp [Value.ownBlock] at hr
  · simp [Value.ownBlock] at hr; omega
theorem row_rdI {W : World} {base k : Nat} {v : Value} {l : List Nat} (h : W.ownsRow base 3 1 v k (vOf l)) (hk : k ≤ 1000000) : ∃ A cap, v = .slice A k cap ∧ RdI W A k (ints l) ∧ (A = none → cap = 0) ∧ l.length = k ∧ ∀ a, A = some a → base ≤ a.block := by
  obtain ⟨h1, h2⟩ := h
  have hl : l.length = k := by simpa [vOf] using h1
  rcases h2 with ⟨rfl, h0⟩ | ⟨g, cap, cur, rfl, hg, hh, hnc, hcm, hcs, hcu⟩
  · subst h0
    exact ⟨none, 0, rfl, ⟨by rw [ints_len]; exact hl, by unfold maxLen; omega, fun h => by omega⟩, fun _ => rfl, hl, fun a h => by cases h⟩
  · refine ⟨_, _, rfl, ⟨by rw [ints_len]; exact hl, by unfold maxLen; omega, fun _ => ⟨g, 0, rfl, fun i hi => ?_⟩⟩, (fun h => by cases h), hl, fun a ha => by injection ha with ha; rw [← ha]; exact hg⟩
    rw [Nat.zero_add, cell_of_row W g i cur _ (0, 0) hh, ints_at l i (by omega)]
    have : (vOf l)[i]? = some (.int .i64 ((l.getD i 0 : Nat) : Int)) := by simp [vOf, show i < l.length by omega]
    rw [← this, ← hcu, List.getElem?_take, if_pos (by omega), Array.getElem?_toList]
theorem chg_grown {g : Nat} {a w w' : World} {row : Option Nat} (h : Chg g a w) (hg : w.grownBy w' row) (hr : ∀ r, row = some r → a.heap.size ≤ r) : Chg g a w' := by
  have hf : Dk.Fr [g] a w := ⟨h.os, h.tape, h.output, h.size, fun k hk hn => h.block k hk (by simpa using hn)⟩
  have hf2 := hf.grown hg (fun i hi => .inr (hr i hi))
  exact ⟨hf2.os, hf2.tape, hf2.output, hf2.size, fun k hk hn => hf2.block k hk (by simpa using hn)⟩
def LsIs (g : Nat) (w : World) (hi : Nat) (r : List Nat × (List Int × Bool)) (e : Ending) (w' : World) : Prop := ∃ A cap, e = .returned (.slice A r.1.length cap) ∧ RdI w' A r.1.length (ints r.1) ∧ (A = none → cap = 0) ∧ (∀ a, A = some a → w.heap.size ≤ a.block) ∧ Chg g w w' ∧ RdO w' g r.2.1 r.2.2 hi
def LsR (g : Nat) (w : World) (hi N : Nat) (q : List Int × Bool) (v i : Value) (wr : World) : Prop := ∃ k : Nat, k ≤ N ∧ i = .int .i64 (k : Int) ∧ wr.ownsRow w.heap.size 3 1 v k (vOf (rdTo q k).1) ∧ Chg g w wr ∧ RdO wr g (rdTo q k).2.1 (rdTo q k).2.2 hi
set_option maxRecDepth 100000 in
set_option maxHeartbeats 3200000 in
theorem readList_any (g : Nat) (q : List Int × Bool) (w : World) (hi : Nat) (hhi : hi ≤ w.heap.size) (h : RdO w g q.1 q.2 hi) : Calls Tryz.prog 67 #[.pointer (some ⟨g, 0, none⟩)] w (LsIs g w hi (rdLs q)) := by
  have HN := Lib.hid (readNumber_o g q w 15 hi (by omega) h)
  have hgl : g < w.heap.size := h.rdr.lt
  have hNm := rdN_most q 15
  have HLS := Lib.hid (show rdLs q = rdTo (rdN q 15).2 (rdN q 15).1 from rfl)
  clear h
  generalize rdLs q = R at *
  generalize rdN q 15 = a0 at *
  obtain ⟨N, q1⟩ := a0
  simp only at hNm
  go_enter Tryz.func67, Tryz.ntmps67
  go_wp2_with fail
  refine HN.out.mono ?_
  rintro e w1 ⟨rfl, hc1, hr1⟩
  have HS := Lib.hid (show LsR g w hi N q1 (.slice none 0 0) (.int .i64 0) w1 from ⟨0, Nat.zero_le _, rfl, World.ownsRow_nil _ _ _ _, hc1, hr1⟩)
  clear hc1 hr1 HN
  go_wp2_with fail
  go_loopw [3, 6] (fun v i wr => LsR g w hi N q1 v i wr) (fun _ i _ => N - (intOf i).toNat)
  case atStart => exact HS.out
  case round =>
    obtain ⟨k, hk, rfl, hrow, hch, hrd⟩ := hrel
    have HROW := Lib.hid hrow
    have HCH := Lib.hid hch
    have HRD := Lib.hid hrd
    clear hrow hch hrd
    by_cases hlt : k < N
    · have HM := Lib.hid (readNumber_o g (rdTo q1 k).2 _ 15 hi (by omega) HRD.out)
      have HT := Lib.hid (show rdTo q1 (k + 1) = ((rdTo q1 k).1 ++ [(rdN (rdTo q1 k).2 15).1], (rdN (rdTo q1 k).2 15).2) from rfl)
      generalize rdN (rdTo q1 k).2 15 = a1 at *
      obtain ⟨x, q2⟩ := a1
      simp only at HT
      go_wp2_with fail
      refine HM.out.mono ?_
      rintro e w2 ⟨rfl, hc2, hr2⟩
      have hrow2 := row_of_blocks HROW.out (fun i h1 h2 => hc2.block i h2 (by omega))
      have hb3 := alloc_below w2 (.cells #[.int .i64 (x : Int)] 3)
      have HROW3 := Lib.hid (row_of_blocks hrow2 (fun i _ h2 => hb3.block i h2))
      have HC3 := Lib.hid ((HCH.out.trans hc2).alloc (.cells #[.int .i64 (x : Int)] 3))
      have HR3 := Lib.hid (hr2.below hb3)
      have HCELL := Lib.hid (show (w2.alloc (.cells #[.int .i64 (x : Int)] 3)).cell? ⟨w2.heap.size, 0, none⟩ = some (.int .i64 (x : Int)) by rw [World.cell?_alloc_mark]; rfl)
      clear hrow2 hb3 hc2 hr2 HM
      go_wp2_with (at_builtin; refine wpList_append_int rfl _ _ rfl w.heap.size _ k (vOf (rdTo q1 k).1) (x : Int) rfl HROW3.out w2.heap.size rfl HCELL.out (by omega) HC3.out.size ?_; intro v4 w4 hrow4 hg4; rw [← vOf_snoc] at hrow4; have HROW4 := Lib.hid hrow4; have HG4 := Lib.hid hg4; clear hrow4 hg4)
      go_roundw
      case rel =>
        refine ⟨k + 1, by omega, by go_num, by rw [HT.out]; exact HROW4.out, ?_, ?_⟩
        · exact chg_grown HC3.out HG4.out (row_base HROW3.out)
        · rw [HT.out]
          exact HR3.out.grown HG4.out (fun r hr => ⟨by have := row_base HROW3.out r hr; omega, by have := row_base HROW3.out r hr; omega⟩)
      case measure => simp [intOf]; omega
    · obtain rfl : k = N := by omega
      obtain ⟨A, cap, hv, hri, hA, hll, hfr⟩ := row_rdI HROW.out (by omega)
      have HF := Lib.hid (show LsIs g w hi R (.returned (.slice A k cap)) wr by
        rw [HLS.out]
        refine ⟨A, cap, ?_, ?_, hA, hfr, HCH.out, HRD.out⟩
        · rw [hll]
        · rw [hll]; exact hri)
      subst hv
      clear hri hA hfr
      go_wp2
      go_ret
      exact HF.out
end Go.Proofs.YtejphnbhcabchaaGreat.Kp

namespace Go.Proofs.YtejphnbhcabchaaGreat.Kp
open Go.RowKit Go.Proofs.YtejphnbhcabchaaGreat.Dk Go.Proofs.YtejphnbhcabchaaGreat.Fld
set_option linter.unusedVariables false

def rdT (q : List Int × Bool) (most : Nat) : List Int × (List Int × Bool) :=
  if q.2 then ([], q) else match cutText q.1 with
    | some (t, r) => if t.length ≤ most then (t, (r, false)) else ([], (q.1, true))
    | none => ([], (q.1, true))
theorem text_rd (g : Nat) (q : List Int × Bool) (w : World) (most : Nat) (h : Rdr w g q.1 q.2) : Calls Tryz.prog 68 #[.pointer (some ⟨g, 0, none⟩), .int .i64 (most : Int)] w (GotT g w (rdT q most).1 (rdT q most).2.1 (rdT q most).2.2) := by
  obtain ⟨zs, bad⟩ := q
  have hbad : ∀ (e : Ending) (w' : World), Got g w (.slice none 0 0) zs true e w' → GotT g w [] zs true e w' := fun e w' h => ⟨none, 0, 0, h.1, Sl.nil w', h.2⟩
  unfold rdT
  cases bad with
  | true => exact (rtext_bad g zs w true h _ (.inl rfl)).mono hbad
  | false =>
    simp only [Bool.false_eq_true, if_false]
    cases hc : cutText zs with
    | none => exact (rtext_bad g zs w false h _ (.inr (.inl hc))).mono hbad
    | some vr =>
      obtain ⟨t, r⟩ := vr
      simp only
      by_cases hb : t.length ≤ most
      · rw [if_pos hb]
        exact rtext_ok g zs w h t r hc _ (by omega)
      · rw [if_neg hb]
        exact (rtext_bad g zs w false h _ (.inr (.inr ⟨t, r, hc, by omega⟩))).mono hbad
/-- a snapshot -/
structure Sp where
  i : Nat
  t : Nat
  vs : List Nat
  ls : List Nat
  ds : List Int
def sp0 : Sp := ⟨0, 0, [], [], []⟩
def Sp.ok (x : Sp) : Bool := snapOk x.i x.t (ints x.vs) (ints x.ls) x.ds.length
def rdSp (zs : List Int) : Sp × (List Int × Bool) :=
  (⟨(rdN (zs, false) 1099511627776).1, (rdN (rdN (zs, false) 1099511627776).2 1099511627776).1, (rdLs (rdN (rdN (zs, false) 1099511627776).2 1099511627776).2).1,
    (rdLs (rdLs (rdN (rdN (zs, false) 1099511627776).2 1099511627776).2).2).1, (rdT (rdLs (rdLs (rdN (rdN (zs, false) 1099511627776).2 1099511627776).2).2).2 60000).1⟩,
   (rdT (rdLs (rdLs (rdN (rdN (zs, false) 1099511627776).2 1099511627776).2).2).2 60000).2)
def decSp (zs : List Int) : Sp × Int := if wholeB (rdSp zs).2.1 (rdSp zs).2.2 && (rdSp zs).1.ok then ((rdSp zs).1, 0) else (sp0, 6)
/-- a snapshot in memory -/
structure SpAt (w : World) (x : Sp) (VA LA DA : Option Addr) (vc lc dc : Nat) : Prop where
  v : RdI w VA x.vs.length (ints x.vs)
  l : RdI w LA x.ls.length (ints x.ls)
  d : Rd w DA x.ds.length x.ds
  dn : DA = none → dc = 0
theorem SpAt.below {w w' : World} {x : Sp} {VA LA DA : Option Addr} {vc lc dc : Nat} (h : SpAt w x VA LA DA vc lc dc) (hb : Below w.heap.size w w') : SpAt w' x VA LA DA vc lc dc := ⟨RdI.below h.v hb, RdI.below h.l hb, h.d.below hb, h.dn⟩
def spV (x : Sp) (VA LA DA : Option Addr) (vc lc dc : Nat) : Value := snapV x.i x.t (.slice VA x.vs.length vc) (.slice LA x.ls.length lc) (.slice DA x.ds.length dc)
def SnapIs (w : World) (r : Sp × Int) (e : Ending) (w' : World) : Prop := ∃ VA LA DA vc lc dc, e = .returned (.tuple #[spV r.1 VA LA DA vc lc dc, .int .i64 r.2]) ∧ SpAt w' r.1 VA LA DA vc lc dc ∧ Below w.heap.size w w' ∧ (∀ a, VA = some a → w.heap.size ≤ a.block) ∧ (∀ a, LA = some a → w.heap.size ≤ a.block)
theorem SpAt.zero (w : World) : SpAt w sp0 none none none 0 0 0 := ⟨⟨rfl, by unfold maxLen; simp [sp0], fun h => by simp [sp0] at h⟩, ⟨rfl, by unfold maxLen; simp [sp0], fun h => by simp [sp0] at h⟩, Rd.nil w, fun _ => rfl⟩
/-- a list that lies above -/
def LiX (w : World) (A : Option Addr) (n : Nat) (l : List Int) (lo : Nat) : Prop := RdI w A n l ∧ ∀ a, A = some a → lo ≤ a.block
theorem LiX.set {w : World} {A : Option Addr} {n : Nat} {l : List Int} {lo : Nat} (h : LiX w A n l lo) (B k : Nat) (hB : B < lo) (v : Value) : LiX (w.setCell ⟨B, k, none⟩ v) A n l lo :=
  ⟨h.1.fr (S := [B]) ((Dk.Fr.refl _ _).setCell _ (.inl (by simp)) v) (fun _ a ha hm => by have := h.2 a ha; simp at hm; omega), h.2⟩
theorem LiX.chg {w w' : World} {A : Option Addr} {n : Nat} {l : List Int} {lo g : Nat} (h : LiX w A n l lo) (hc : Chg g w w') (hg : g < lo) : LiX w' A n l lo :=
  ⟨h.1.fr (S := [g]) ⟨hc.os, hc.tape, hc.output, hc.size, fun k hk hn => hc.block k hk (by simpa using hn)⟩ (fun _ a ha hm => by have := h.2 a ha; simp at hm; omega), h.2⟩
theorem LiX.below {w w' : World} {A : Option Addr} {n : Nat} {l : List Int} {lo : Nat} (h : LiX w A n l lo) (hb : Below w.heap.size w w') : LiX w' A n l lo := ⟨RdI.below h.1 hb, h.2⟩
theorem LiX.mono {w : World} {A : Option Addr} {n : Nat} {l : List Int} {lo lo' : Nat} (h : LiX w A n l lo) (hl : lo' ≤ lo) : LiX w A n l lo' := ⟨h.1, fun a ha => Nat.le_trans hl (h.2 a ha)⟩
theorem Twos.past {g : Nat} {w W W' : World} {q : List Int × Bool} {R C : Nat} {rs cs : Array Value} {tr tc : TypeId} (h : Twos g w W q R C rs cs tr tc) (hb : Below W.heap.size W W') : Twos g w W' q R C rs cs tr tc :=
  ⟨h.rd.below hb, h.res.below hb, h.own.below hb, h.chg.trans (Chg.below hb), h.r, h.c, h.ne⟩
end Go.Proofs.YtejphnbhcabchaaGreat.Kp

namespace Go.Proofs.YtejphnbhcabchaaGreat.Kp
open Go.RowKit Go.Proofs.YtejphnbhcabchaaGreat.Dk Go.Proofs.YtejphnbhcabchaaGreat.Fld
set_option linter.unusedVariables false

theorem Blk.fives {w : World} {B : Nat} {a b c d e : Value} {ty : TypeId} (h : Blk w B #[a, b, c, d, e] ty) (p q r s t : Value) : Blk (((((w.setCell ⟨B, 0, none⟩ p).setCell ⟨B, 1, none⟩ q).setCell ⟨B, 2, none⟩ r).setCell ⟨B, 3, none⟩ s).setCell ⟨B, 4, none⟩ t) B #[p, q, r, s, t] ty :=
  ((((h.set 0 p (by simp)).set 1 q (by simp)).set 2 r (by simp)).set 3 s (by simp)).set 4 t (by simp)
theorem below_fives {w W : World} (hb : Below w.heap.size w W) (p q r s t : Value) (B : Nat) (hB : w.heap.size ≤ B) : Below w.heap.size w (((((W.setCell ⟨B, 0, none⟩ p).setCell ⟨B, 1, none⟩ q).setCell ⟨B, 2, none⟩ r).setCell ⟨B, 3, none⟩ s).setCell ⟨B, 4, none⟩ t) :=
  ((((hb.setCell (p := ⟨B, 0, none⟩) hB p).setCell (p := ⟨B, 1, none⟩) hB q).setCell (p := ⟨B, 2, none⟩) hB r).setCell (p := ⟨B, 3, none⟩) hB s).setCell (p := ⟨B, 4, none⟩) hB t
theorem LiX.fives {w : World} {A : Option Addr} {n : Nat} {l : List Int} {lo : Nat} (h : LiX w A n l lo) (B : Nat) (hB : B < lo) (p q r s t : Value) : LiX (((((w.setCell ⟨B, 0, none⟩ p).setCell ⟨B, 1, none⟩ q).setCell ⟨B, 2, none⟩ r).setCell ⟨B, 3, none⟩ s).setCell ⟨B, 4, none⟩ t) A n l lo :=
  ((((h.set B 0 hB p).set B 1 hB q).set B 2 hB r).set B 3 hB s).set B 4 hB t
def NoU8 (v : Value) : Prop := ∀ c, v ≠ .int .u8 c
theorem Rd.fives {w : World} {A : Option Addr} {n : Nat} {zs : List Int} (h : Rd w A n zs) {B : Nat} {a b c d e : Value} {ty : TypeId} (hb : Blk w B #[a, b, c, d, e] ty) (ha : NoU8 a) (hb' : NoU8 b) (hc : NoU8 c) (hd : NoU8 d) (he : NoU8 e) (p q r s t : Value) : Rd (((((w.setCell ⟨B, 0, none⟩ p).setCell ⟨B, 1, none⟩ q).setCell ⟨B, 2, none⟩ r).setCell ⟨B, 3, none⟩ s).setCell ⟨B, 4, none⟩ t) A n zs := by
  have h1 := Rd.far h hb 0 (fun c hc => ha c (by simpa using hc)) p
  have b1 := hb.set 0 p (by simp)
  have h2 := Rd.far h1 b1 1 (fun c hc => hb' c (by simpa using hc)) q
  have b2 := b1.set 1 q (by simp)
  have h3 := Rd.far h2 b2 2 (fun c hcc => hc c (by simpa using hcc)) r
  have b3 := b2.set 2 r (by simp)
  have h4 := Rd.far h3 b3 3 (fun c hc => hd c (by simpa using hc)) s
  have b4 := b3.set 3 s (by simp)
  exact Rd.far h4 b4 4 (fun c hc => he c (by simpa using hc)) t
theorem nu_int (k : IntKind) (x : Int) (h : k ≠ .u8) : NoU8 (.int k x) := fun c hc => by injection hc with h1 _; exact h h1
theorem nu_sl (A : Option Addr) (n c : Nat) : NoU8 (.slice A n c) := fun c hc => by cases hc
set_option maxRecDepth 100000 in
set_option maxHeartbeats 6400000 in
theorem decode_any (A : Option Addr) (n cap : Nat) (zs : List Int) (w : World) (hr : Rd w A n zs) (hA : A = none → cap = 0) (hn : n ≤ 140737488355328) : Calls Tryz.prog 33 #[.slice A n cap] w (SnapIs w (decSp zs)) := by
  have HB0 := Lib.hid (alloc_below' w (.cells #[.int .i64 0, .int .i64 0, .slice none 0 0, .slice none 0 0, .slice none 0 0] 38))
  have HN := Lib.hid (new_any A n cap zs _ (hr.below HB0.out) hA hn)
  have HF := Lib.hid (show decSp zs = if wholeB (rdSp zs).2.1 (rdSp zs).2.2 && (rdSp zs).1.ok then ((rdSp zs).1, 0) else (sp0, 6) from rfl)
  unfold rdSp at HF
  generalize decSp zs = RES at *
  clear hr hA
  have HK0 := Lib.hid (Blk.new w #[.int .i64 0, .int .i64 0, .slice none 0 0, .slice none 0 0, .slice none 0 0] 38)
  go_enter Tryz.func33, Tryz.ntmps33
  go_wp2_with fail
  generalize w.alloc (.cells #[.int .i64 0, .int .i64 0, .slice none 0 0, .slice none 0 0, .slice none 0 0] 38) = w1 at *
  refine HN.out.mono ?_
  rintro e w2 ⟨g, rfl, hg, hrd, hb2⟩
  have HBL := Lib.hid (HB0.out.trans (hb2.mono HB0.out.size))
  have T0 := Lib.hid (show Twos g w (w2.alloc (.cells #[.int .i64 0, .int .i64 0, .slice none 0 0, .slice none 0 0, .slice none 0 0] 38)) (zs, false) w.heap.size w2.heap.size #[.int .i64 0, .int .i64 0, .slice none 0 0, .slice none 0 0, .slice none 0 0] #[.int .i64 0, .int .i64 0, .slice none 0 0, .slice none 0 0, .slice none 0 0] 38 38 from
    ⟨Rdr.past hrd _, (HK0.out.below hb2).past _, Blk.new w2 _ _, (Chg.below HBL.out).alloc _, Nat.le_refl _, HBL.out.size, by have := HK0.out.lt; have := hb2.size; omega, by have := HK0.out.lt; omega, by have := hrd.lt; omega⟩)
  have HG := Lib.hid (show w.heap.size ≤ g by have := HB0.out.size; omega)
  clear hg hrd hb2 HN HBL HK0 HB0
  have HQ1 := Lib.hid (readNumber_any g (zs, false) (w2.alloc (.cells #[.int .i64 0, .int .i64 0, .slice none 0 0, .slice none 0 0, .slice none 0 0] 38)) 1099511627776 (by omega) T0.out.rd)
  go_wp2_with fail
  generalize w2.alloc (.cells #[.int .i64 0, .int .i64 0, .slice none 0 0, .slice none 0 0, .slice none 0 0] 38) = w3 at *
  generalize w2.heap.size = C at *
  refine HQ1.out.mono ?_
  generalize rdN (zs, false) 1099511627776 = a1 at *
  obtain ⟨v1, q1⟩ := a1
  rintro e w4 ⟨rfl, hc, hr⟩
  have T1 := Lib.hid (T0.out.call hc hr)
  clear hc hr HQ1
  have c0 := T1.out.own.cell 0 _ rfl
  have f0 := T1.out.own.free 0
  go_wp2_with fail
  have T1b := Lib.hid (T1.out.store 0 (by simp) (by intro c h; cases h) (.int .i64 (v1 : Int)))
  generalize w4.setCell ⟨C, 0, none⟩ (.int .i64 (v1 : Int)) = w5 at *
  refine (readNumber_any g q1 w5 1099511627776 (by omega) T1b.out.rd).mono ?_
  try simp only at HF
  generalize rdN q1 1099511627776 = a2 at *
  obtain ⟨v2, q2⟩ := a2
  rintro e w6 ⟨rfl, hc, hr⟩
  have T2 := Lib.hid (T1b.out.call hc hr)
  clear hc hr c0 f0
  have c0 := T2.out.own.cell 1 _ rfl
  have f0 := T2.out.own.free 1
  go_wp2_with fail
  have T2b := Lib.hid (T2.out.store 1 (by simp) (by intro c h; cases h) (.int .i64 (v2 : Int)))
  generalize w6.setCell ⟨C, 1, none⟩ (.int .i64 (v2 : Int)) = w7 at *
  refine (readList_any g q2 w7 w7.heap.size (Nat.le_refl _) (Rdr.low T2b.out.rd)).mono ?_
  try simp only at HF
  generalize rdLs q2 = a3 at *
  obtain ⟨vs, q3⟩ := a3
  rintro e w8 ⟨VA, vc, rfl, hri, hvA, hvf, hc, hr⟩
  have T3 := Lib.hid (T2b.out.call hc hr.rdr)
  have hC7 := T2b.out.own.lt
  have hR7 := T2b.out.res.lt
  have hg7 := T2b.out.rd.lt
  have X1 := Lib.hid (show LiX w8 VA vs.length (ints vs) w7.heap.size from ⟨hri, hvf⟩)
  have HLO := Lib.hid (show C < w7.heap.size ∧ w.heap.size < w7.heap.size ∧ g < w7.heap.size from ⟨hC7, hR7, hg7⟩)
  generalize w7.heap.size = lo at *
  clear hri hvA hvf hc hr c0 f0 hC7 hR7 hg7
  obtain ⟨vn, hvn⟩ : ∃ vn, vs.length = vn := ⟨_, rfl⟩
  have HVN := Lib.hid hvn
  rw [hvn] at X1 ⊢
  clear hvn
  have c0 := T3.out.own.cell 2 _ rfl
  have f0 := T3.out.own.free 2
  go_wp2_with fail
  have T3b := Lib.hid (T3.out.store 2 (by simp) (by intro c h; cases h) (.slice VA vn vc))
  have X1b := Lib.hid (X1.out.set C 2 HLO.out.1 (.slice VA vn vc))
  generalize w8.setCell ⟨C, 2, none⟩ (.slice VA vn vc) = w9 at *
  have HLO9 := Lib.hid (show lo ≤ w9.heap.size ∨ vn = 0 from by
    rcases Nat.eq_zero_or_pos vn with h0 | h0
    · exact .inr h0
    · obtain ⟨b, off, e, hcc⟩ := X1b.out.1.2.2 h0
      have h1 := lt_of_cell (hcc 0 h0)
      have h2 := X1b.out.2 _ e
      simp only at h1 h2
      exact .inl (by omega))
  refine (readList_any g q3 w9 w9.heap.size (Nat.le_refl _) (Rdr.low T3b.out.rd)).mono ?_
  try simp only at HF
  generalize rdLs q3 = a4 at *
  obtain ⟨ls, q4⟩ := a4
  rintro e w10 ⟨LA, lc, rfl, hri, hvA, hvf, hc, hr⟩
  have T4 := Lib.hid (T3b.out.call hc hr.rdr)
  have X2 := Lib.hid (show LiX w10 LA ls.length (ints ls) w9.heap.size from ⟨hri, hvf⟩)
  have HLOB := Lib.hid (show C < w9.heap.size ∧ w.heap.size < w9.heap.size ∧ g < w9.heap.size from ⟨T3b.out.own.lt, T3b.out.res.lt, T3b.out.rd.lt⟩)
  have X1c := Lib.hid (X1b.out.chg hc HLO.out.2.2)
  generalize w9.heap.size = lo2 at *
  clear hri hvA hvf hc hr c0 f0 HLO9
  obtain ⟨ln, hln⟩ : ∃ ln, ls.length = ln := ⟨_, rfl⟩
  have HLN := Lib.hid hln
  rw [hln] at X2 ⊢
  clear hln
  have c0 := T4.out.own.cell 3 _ rfl
  have f0 := T4.out.own.free 3
  go_wp2_with fail
  have T4b := Lib.hid (T4.out.store 3 (by simp) (by intro c h; cases h) (.slice LA ln lc))
  have X1d := Lib.hid (X1c.out.set C 3 HLO.out.1 (.slice LA ln lc))
  have X2b := Lib.hid (X2.out.set C 3 HLOB.out.1 (.slice LA ln lc))
  generalize w10.setCell ⟨C, 3, none⟩ (.slice LA ln lc) = w11 at *
  refine (text_rd g q4 w11 60000 T4b.out.rd).mono ?_
  try simp only at HF
  generalize rdT q4 60000 = a5 at *
  obtain ⟨ds, q5⟩ := a5
  rintro e w12 ⟨DA, dn, dc, rfl, hsl, hc, hr⟩
  have HDN := Lib.hid (show ds.length = dn from hsl.1.1)
  have T5 := Lib.hid (T4b.out.call hc hr)
  have X1e := Lib.hid (X1d.out.chg hc HLO.out.2.2)
  have X2c := Lib.hid (X2b.out.chg hc HLOB.out.2.2)
  have HS := Lib.hid hsl
  clear hc hr c0 f0 hsl
  have c0 := T5.out.own.cell 4 _ rfl
  have f0 := T5.out.own.free 4
  go_wp2_with fail
  have T5b := Lib.hid (T5.out.store 4 (by simp) (by intro c h; cases h) (.slice DA dn dc))
  have X1f := Lib.hid (X1e.out.set C 4 HLO.out.1 (.slice DA dn dc))
  have X2d := Lib.hid (X2c.out.set C 4 HLOB.out.1 (.slice DA dn dc))
  have HS2 := Lib.hid (Sl.far HS.out T5.out.own 4 (by intro c h; cases h) (.slice DA dn dc))
  generalize w12.setCell ⟨C, 4, none⟩ (.slice DA dn dc) = w13 at *
  clear c0 f0
  refine (whole_any g q5.1 q5.2 w13 T5b.out.rd).mono ?_
  rintro e w14 ⟨rfl, rfl⟩
  try simp only at HF
  unfold Sp.ok at HF
  simp only at HF
  have d0 := T5b.out.own.cell 0 _ rfl
  have d1 := T5b.out.own.cell 1 _ rfl
  have d2 := T5b.out.own.cell 2 _ rfl
  have d3 := T5b.out.own.cell 3 _ rfl
  have d4 := T5b.out.own.cell 4 _ rfl
  cases hwb : wholeB q5.1 q5.2 with
  | false =>
    rw [hwb] at HF
    have r0 := T5b.out.res.cell 0 _ rfl
    have r1 := T5b.out.res.cell 1 _ rfl
    have r2 := T5b.out.res.cell 2 _ rfl
    have r3 := T5b.out.res.cell 3 _ rfl
    have r4 := T5b.out.res.cell 4 _ rfl
    have g0 := T5b.out.res.free 0
    have g1 := T5b.out.res.free 1
    have g2 := T5b.out.res.free 2
    have g3 := T5b.out.res.free 3
    have g4 := T5b.out.res.free 4
    go_wp2
    refine bodyPost_ret (v := .tuple #[.agg #[.int .i64 0, .int .i64 0, .slice none 0 0, .slice none 0 0, .slice none 0 0], .int .i64 6]) ?_ ?_ ?_
    · exact results_two Tryz.results33 _ _ w.heap.size 38 #[.int .i64 0, .int .i64 0, .slice none 0 0, .slice none 0 0, .slice none 0 0] (0, 0) _ rfl (Blk.fives T5b.out.res _ _ _ _ _) Tryz.underlying38 rfl (by kernel_rfl)
    · rfl
    · rw [HF.out]
      exact ⟨none, none, none, 0, 0, 0, rfl, SpAt.zero _, below_fives (T5b.out.below HG.out) _ _ _ _ _ _ (Nat.le_refl _), (fun a h => by cases h), (fun a h => by cases h)⟩
  | true =>
    rw [hwb] at HF
    have HVS := Lib.hid (validSnap_any (v1 : Int) (v2 : Int) VA vn vc (ints vs) LA ln lc (ints ls) DA dn dc w13 X1f.out.1 X2d.out.1)
    unfold snapV at HVS
    rw [HDN.out] at HF
    go_wp2_with fail
    refine HVS.out.mono ?_
    rintro e w15 ⟨rfl, hb15⟩
    have T6 := Lib.hid (T5b.out.past hb15)
    have X1g := Lib.hid (X1f.out.below hb15)
    have X2e := Lib.hid (X2d.out.below hb15)
    have HS3 := Lib.hid (HS2.out.below hb15)
    clear hb15 HVS d0 d1 d2 d3 d4
    have d0 := T6.out.own.cell 0 _ rfl
    have d1 := T6.out.own.cell 1 _ rfl
    have d2 := T6.out.own.cell 2 _ rfl
    have d3 := T6.out.own.cell 3 _ rfl
    have d4 := T6.out.own.cell 4 _ rfl
    have r0 := T6.out.res.cell 0 _ rfl
    have r1 := T6.out.res.cell 1 _ rfl
    have r2 := T6.out.res.cell 2 _ rfl
    have r3 := T6.out.res.cell 3 _ rfl
    have r4 := T6.out.res.cell 4 _ rfl
    have g0 := T6.out.res.free 0
    have g1 := T6.out.res.free 1
    have g2 := T6.out.res.free 2
    have g3 := T6.out.res.free 3
    have g4 := T6.out.res.free 4
    cases hok : snapOk (v1 : Int) (v2 : Int) (ints vs) (ints ls) dn with
    | false =>
      rw [hok] at HF
      go_wp2
      refine bodyPost_ret (v := .tuple #[.agg #[.int .i64 0, .int .i64 0, .slice none 0 0, .slice none 0 0, .slice none 0 0], .int .i64 6]) ?_ ?_ ?_
      · exact results_two Tryz.results33 _ _ w.heap.size 38 #[.int .i64 0, .int .i64 0, .slice none 0 0, .slice none 0 0, .slice none 0 0] (0, 0) _ rfl (Blk.fives T6.out.res _ _ _ _ _) Tryz.underlying38 rfl (by kernel_rfl)
      · rfl
      · rw [HF.out]
        exact ⟨none, none, none, 0, 0, 0, rfl, SpAt.zero _, below_fives (T6.out.below HG.out) _ _ _ _ _ _ (Nat.le_refl _), (fun a h => by cases h), (fun a h => by cases h)⟩
    | true =>
      rw [hok] at HF
      have hne := T6.out.ne.1
      go_wp2
      refine bodyPost_ret (v := .tuple #[.agg #[.int .i64 (v1 : Int), .int .i64 (v2 : Int), .slice VA vn vc, .slice LA ln lc, .slice DA dn dc], .int .i64 0]) ?_ ?_ ?_
      · exact results_two Tryz.results33 _ _ w.heap.size 38 #[.int .i64 (v1 : Int), .int .i64 (v2 : Int), .slice VA vn vc, .slice LA ln lc, .slice DA dn dc] (0, 0) _ rfl (Blk.fives T6.out.res _ _ _ _ _) Tryz.underlying38 rfl (by kernel_rfl)
      · rfl
      · rw [HF.out]
        refine ⟨VA, LA, DA, vc, lc, dc, ?_, ⟨?_, ?_, ?_, HS3.out.2.2.2.1⟩, below_fives (T6.out.below HG.out) _ _ _ _ _ _ (Nat.le_refl _), (fun a ha => Nat.le_of_lt (Nat.lt_of_lt_of_le HLO.out.2.1 (X1g.out.2 a ha))), (fun a ha => Nat.le_of_lt (Nat.lt_of_lt_of_le HLOB.out.2.1 (X2e.out.2 a ha)))⟩
        · unfold spV snapV
          simp only [Bool.and_self, if_true]
          rw [HVN.out, HLN.out, HDN.out]
        · show RdI _ VA vs.length (ints vs)
          rw [HVN.out]
          exact (X1g.out.fives _ HLO.out.2.1 _ _ _ _ _).1
        · show RdI _ LA ls.length (ints ls)
          rw [HLN.out]
          exact (X2e.out.fives _ HLOB.out.2.1 _ _ _ _ _).1
        · show Rd _ DA ds.length ds
          rw [HDN.out]
          exact Rd.fives HS3.out.1 T6.out.res (nu_int _ _ (by decide)) (nu_int _ _ (by decide)) (nu_sl _ _ _) (nu_sl _ _ _) (nu_sl _ _ _) _ _ _ _ _
end Go.Proofs.YtejphnbhcabchaaGreat.Kp

namespace Go.Proofs.YtejphnbhcabchaaGreat.Kp
open Go.RowKit Go.Proofs.YtejphnbhcabchaaGreat.Dk Go.Proofs.YtejphnbhcabchaaGreat.Fld
set_option linter.unusedVariables false

def eqI (a b : List Int) : Bool := decide (a = b)
theorem eqI_len {a b : List Int} (h : a.length ≠ b.length) : eqI a b = false := by
  unfold eqI
  simp
  rintro rfl
  exact h rfl
theorem eqI_at {a b : List Int} (k : Nat) (h : a.getD k 0 ≠ b.getD k 0) : eqI a b = false := by
  unfold eqI
  simp
  rintro rfl
  exact h rfl
theorem eqI_all {a b : List Int} (hl : a.length = b.length) (h : ∀ k, k < a.length → a.getD k 0 = b.getD k 0) : eqI a b = true := by
  unfold eqI
  simp
  apply List.ext_getElem hl
  intro i h1 h2
  have := h i h1
  rwa [List.getD_eq_getElem?_getD, List.getD_eq_getElem?_getD, List.getElem?_eq_getElem h1, List.getElem?_eq_getElem h2] at this
theorem drew_add (w : World) (a b : Nat) : (w.drewN a).drewN b = w.drewN (a + b) := by simp [World.drewN, Nat.add_assoc]
theorem below_dr (w : World) (k : Nat) : Below w.heap.size w (w.drewN k) := ⟨rfl, rfl, rfl, Nat.le_refl _, fun _ _ => rfl⟩
def SiR (w : World) (n : Nat) (la lb : List Int) (i : Value) (wr : World) : Prop := ∃ k d : Nat, k ≤ n ∧ i = .int .i64 (k : Int) ∧ wr = w.drewN d ∧ ∀ j, j < k → la.getD j 0 = lb.getD j 0
set_option maxRecDepth 100000 in
set_option maxHeartbeats 1600000 in
theorem sameInts_any (A : Option Addr) (n c : Nat) (la : List Int) (B : Option Addr) (m d : Nat) (lb : List Int) (w : World) (ha : RdI w A n la) (hb : RdI w B m lb) :
    Calls Tryz.prog 92 #[.slice A n c, .slice B m d] w fun e w' => e = .returned (.bool (eqI la lb)) ∧ Below w.heap.size w w' := by
  have HA := Lib.hid ha
  have HB := Lib.hid hb
  have HLA := Lib.hid ha.1
  have HLB := Lib.hid hb.1
  have hm1 := ha.2.1
  have hm2 := hb.2.1
  unfold maxLen at hm1 hm2
  clear ha hb
  obtain ⟨R, hR⟩ : ∃ R, eqI la lb = R := ⟨_, rfl⟩
  have HR := Lib.hid hR
  rw [hR]
  clear hR
  by_cases hnm : n = m
  · subst hnm
    have q0 : ((n : Int) != (n : Int)) = false := by simp
    go_enter Tryz.func92, Tryz.ntmps92
    go_wp2_with fail
    go_loopw [5] (fun i wr => SiR w n la lb i wr) (fun i _ => n - (intOf i).toNat)
    case atStart => exact ⟨0, 0, by omega, rfl, rfl, fun j h => by omega⟩
    case round =>
      obtain ⟨k, q, hk, rfl, rfl, hall⟩ := hrel
      have HALL := Lib.hid hall
      clear hall
      by_cases hlt : k < n
      · obtain ⟨b1, o1, rfl, hc1⟩ := HA.out.2.2 (by omega)
        obtain ⟨b2, o2, rfl, hc2⟩ := HB.out.2.2 (by omega)
        have g1 : (w.drewN q).cell? ⟨b1, o1 + k, none⟩ = some (.int .i64 (la.getD k 0)) := ((below_dr w q).cell (lt_of_cell (hc1 k hlt))).trans (hc1 k hlt)
        have g2 : (w.drewN q).cell? ⟨b2, o2 + k, none⟩ = some (.int .i64 (lb.getD k 0)) := ((below_dr w q).cell (lt_of_cell (hc2 k hlt))).trans (hc2 k hlt)
        clear hc1 hc2
        generalize hw1 : w.drewN q = w1 at *
        have HW1 := Lib.hid hw1
        clear hw1
        have j1 : (k : Int) < (n : Int) := by omega
        have j0 : (0 : Int) ≤ (k : Int) := by omega
        have HNE := Lib.hid (fun h => eqI_at (a := la) (b := lb) k h)
        have HEX := Lib.hid (show la.getD k 0 = lb.getD k 0 → ∀ j, j < k + 1 → la.getD j 0 = lb.getD j 0 from fun h j hj => by
          rcases Nat.lt_or_eq_of_le (Nat.le_of_lt_succ hj) with h1 | h1
          · exact HALL.out j h1
          · subst h1; exact h)
        generalize la.getD k 0 = x at *
        generalize lb.getD k 0 = y at *
        by_cases hxy : x = y
        · have q1 : (x != y) = false := by simpa using hxy
          go_wp2_with fail
          go_quiet (fail)
          clear g1 g2
          have HW2 := Lib.hid (show w1.drewN nq = w.drewN (q + nq) by rw [← HW1.out, drew_add])
          have HEX2 := Lib.hid (HEX.out hxy)
          go_wp2
          go_roundw
          case rel => exact ⟨k + 1, q + nq, by omega, by go_num, HW2.out, HEX2.out⟩
          case measure => simp [intOf]; omega
        · have q1 : (x != y) = true := by simpa using hxy
          have HF := Lib.hid (show R = false by rw [← HR.out]; exact HNE.out hxy)
          go_wp2_with fail
          go_quiet (fail)
          clear g1 g2
          have HW2 := Lib.hid (show w1.drewN nq = w.drewN (q + nq) by rw [← HW1.out, drew_add])
          go_wp2
          go_ret
          exact ⟨by rw [HF.out]; rfl, by rw [HW2.out]; exact below_dr w _⟩
      · obtain rfl : k = n := by omega
        have HT := Lib.hid (show R = true by rw [← HR.out]; exact eqI_all (by rw [HLA.out, HLB.out]) (fun j hj => HALL.out j (by rw [HLA.out] at hj; exact hj)))
        go_wp2
        go_ret
        exact ⟨by rw [HT.out]; rfl, below_dr w _⟩
  · have HF := Lib.hid (show R = false by rw [← HR.out]; exact eqI_len (by rw [HLA.out, HLB.out]; exact hnm))
    have q0 : ((n : Int) != (m : Int)) = true := by simp; omega
    go_enter Tryz.func92, Tryz.ntmps92
    go_wp2
    go_ret
    exact ⟨by rw [HF.out]; rfl, Below.refl _ _⟩
def grpV (VA : Option Addr) (vn vc : Nat) (LA : Option Addr) (ln lc : Nat) : Value := .agg #[.slice VA vn vc, .slice LA ln lc]
set_option maxRecDepth 100000 in
set_option maxHeartbeats 1600000 in
theorem sameGroup_any (VA : Option Addr) (vn vc : Nat) (vs : List Int) (LA : Option Addr) (ln lc : Nat) (ls : List Int) (VB : Option Addr) (vm vd : Nat) (us : List Int) (LB : Option Addr) (lm ld : Nat) (ks : List Int) (w : World) (h1 : RdI w VA vn vs) (h2 : RdI w LA ln ls) (h3 : RdI w VB vm us) (h4 : RdI w LB lm ks) :
    Calls Tryz.prog 56 #[grpV VA vn vc LA ln lc, grpV VB vm vd LB lm ld] w fun e w' => e = .returned (.bool (eqI vs us && eqI ls ks)) ∧ Below w.heap.size w w' := by
  have hb1 := alloc_below w (.cells #[.slice VA vn vc, .slice LA ln lc] 35)
  have hb2 : Below w.heap.size w ((w.alloc (.cells #[.slice VA vn vc, .slice LA ln lc] 35)).alloc (.cells #[.slice VB vm vd, .slice LB lm ld] 35)) := hb1.alloc hb1.size _
  have HB := Lib.hid hb2
  have K0 := Lib.hid ((Blk.new w #[.slice VA vn vc, .slice LA ln lc] 35).past (.cells #[.slice VB vm vd, .slice LB lm ld] 35))
  have K1 := Lib.hid (show Blk ((w.alloc (.cells #[.slice VA vn vc, .slice LA ln lc] 35)).alloc (.cells #[.slice VB vm vd, .slice LB lm ld] 35)) (w.heap.size + 1) #[.slice VB vm vd, .slice LB lm ld] 35 by
    have := Blk.new (w.alloc (.cells #[.slice VA vn vc, .slice LA ln lc] 35)) #[.slice VB vm vd, .slice LB lm ld] 35
    simpa using this)
  have H1 := Lib.hid (sameInts_any VA vn vc vs VB vm vd us _ (RdI.below h1 hb2) (RdI.below h3 hb2))
  have H2 := Lib.hid (fun W (hW : Below w.heap.size w W) => sameInts_any LA ln lc ls LB lm ld ks W (RdI.below h2 hW) (RdI.below h4 hW))
  clear h1 h2 h3 h4 hb1 hb2
  unfold grpV
  generalize eqI vs us = b1 at *
  generalize eqI ls ks = b2 at *
  go_enter Tryz.func56, Tryz.ntmps56
  go_wp2_with fail
  refine H1.out.mono ?_
  rintro e w1 ⟨rfl, hb1⟩
  have HB1 := Lib.hid (HB.out.trans (hb1.mono HB.out.size))
  have c0 := (K0.out.below hb1).cell 1 _ rfl
  have c1 := (K1.out.below hb1).cell 1 _ rfl
  clear hb1 H1 K0 K1
  have H3 := Lib.hid (H2.out w1 HB1.out)
  go_wp2_with fail
  refine H3.out.mono ?_
  rintro e w2 ⟨rfl, hb2⟩
  have HB2 := Lib.hid (HB1.out.trans (hb2.mono HB1.out.size))
  clear hb2 H3 H2 c0 c1
  cases b1 <;> cases b2
  all_goals
    go_wp2
    go_ret
    exact ⟨rfl, HB2.out⟩
/-- two snapshots, as numbers, are the same -/
def sameB (i t : Int) (vs ls ds : List Int) (j u : Int) (us ks es : List Int) : Bool := (i == j) && (t == u) && (eqI vs us && eqI ls ks) && decide (ds = es)
set_option maxRecDepth 100000 in
set_option maxHeartbeats 3200000 in
theorem sameSnap_any (i t : Int) (VA : Option Addr) (vn vc : Nat) (vs : List Int) (LA : Option Addr) (ln lc : Nat) (ls : List Int) (DA : Option Addr) (dn dc : Nat) (ds : List Int)
    (j u : Int) (VB : Option Addr) (vm vd : Nat) (us : List Int) (LB : Option Addr) (lm ld : Nat) (ks : List Int) (DB : Option Addr) (dm dd : Nat) (es : List Int) (w : World)
    (h1 : RdI w VA vn vs) (h2 : RdI w LA ln ls) (h3 : RdI w VB vm us) (h4 : RdI w LB lm ks) (h5 : Rd w DA dn ds) (h6 : Rd w DB dm es) :
    Calls Tryz.prog 27 #[snapV i t (.slice VA vn vc) (.slice LA ln lc) (.slice DA dn dc), snapV j u (.slice VB vm vd) (.slice LB lm ld) (.slice DB dm dd)] w fun e w' => e = .returned (.bool (sameB i t vs ls ds j u us ks es)) ∧ Below w.heap.size w w' := by
  have hb1 := alloc_below w (.cells #[.int .i64 i, .int .i64 t, .slice VA vn vc, .slice LA ln lc, .slice DA dn dc] 38)
  have hb2 : Below w.heap.size w ((w.alloc (.cells #[.int .i64 i, .int .i64 t, .slice VA vn vc, .slice LA ln lc, .slice DA dn dc] 38)).alloc (.cells #[.int .i64 j, .int .i64 u, .slice VB vm vd, .slice LB lm ld, .slice DB dm dd] 38)) := hb1.alloc hb1.size _
  have HB := Lib.hid hb2
  have K0 := Lib.hid ((Blk.new w #[.int .i64 i, .int .i64 t, .slice VA vn vc, .slice LA ln lc, .slice DA dn dc] 38).past (.cells #[.int .i64 j, .int .i64 u, .slice VB vm vd, .slice LB lm ld, .slice DB dm dd] 38))
  have K1 := Lib.hid (show Blk ((w.alloc (.cells #[.int .i64 i, .int .i64 t, .slice VA vn vc, .slice LA ln lc, .slice DA dn dc] 38)).alloc (.cells #[.int .i64 j, .int .i64 u, .slice VB vm vd, .slice LB lm ld, .slice DB dm dd] 38)) (w.heap.size + 1) #[.int .i64 j, .int .i64 u, .slice VB vm vd, .slice LB lm ld, .slice DB dm dd] 38 by
    have := Blk.new (w.alloc (.cells #[.int .i64 i, .int .i64 t, .slice VA vn vc, .slice LA ln lc, .slice DA dn dc] 38)) #[.int .i64 j, .int .i64 u, .slice VB vm vd, .slice LB lm ld, .slice DB dm dd] 38
    simpa using this)
  have H1 := Lib.hid (sameGroup_any VA vn vc vs LA ln lc ls VB vm vd us LB lm ld ks _ (RdI.below h1 hb2) (RdI.below h2 hb2) (RdI.below h3 hb2) (RdI.below h4 hb2))
  have HD1 := Lib.hid h5
  have HD2 := Lib.hid h6
  have HSS := Lib.hid (show sameB i t vs ls ds j u us ks es = ((i == j) && (t == u) && (eqI vs us && eqI ls ks) && decide (ds = es)) from rfl)
  have HEQ := Lib.hid (str_eq h5.2.2.1 h6.2.2.1)
  clear h1 h2 h3 h4 h5 h6 hb1 hb2
  obtain ⟨R, hR⟩ : ∃ R, sameB i t vs ls ds j u us ks es = R := ⟨_, rfl⟩
  have HR := Lib.hid hR
  rw [hR]
  clear hR
  unfold snapV
  unfold grpV at H1
  generalize (eqI vs us && eqI ls ks) = b1 at *
  go_enter Tryz.func27, Tryz.ntmps27
  go_wp2_with fail
  refine H1.out.mono ?_
  rintro e w1 ⟨rfl, hb1⟩
  have HB1 := Lib.hid (HB.out.trans (hb1.mono HB.out.size))
  obtain ⟨c0, c1, c2, c3, c4⟩ := Blk.five (K0.out.below hb1)
  obtain ⟨e0, e1, e2, e3, e4⟩ := Blk.five (K1.out.below hb1)
  have q1 := conv_str (HD1.out.below HB1.out) dc
  have q2 := conv_str (HD2.out.below HB1.out) dd
  have q3 := HEQ.out
  generalize decide (ds = es) = b2 at *
  generalize str ds = s1 at *
  generalize str es = s2 at *
  clear hb1 H1 K0 K1
  by_cases hi : i = j
  · by_cases ht : t = u
    · have i1 : (i == j) = true := by simpa using hi
      have i2 : (t == u) = true := by simpa using ht
      cases b1 <;> cases b2
      all_goals
        have HFI := Lib.hid (show sameB i t vs ls ds j u us ks es = _ from HSS.out.trans (by rw [i1, i2]))
        go_wp2
        go_ret
        exact ⟨by rw [← HR.out, HFI.out]; rfl, HB1.out⟩
    · have i1 : (i == j) = true := by simpa using hi
      have i2 : (t == u) = false := by simpa using ht
      have HFI := Lib.hid (show sameB i t vs ls ds j u us ks es = false from HSS.out.trans (by rw [i1, i2]; rfl))
      go_wp2
      go_ret
      exact ⟨by rw [← HR.out, HFI.out]; rfl, HB1.out⟩
  · have i1 : (i == j) = false := by simpa using hi
    have HFI := Lib.hid (show sameB i t vs ls ds j u us ks es = false from HSS.out.trans (by rw [i1]; rfl))
    go_wp2
    go_ret
    exact ⟨by rw [← HR.out, HFI.out]; rfl, HB1.out⟩
end Go.Proofs.YtejphnbhcabchaaGreat.Kp

namespace Go.Proofs.YtejphnbhcabchaaGreat.Kp
open Go.RowKit Go.ChangeShapes Go.WideShapes Go.Deep Go.Proofs.YtejphnbhcabchaaGreat.Dk Go.Proofs.YtejphnbhcabchaaGreat.Fld

theorem cell_one {α : Type} {l : List α} (j : Nat) {v : α} (h : l[j]? = some v) : (l.drop j).take 1 = [v] := by
  obtain ⟨hj, he⟩ := List.getElem?_eq_some_iff.1 h
  rw [List.drop_eq_getElem_cons hj, he]
  rfl
section
variable {H : Type} {encH : TypeId × Value → H} {w : World} {base : Nat} {spare : Nat → Bool} {held : Bool}
theorem open_nums {fuel : Nat} {v : Value} {x : DataW H × List MemPlace} (h : DataW.trod encH Tryz.prog w base spare held fuel 33 [v] = some x) : ∃ A n cap zs, v = .slice A n cap ∧ RdI w A n zs := by
  rcases open_ints Tryz.underlying33 Tryz.underlying3 (by kernel_rfl) h with ⟨hcs, _⟩ | ⟨a, l, c, zs, hcs, _, hl, hm, hz, _, hcell, hwz⟩
  · simp at hcs
    exact ⟨none, 0, 0, [], hcs, rfl, by unfold maxLen; omega, fun h => by omega⟩
  · simp at hcs
    have hzl : l ≤ zs.length := by rw [hz]; split <;> omega
    have hzc : zs.length ≤ maxLen := by rw [hz]; split <;> omega
    refine ⟨some a, l, c, zs.take l, hcs, by rw [List.length_take]; omega, by omega, fun hn => ?_⟩
    obtain ⟨b, off, spot⟩ := a
    have h0 := hcell 0 (by omega)
    have hspot : spot = none := by simpa [Addr.add] using World.cell?_spot h0
    subst hspot
    refine ⟨b, off, rfl, fun i hi => ?_⟩
    have := hcell i (by omega)
    rw [List.getD_eq_getElem?_getD, List.getElem?_take, if_pos hi, ← List.getD_eq_getElem?_getD, ← this]
    congr 1
    unfold Addr.add
    split <;> simp_all
theorem cell_of {n off : Nat} {t : TypeId} {cs : List Value} {y : Option (DataW H × List MemPlace)} (hy : y.isSome = true) (hc : Tryz.prog.cellsOf t = 1) (hl : off < cs.length) (h : DataW.trod encH Tryz.prog w base spare held n t ((cs.drop off).take (Tryz.prog.cellsOf t)) = y) :
    ∃ v z, cs[off]? = some v ∧ DataW.trod encH Tryz.prog w base spare held n t [v] = some z := by
  obtain ⟨z, rfl⟩ := Option.isSome_iff_exists.1 hy
  rw [hc, cell_one off (List.getElem?_eq_getElem hl)] at h
  exact ⟨_, z, List.getElem?_eq_getElem hl, h⟩
theorem open_hard {n : Nat} {cs : List Value} {x : DataW H × List MemPlace} (h : DataW.trod encH Tryz.prog w base spare held n 32 cs = some x) (hl : cs.length = 2) : ∃ a b : Int, cs = [.int .i64 a, .int .i64 b] := by
  obtain ⟨ys, n', _, _, _, hyl, hf⟩ := DataW.trod_struct Tryz.underlying32 h
  have hsz : ys.length = 2 := hyl
  obtain ⟨v0, z0, c0, t0⟩ := cell_of (off := 0) (t := 3) (by rw [List.getElem?_eq_getElem (by omega)]; rfl) (by kernel_rfl) (by omega) (hf 0 _ rfl)
  obtain ⟨v1, z1, c1, t1⟩ := cell_of (off := 1) (t := 3) (by rw [List.getElem?_eq_getElem (by omega)]; rfl) (by kernel_rfl) (by omega) (hf 1 _ rfl)
  obtain ⟨a, ha, _, _⟩ := DataW.trod_int Tryz.underlying3 t0
  obtain ⟨b, hb, _, _⟩ := DataW.trod_int Tryz.underlying3 t1
  simp only [List.cons.injEq, and_true] at ha hb
  refine ⟨a, b, ?_⟩
  apply List.ext_getElem?
  intro i
  rcases i with _ | _ | i
  · rw [c0, ha]; rfl
  · rw [c1, hb]; rfl
  · rw [List.getElem?_eq_none (by omega), List.getElem?_eq_none (by simp)]
theorem open_group {n : Nat} {cs : List Value} {x : DataW H × List MemPlace} (h : DataW.trod encH Tryz.prog w base spare held n 35 cs = some x) (hl : cs.length = 2) : ∃ VA vn vc vs LA ln lc ls, cs = [.slice VA vn vc, .slice LA ln lc] ∧ RdI w VA vn vs ∧ RdI w LA ln ls := by
  obtain ⟨ys, n', _, _, _, hyl, hf⟩ := DataW.trod_struct Tryz.underlying35 h
  have hsz : ys.length = 2 := hyl
  obtain ⟨v0, z0, c0, t0⟩ := cell_of (off := 0) (t := 33) (by rw [List.getElem?_eq_getElem (by omega)]; rfl) (by kernel_rfl) (by omega) (hf 0 _ rfl)
  obtain ⟨v1, z1, c1, t1⟩ := cell_of (off := 1) (t := 33) (by rw [List.getElem?_eq_getElem (by omega)]; rfl) (by kernel_rfl) (by omega) (hf 1 _ rfl)
  obtain ⟨VA, vn, vc, vs, hv, hr⟩ := open_nums t0
  obtain ⟨LA, ln, lc, ls, hv2, hr2⟩ := open_nums t1
  refine ⟨VA, vn, vc, vs, LA, ln, lc, ls, ?_, hr, hr2⟩
  apply List.ext_getElem?
  intro i
  rcases i with _ | _ | i
  · rw [c0, hv]; rfl
  · rw [c1, hv2]; rfl
  · rw [List.getElem?_eq_none (by omega), List.getElem?_eq_none (by simp)]
theorem open_snap {n : Nat} {cs : List Value} {x : DataW H × List MemPlace} (h : DataW.trod encH Tryz.prog w base spare held n 38 cs = some x) (hl : cs.length = 5) : ∃ (i t : Int) (VA : Option Addr) (vn vc : Nat) (vs : List Int) (LA : Option Addr) (ln lc : Nat) (ls : List Int) (DA : Option Addr) (dn dc : Nat) (ds : List Int),
    cs = [.int .i64 i, .int .i64 t, .slice VA vn vc, .slice LA ln lc, .slice DA dn dc] ∧ RdI w VA vn vs ∧ RdI w LA ln ls ∧ Rd w DA dn ds ∧ (DA = none → dc = 0) := by
  obtain ⟨ys, n', _, _, _, hyl, hf⟩ := DataW.trod_struct Tryz.underlying38 h
  have hsz : ys.length = 4 := hyl
  obtain ⟨v0, z0, c0, t0⟩ := cell_of (off := 0) (t := 3) (by rw [List.getElem?_eq_getElem (by omega)]; rfl) (by kernel_rfl) (by omega) (hf 0 _ rfl)
  obtain ⟨v1, z1, c1, t1⟩ := cell_of (off := 1) (t := 3) (by rw [List.getElem?_eq_getElem (by omega)]; rfl) (by kernel_rfl) (by omega) (hf 1 _ rfl)
  obtain ⟨v4, z4, c4, t4⟩ := cell_of (off := 4) (t := 36) (by rw [List.getElem?_eq_getElem (by omega)]; rfl) (by kernel_rfl) (by omega) (hf 3 _ rfl)
  have hg := hf 2 _ rfl
  have hG : Tryz.prog.cellsOf 35 = 2 := by kernel_rfl
  have hg' : DataW.trod encH Tryz.prog w base spare held n' 35 ((cs.drop 2).take (Tryz.prog.cellsOf 35)) = ys[2]? := hg
  rw [hG, List.getElem?_eq_getElem (by omega)] at hg'
  obtain ⟨VA, vn, vc, vs, LA, ln, lc, ls, he, hv, hr⟩ := open_group hg' (by rw [List.length_take, List.length_drop]; omega)
  obtain ⟨a, ha, _, _⟩ := DataW.trod_int Tryz.underlying3 t0
  obtain ⟨b, hb, _, _⟩ := DataW.trod_int Tryz.underlying3 t1
  obtain ⟨DA, dn, dc, ds, hd, hdr, hdz⟩ := Fld.open_bytes t4
  simp only [List.cons.injEq, and_true] at ha hb
  refine ⟨a, b, VA, vn, vc, vs, LA, ln, lc, ls, DA, dn, dc, ds, ?_, hv, hr, hdr, hdz⟩
  have e2 : cs[2]? = some (.slice VA vn vc) := by
    have := congrArg (fun l => l[0]?) he
    simp only [List.getElem?_take, List.getElem?_drop] at this
    simpa using this
  have e3 : cs[3]? = some (.slice LA ln lc) := by
    have := congrArg (fun l => l[1]?) he
    simp only [List.getElem?_take, List.getElem?_drop] at this
    simpa using this
  apply List.ext_getElem?
  intro i
  rcases i with _ | _ | _ | _ | _ | i
  · rw [c0, ha]; rfl
  · rw [c1, hb]; rfl
  · rw [e2]; rfl
  · rw [e3]; rfl
  · rw [c4, hd]; rfl
  · rw [List.getElem?_eq_none (by omega), List.getElem?_eq_none (by simp)]
set_option maxRecDepth 100000 in
theorem open_hardv {r : Reach} {b0 : Nat} {v : Value} {d : DataW H} {p : List MemPlace} (hv : Value.okWide Tryz.prog w r b0 32 v) (h : DataW.Trod encH Tryz.prog w base spare held 32 v d p) : ∃ a b : Int, v = hardV a b := by
  have hC : Tryz.prog.cellsOf 32 = 2 := by kernel_rfl
  obtain ⟨cs, rfl, hsz⟩ : ∃ cs : Array Value, v = .agg cs ∧ cs.size = 2 := by
    simp only [Value.okWide, Tryz.underlying32] at hv
    obtain ⟨cs, rfl, hs, _⟩ := hv
    exact ⟨cs, rfl, by rw [hs, hC]⟩
  obtain ⟨fuel, hf⟩ := h
  obtain ⟨a, b, he⟩ := open_hard hf (by simpa [Value.cells] using hsz)
  refine ⟨a, b, ?_⟩
  have h1 : cs.toList = [.int .i64 a, .int .i64 b] := by simpa [Value.cells] using he
  obtain ⟨l⟩ := cs
  simp only at h1
  subst h1
  rfl
set_option maxRecDepth 100000 in
theorem open_snapv {r : Reach} {b0 : Nat} {v : Value} {d : DataW H} {p : List MemPlace} (hv : Value.okWide Tryz.prog w r b0 38 v) (h : DataW.Trod encH Tryz.prog w base spare held 38 v d p) : ∃ (i t : Int) (VA : Option Addr) (vn vc : Nat) (vs : List Int) (LA : Option Addr) (ln lc : Nat) (ls : List Int) (DA : Option Addr) (dn dc : Nat) (ds : List Int),
    v = snapV i t (.slice VA vn vc) (.slice LA ln lc) (.slice DA dn dc) ∧ RdI w VA vn vs ∧ RdI w LA ln ls ∧ Rd w DA dn ds ∧ (DA = none → dc = 0) := by
  have hC : Tryz.prog.cellsOf 38 = 5 := by kernel_rfl
  obtain ⟨cs, rfl, hsz⟩ : ∃ cs : Array Value, v = .agg cs ∧ cs.size = 5 := by
    simp only [Value.okWide, Tryz.underlying38] at hv
    obtain ⟨cs, rfl, hs, _⟩ := hv
    exact ⟨cs, rfl, by rw [hs, hC]⟩
  obtain ⟨fuel, hf⟩ := h
  obtain ⟨i, t, VA, vn, vc, vs, LA, ln, lc, ls, DA, dn, dc, ds, he, h1, h2, h3, h4⟩ := open_snap hf (by simpa [Value.cells] using hsz)
  refine ⟨i, t, VA, vn, vc, vs, LA, ln, lc, ls, DA, dn, dc, ds, ?_, h1, h2, h3, h4⟩
  have h5 : cs.toList = [.int .i64 i, .int .i64 t, .slice VA vn vc, .slice LA ln lc, .slice DA dn dc] := by simpa [Value.cells] using he
  obtain ⟨l⟩ := cs
  simp only at h5
  subst h5
  rfl
end
end Go.Proofs.YtejphnbhcabchaaGreat.Kp

namespace Go.Proofs.YtejphnbhcabchaaGreat.Kp
open Go.RowKit Go.Proofs.YtejphnbhcabchaaGreat.Dk Go.Proofs.YtejphnbhcabchaaGreat.Fld
set_option linter.unusedVariables false

set_option maxRecDepth 100000 in
theorem rightHard_any (a b : Int) (w : World) : Calls Tryz.prog 35 #[hardV a b] w fun e w' => e = .returned (.bool (hardOk a b)) ∧ Below w.heap.size w w' := by
  have HB := Lib.hid (alloc_below w (.cells #[.int .i64 a, .int .i64 b] 32))
  obtain ⟨R, hR⟩ : ∃ R, hardOk a b = R := ⟨_, rfl⟩
  have HR := Lib.hid (hR.symm.trans (show hardOk a b = (decide (0 ≤ a) && decide (a ≤ 1099511627776) && (decide (0 ≤ b) && decide (b ≤ 15))) from rfl))
  rw [hR]
  clear hR
  unfold hardV
  by_cases h1 : 0 ≤ a
  · by_cases h2 : a ≤ 1099511627776
    · by_cases h3 : 0 ≤ b
      · by_cases h4 : b ≤ 15
        all_goals
          go_enter Tryz.func35, Tryz.ntmps35
          go_wp2
          go_ret
          exact ⟨by rw [HR.out]; simp [h1, h2, h3, h4], HB.out⟩
      · go_enter Tryz.func35, Tryz.ntmps35
        go_wp2
        go_ret
        exact ⟨by rw [HR.out, decide_eq_false (show ¬ 0 ≤ b by omega)]; simp, HB.out⟩
    · go_enter Tryz.func35, Tryz.ntmps35
      go_wp2
      go_ret
      exact ⟨by rw [HR.out, decide_eq_false (show ¬ a ≤ 1099511627776 by omega)]; simp, HB.out⟩
  · go_enter Tryz.func35, Tryz.ntmps35
    go_wp2
    go_ret
    exact ⟨by rw [HR.out, decide_eq_false (show ¬ 0 ≤ a by omega)]; simp, HB.out⟩
set_option maxRecDepth 100000 in
set_option maxHeartbeats 800000 in
theorem has_any (A : Option Addr) (n cap : Nat) (l : List Int) (x : Int) (w : World) (hr : RdI w A n l) : Calls Tryz.prog 103 #[.slice A n cap, .int .i64 x] w fun e w' => e = .returned (.bool (hasI l x)) ∧ w = w' := by
  obtain ⟨hl, hm, hc⟩ := hr
  unfold maxLen at hm
  have HL := Lib.hid hl
  have HC := Lib.hid hc
  obtain ⟨R, hR⟩ : ∃ R, hasI l x = R := ⟨_, rfl⟩
  have HR := Lib.hid hR
  rw [hR]
  clear hl hc hR
  go_enter Tryz.func103, Tryz.ntmps103
  go_wp2
  go_loop [5] (fun i => ∃ k : Nat, k ≤ n ∧ i = .int .i64 k ∧ hasI (l.take k) x = false) (fun i => n - (intOf i).toNat)
  case atStart => exact ⟨0, Nat.zero_le _, rfl, rfl⟩
  case round =>
    obtain ⟨k, hk, rfl, hall⟩ := hrel
    have HA := Lib.hid hall
    clear hall
    by_cases hlt : k < n
    · obtain ⟨b, off, rfl, hcell⟩ := HC.out (by omega)
      have hc := hcell k hlt
      clear hcell
      have HT := Lib.hid (has_take l x k (by rw [HL.out]; exact hlt))
      have HX := Lib.hid (has_at l x k (by rw [HL.out]; exact hlt))
      generalize l.getD k 0 = y at *
      by_cases hxy : y = x
      · have hb : (y == x) = true := by simpa using hxy
        have HX2 := Lib.hid (show R = true by rw [← HR.out]; exact HX.out (by simpa using hxy.symm))
        clear HX HT
        go_wp2
        go_ret
        exact ⟨by rw [HX2.out]; rfl, rfl⟩
      · have hb : (y == x) = false := by simpa using hxy
        have HT2 := Lib.hid (show hasI (l.take (k + 1)) x = false by rw [HT.out, HA.out, show (x == y) = false by simp; exact fun h => hxy h.symm]; rfl)
        clear HX HT
        go_wp2
        go_roundw
        case rel => exact ⟨k + 1, by omega, by go_num, HT2.out⟩
        case measure => simp [intOf]; omega
    · obtain rfl : k = n := by omega
      have HF := Lib.hid (show R = false by rw [← HR.out]; have := HA.out; rwa [← HL.out, List.take_length] at this)
      go_wp2
      go_ret
      exact ⟨by rw [HF.out]; rfl, rfl⟩
theorem has_quiet (A : Option Addr) (n cap : Nat) (l : List Int) (x : Int) (w : World) (k : Nat) (hr : RdI w A n l) : Calls Tryz.prog 103 #[.slice A n cap, .int .i64 x] (w.drewN k) fun e w'' => e = .returned (.bool (hasI l x)) ∧ ∃ m, w'' = w.drewN m :=
  (has_any A n cap l x (w.drewN k) (RdI.below hr (below_dr w k))).mono fun _ _ ⟨he, hw⟩ => ⟨he, k, hw.symm⟩
theorem last_at (l : List Int) (k : Nat) (hk : 0 < k) (hl : k ≤ l.length) : (l.take k).getLastD 0 = l.getD (k - 1) 0 := by
  obtain ⟨j, rfl⟩ : ∃ j, k = j + 1 := ⟨k - 1, by omega⟩
  rw [take_succ l j (by omega), last_snoc]
  rfl
theorem last_pos : ∀ (xs : List Int) (b : Int), 0 ≤ b → upN b xs = true → b ≤ xs.getLastD b ∧ (xs ≠ [] → b < xs.getLastD b)
  | [], b, _, _ => ⟨Int.le_refl _, fun h => absurd rfl h⟩
  | n :: r, b, hb, h => by
    rw [upN] at h
    simp only [Bool.and_eq_true, decide_eq_true_eq] at h
    have ih := last_pos r n (by omega) h.2
    have e : (n :: r).getLastD b = r.getLastD n := by cases r <;> simp [List.getLastD]
    rw [e]
    exact ⟨by omega, fun _ => by omega⟩
def RiR (w : World) (n : Nat) (l : List Int) (i : Value) (wr : World) : Prop := ∃ k d : Nat, k ≤ n ∧ i = .int .i64 (k : Int) ∧ wr = w.drewN d ∧ upN 0 (l.take k) = true
set_option maxRecDepth 100000 in
set_option maxHeartbeats 3200000 in
theorem rises_any (A : Option Addr) (n cap : Nat) (l : List Int) (w : World) (hr : RdI w A n l) : Calls Tryz.prog 102 #[.slice A n cap] w fun e w' => e = .returned (.bool (upN 0 l)) ∧ Below w.heap.size w w' := by
  have hm := hr.2.1
  unfold maxLen at hm
  have HRD := Lib.hid hr
  have HL := Lib.hid hr.1
  clear hr
  obtain ⟨R, hR⟩ : ∃ R, upN 0 l = R := ⟨_, rfl⟩
  have HR := Lib.hid hR
  rw [hR]
  clear hR
  go_enter Tryz.func102, Tryz.ntmps102
  go_wp2_with fail
  go_loopw [3] (fun i wr => RiR w n l i wr) (fun i _ => n - (intOf i).toNat)
  case atStart => exact ⟨0, 0, by omega, rfl, rfl, rfl⟩
  case round =>
    obtain ⟨k, d, hk, rfl, rfl, hup⟩ := hrel
    have HUP := Lib.hid hup
    clear hup
    by_cases hlt : k < n
    · obtain ⟨b, off, rfl, hc⟩ := HRD.out.2.2 (by omega)
      have g1 : (w.drewN d).cell? ⟨b, off + k, none⟩ = some (.int .i64 (l.getD k 0)) := ((below_dr w d).cell (lt_of_cell (hc k hlt))).trans (hc k hlt)
      have g2 : (w.drewN d).cell? ⟨b, off + (k - 1), none⟩ = some (.int .i64 (l.getD (k - 1) 0)) := ((below_dr w d).cell (lt_of_cell (hc (k - 1) (by omega)))).trans (hc (k - 1) (by omega))
      have HT := Lib.hid (take_succ l k (by rw [HL.out]; exact hlt))
      have HS := Lib.hid (show upN 0 (l.take (k + 1)) = (decide ((l.take k).getLastD 0 < l.getD k 0) && decide (l.getD k 0 ≤ 15)) by rw [HT.out, upN_snoc, HUP.out]; rfl)
      have HLA := Lib.hid (show 0 < k → (l.take k).getLastD 0 = l.getD (k - 1) 0 from fun h => last_at l k h (by rw [HL.out]; omega))
      have HP0 := Lib.hid (show 0 ≤ (l.take k).getLastD 0 from (last_pos _ 0 (by omega) HUP.out).1)
      have HZ := Lib.hid (show k = 0 → (l.take k).getLastD 0 = 0 from fun h => by rw [h]; rfl)
      clear hc
      generalize hw1 : w.drewN d = w1 at *
      have HW1 := Lib.hid hw1
      clear hw1
      have HCUT := Lib.hid (show upN 0 (l.take (k + 1)) = false → R = false from fun h => by rw [← HR.out]; exact upN_cut l 0 (k + 1) h)
      generalize l.getD k 0 = x at *
      generalize l.getD (k - 1) 0 = y at *
      generalize (l.take k).getLastD 0 = p at *
      have j1 : (k : Int) < (n : Int) := by omega
      have j0 : (0 : Int) ≤ (k : Int) := by omega
      have hp0 := HP0.out
      by_cases h1 : x < 1
      · have q1 : decide (x < 1) = true := by simpa using h1
        have HF := Lib.hid (HCUT.out (by rw [HS.out]; simp; omega))
        clear hp0
        go_wp2_with fail
        go_quiet (fail)
        clear g1 g2
        have HW2 := Lib.hid (show w1.drewN nq = w.drewN (d + nq) by rw [← HW1.out, drew_add])
        go_wp2
        go_ret
        exact ⟨by rw [HF.out]; rfl, by rw [HW2.out]; exact below_dr w _⟩
      have q1 : decide (x < 1) = false := by simp; omega
      by_cases h2 : 15 < x
      · have q2 : decide (15 < x) = true := by simpa using h2
        have HF := Lib.hid (HCUT.out (by rw [HS.out]; simp; omega))
        clear hp0
        go_wp2_with fail
        go_quiet (fail)
        clear g1 g2
        have HW2 := Lib.hid (show w1.drewN nq = w.drewN (d + nq) by rw [← HW1.out, drew_add])
        go_wp2
        go_ret
        exact ⟨by rw [HF.out]; rfl, by rw [HW2.out]; exact below_dr w _⟩
      have q2 : decide (15 < x) = false := by simp; omega
      by_cases h3 : k = 0
      · have HOK := Lib.hid (show upN 0 (l.take (k + 1)) = true by rw [HS.out, HZ.out h3]; simp; omega)
        have HKZ := Lib.hid h3
        subst h3
        rw [Nat.add_zero] at g1
        clear hp0 g2 j0
        go_wp2_with fail
        go_quiet (fail)
        clear g1
        have HW2 := Lib.hid (show w1.drewN nq = w.drewN (d + nq) by rw [← HW1.out, drew_add])
        go_wp2
        go_roundw
        case rel => exact ⟨0 + 1, d + nq, by omega, by go_num, HW2.out, HOK.out⟩
        case measure => simp [intOf]; omega
      have hpy := HLA.out (by omega)
      have q3 : decide (0 < k) = true := by simp; omega
      have hwk : IntKind.i64.wrap ((k : Int) - 1) = ((k - 1 : Nat) : Int) := (IntWalk.i64_in _ (by omega)).trans (by omega)
      have j4 : ((k - 1 : Nat) : Int) < (n : Int) := by omega
      have j5 : (0 : Int) ≤ ((k - 1 : Nat) : Int) := by omega
      by_cases h4 : x ≤ y
      · have q4 : decide (x ≤ y) = true := by simpa using h4
        have HF := Lib.hid (HCUT.out (by rw [HS.out, hpy]; simp; omega))
        clear hp0 hpy
        go_wp2_with fail
        go_quiet (fail)
        clear g1 g2
        have HW2 := Lib.hid (show w1.drewN nq = w.drewN (d + nq) by rw [← HW1.out, drew_add])
        go_wp2
        go_ret
        exact ⟨by rw [HF.out]; rfl, by rw [HW2.out]; exact below_dr w _⟩
      · have q4 : decide (x ≤ y) = false := by simp; omega
        have HOK := Lib.hid (show upN 0 (l.take (k + 1)) = true by rw [HS.out, hpy]; simp; omega)
        clear hp0 hpy
        go_wp2_with fail
        go_quiet (fail)
        clear g1 g2
        have HW2 := Lib.hid (show w1.drewN nq = w.drewN (d + nq) by rw [← HW1.out, drew_add])
        go_wp2
        go_roundw
        case rel => exact ⟨k + 1, d + nq, by omega, by go_num, HW2.out, HOK.out⟩
        case measure => simp [intOf]; omega
    · obtain rfl : k = n := by omega
      have HF := Lib.hid (show R = true by rw [← HR.out]; have := HUP.out; rwa [← HL.out, List.take_length] at this)
      go_wp2
      go_ret
      exact ⟨by rw [HF.out]; rfl, below_dr w _⟩
end Go.Proofs.YtejphnbhcabchaaGreat.Kp

namespace Go.Proofs.YtejphnbhcabchaaGreat.Kp
open Go.RowKit Go.Proofs.YtejphnbhcabchaaGreat.Dk Go.Proofs.YtejphnbhcabchaaGreat.Fld
set_option linter.unusedVariables false

def RgR (w : World) (n : Nat) (vs ls : List Int) (i : Value) (wr : World) : Prop := ∃ k d : Nat, k ≤ n ∧ i = .int .i64 (k : Int) ∧ wr = w.drewN d ∧ anyI (vs.take k) (fun x => hasI ls x) = false
set_option maxRecDepth 100000 in
set_option maxHeartbeats 3200000 in
theorem rightGroup_any (VA : Option Addr) (vn vc : Nat) (vs : List Int) (LA : Option Addr) (ln lc : Nat) (ls : List Int) (w : World) (hv : RdI w VA vn vs) (hl : RdI w LA ln ls) :
    Calls Tryz.prog 72 #[grpV VA vn vc LA ln lc] w fun e w' => e = .returned (.bool (grpOk vs ls)) ∧ Below w.heap.size w w' := by
  have HB := Lib.hid (alloc_below w (.cells #[.slice VA vn vc, .slice LA ln lc] 35))
  have K0 := Lib.hid (Blk.new w #[.slice VA vn vc, .slice LA ln lc] 35)
  have HV := Lib.hid hv
  have HL := Lib.hid hl
  have HVN := Lib.hid hv.1
  have hmv := hv.2.1
  unfold maxLen at hmv
  have H1 := Lib.hid (rises_any VA vn vc vs _ (RdI.below hv HB.out))
  obtain ⟨R, hR⟩ : ∃ R, grpOk vs ls = R := ⟨_, rfl⟩
  have HR := Lib.hid (hR.symm.trans (show grpOk vs ls = (!(decide (vs.length = 0)) && upN 0 vs && upN 0 ls && !(anyI vs fun x => hasI ls x)) from rfl))
  rw [hv.1] at HR
  rw [hR]
  clear hv hl hR
  unfold grpV
  generalize upN 0 vs = b1 at *
  go_enter Tryz.func72, Tryz.ntmps72
  go_wp2_with fail
  refine H1.out.mono ?_
  rintro e w1 ⟨rfl, hb1⟩
  have HB1 := Lib.hid (HB.out.trans (hb1.mono HB.out.size))
  have K1 := Lib.hid (K0.out.below hb1)
  clear hb1 H1 HB K0
  have H2 := Lib.hid (rises_any LA ln lc ls w1 (RdI.below HL.out HB1.out))
  have c1 := K1.out.cell 1 _ rfl
  generalize upN 0 ls = b2 at *
  go_wp2_with fail
  refine H2.out.mono ?_
  rintro e w2 ⟨rfl, hb2⟩
  have HB2 := Lib.hid (HB1.out.trans (hb2.mono HB1.out.size))
  have K2 := Lib.hid (K1.out.below hb2)
  clear hb2 H2 HB1 K1 c1
  have c0 := K2.out.cell 0 _ rfl
  have c1 := K2.out.cell 1 _ rfl
  cases b1 with
  | false =>
    have HF := Lib.hid (show R = false by rw [HR.out]; simp)
    go_wp2
    go_ret
    exact ⟨by rw [HF.out]; rfl, HB2.out⟩
  | true =>
    cases b2 with
    | false =>
      have HF := Lib.hid (show R = false by rw [HR.out]; simp)
      go_wp2
      go_ret
      exact ⟨by rw [HF.out]; rfl, HB2.out⟩
    | true =>
      by_cases h0 : vn = 0
      · have HF := Lib.hid (show R = false by rw [HR.out]; simp [h0])
        have q0 : ((vn : Int) == 0) = true := by simp [h0]
        go_wp2
        go_ret
        exact ⟨by rw [HF.out]; rfl, HB2.out⟩
      have q0 : ((vn : Int) == 0) = false := by simp [h0]
      have HR2 := Lib.hid (show R = !(anyI vs fun x => hasI ls x) by rw [HR.out]; simp [h0])
      clear HR
      go_wp2_with fail
      go_loopw [5] (fun i wr => RgR w2 vn vs ls i wr) (fun i _ => vn - (intOf i).toNat)
      case atStart => exact ⟨0, 0, by omega, rfl, rfl, rfl⟩
      case round =>
        obtain ⟨k, d, hk, rfl, rfl, hany⟩ := hrel
        have HA := Lib.hid hany
        clear hany
        have d0 : (w2.drewN d).cell? ⟨w.heap.size, 0, none⟩ = some (.slice VA vn vc) := ((below_dr w2 d).cell (lt_of_cell c0)).trans c0
        have d1 : (w2.drewN d).cell? ⟨w.heap.size, 1, none⟩ = some (.slice LA ln lc) := ((below_dr w2 d).cell (lt_of_cell c1)).trans c1
        by_cases hlt : k < vn
        · obtain ⟨b, off, rfl, hc⟩ := (RdI.below HV.out HB2.out).2.2 (by omega)
          have g1 : (w2.drewN d).cell? ⟨b, off + k, none⟩ = some (.int .i64 (vs.getD k 0)) := ((below_dr w2 d).cell (lt_of_cell (hc k hlt))).trans (hc k hlt)
          have HRL := Lib.hid (RdI.below (RdI.below HL.out HB2.out) (below_dr w2 d))
          have HT := Lib.hid (any_take vs (fun x => hasI ls x) k (by rw [HVN.out]; exact hlt))
          have HX := Lib.hid (any_at vs (fun x => hasI ls x) k (by rw [HVN.out]; exact hlt))
          clear hc
          generalize vs.getD k 0 = y at *
          generalize hw1 : w2.drewN d = w3 at *
          have HW1 := Lib.hid hw1
          clear hw1
          have HH := Lib.hid (fun m => has_quiet LA ln lc ls y w3 m HRL.out)
          have j1 : (k : Int) < (vn : Int) := by omega
          have j0 : (0 : Int) ≤ (k : Int) := by omega
          cases hb : hasI ls y with
          | true =>
            have HF := Lib.hid (show R = false by rw [HR2.out, HX.out hb]; rfl)
            rw [hb] at HH
            go_wp2_with fail
            go_quiet ((go_at_call 103; exact HH.out _))
            clear g1 d0 d1
            have HW2 := Lib.hid (show w3.drewN nq = w2.drewN (d + nq) by rw [← HW1.out, drew_add])
            go_wp2
            go_ret
            exact ⟨by rw [HF.out]; rfl, by rw [HW2.out]; exact HB2.out.trans ((below_dr w2 _).mono HB2.out.size)⟩
          | false =>
            have HT2 := Lib.hid (show anyI (vs.take (k + 1)) (fun x => hasI ls x) = false by rw [HT.out, HA.out, hb]; rfl)
            rw [hb] at HH
            go_wp2_with fail
            go_quiet ((go_at_call 103; exact HH.out _))
            clear g1 d0 d1
            have HW2 := Lib.hid (show w3.drewN nq = w2.drewN (d + nq) by rw [← HW1.out, drew_add])
            go_wp2
            go_roundw
            case rel => exact ⟨k + 1, d + nq, by omega, by go_num, HW2.out, HT2.out⟩
            case measure => simp [intOf]; omega
        · obtain rfl : k = vn := by omega
          have HF := Lib.hid (show R = true by rw [HR2.out]; have := HA.out; rw [← HVN.out, List.take_length] at this; rw [this]; rfl)
          go_wp2
          go_ret
          exact ⟨by rw [HF.out]; rfl, HB2.out.trans ((below_dr w2 _).mono HB2.out.size)⟩
set_option maxRecDepth 100000 in
set_option maxHeartbeats 3200000 in
theorem rightSnap_any (i t : Int) (VA : Option Addr) (vn vc : Nat) (vs : List Int) (LA : Option Addr) (ln lc : Nat) (ls : List Int) (DA : Option Addr) (dn dc : Nat) (w : World) (hv : RdI w VA vn vs) (hl : RdI w LA ln ls) :
    Calls Tryz.prog 36 #[snapV i t (.slice VA vn vc) (.slice LA ln lc) (.slice DA dn dc)] w fun e w' => e = .returned (.bool (snapOk i t vs ls dn)) ∧ Below w.heap.size w w' := by
  have HB := Lib.hid (alloc_below w (.cells #[.int .i64 i, .int .i64 t, .slice VA vn vc, .slice LA ln lc, .slice DA dn dc] 38))
  have K0 := Lib.hid (Blk.new w #[.int .i64 i, .int .i64 t, .slice VA vn vc, .slice LA ln lc, .slice DA dn dc] 38)
  have H1 := Lib.hid (rightGroup_any VA vn vc vs LA ln lc ls _ (RdI.below hv HB.out) (RdI.below hl HB.out))
  unfold grpV at H1
  obtain ⟨R, hR⟩ : ∃ R, snapOk i t vs ls dn = R := ⟨_, rfl⟩
  have HR := Lib.hid (hR.symm.trans (show snapOk i t vs ls dn = ((decide (0 ≤ i) && decide (i ≤ 1099511627776)) && (decide (0 ≤ t) && decide (t ≤ 1099511627776)) && grpOk vs ls && decide (dn ≤ 60000)) from rfl))
  rw [hR]
  clear hv hl hR
  unfold snapV
  generalize grpOk vs ls = b1 at *
  go_enter Tryz.func36, Tryz.ntmps36
  go_wp2_with fail
  refine H1.out.mono ?_
  rintro e w1 ⟨rfl, hb1⟩
  have HB1 := Lib.hid (HB.out.trans (hb1.mono HB.out.size))
  obtain ⟨c0, c1, c2, c3, c4⟩ := Blk.five (K0.out.below hb1)
  clear hb1 H1 HB K0
  by_cases h1 : 0 ≤ i
  · by_cases h2 : i ≤ 1099511627776
    · by_cases h3 : 0 ≤ t
      · by_cases h4 : t ≤ 1099511627776
        · cases b1 with
          | false =>
            have HF := Lib.hid (show R = false by rw [HR.out]; simp)
            go_wp2
            go_ret
            exact ⟨by rw [HF.out]; rfl, HB1.out⟩
          | true =>
            by_cases h5 : (dn : Int) ≤ 60000
            · have HF := Lib.hid (show R = true by rw [HR.out]; simp; omega)
              go_wp2
              go_ret
              exact ⟨by rw [HF.out]; simp, HB1.out⟩
            · have HF := Lib.hid (show R = false by rw [HR.out, decide_eq_false (show ¬ dn ≤ 60000 by omega)]; simp)
              go_wp2
              go_ret
              exact ⟨by rw [HF.out]; simp; omega, HB1.out⟩
        · have HF := Lib.hid (show R = false by rw [HR.out, decide_eq_false h4]; simp)
          go_wp2
          go_ret
          exact ⟨by rw [HF.out]; rfl, HB1.out⟩
      · have HF := Lib.hid (show R = false by rw [HR.out, decide_eq_false h3]; simp)
        go_wp2
        go_ret
        exact ⟨by rw [HF.out]; rfl, HB1.out⟩
    · have HF := Lib.hid (show R = false by rw [HR.out, decide_eq_false h2]; simp)
      go_wp2
      go_ret
      exact ⟨by rw [HF.out]; rfl, HB1.out⟩
  · have HF := Lib.hid (show R = false by rw [HR.out, decide_eq_false h1]; simp)
    go_wp2
    go_ret
    exact ⟨by rw [HF.out]; rfl, HB1.out⟩
end Go.Proofs.YtejphnbhcabchaaGreat.Kp

namespace Go.Proofs.YtejphnbhcabchaaGreat.Kp
open Go.RowKit Go.ChangeShapes Go.WideShapes Go.Deep Go.Proofs.YtejphnbhcabchaaGreat.Dk Go.Proofs.YtejphnbhcabchaaGreat.Fld
set_option linter.unusedVariables false

/-- a step, with where its lists and bytes lie -/
structure Stp where
  d : Int
  n : Int
  nm : ByteArray
  p : Int
  q : Int
  i : Int
  t : Int
  VA : Option Addr
  vn : Nat
  vc : Nat
  vs : List Int
  LA : Option Addr
  ln : Nat
  lc : Nat
  ls : List Int
  DA : Option Addr
  dn : Nat
  dc : Nat
  ds : List Int
  KA : Option Addr
  kn : Nat
  kc : Nat
  ks : List Int
  BA : Option Addr
  bn : Nat
  bc : Nat
  bs : List Int
def Stp.cells (s : Stp) : List Value := [.int .i64 s.d, .int .i64 s.n, .string s.nm, .int .i64 s.p, .int .i64 s.q, .int .i64 s.i, .int .i64 s.t, .slice s.VA s.vn s.vc, .slice s.LA s.ln s.lc, .slice s.DA s.dn s.dc, .slice s.KA s.kn s.kc, .slice s.BA s.bn s.bc]
structure Stp.Ok (s : Stp) (w : World) : Prop where
  n : s.n ≤ 9223372036854775807
  nm : s.nm.size ≤ maxLen
  v : RdI w s.VA s.vn s.vs
  l : RdI w s.LA s.ln s.ls
  d : Rd w s.DA s.dn s.ds
  dz : s.DA = none → s.dc = 0
  k : RdI w s.KA s.kn s.ks
  b : Rd w s.BA s.bn s.bs
  bz : s.BA = none → s.bc = 0
section
variable {H : Type} {encH : TypeId × Value → H} {w : World} {base : Nat} {spare : Nat → Bool} {held : Bool}
set_option maxRecDepth 100000 in
theorem open_step {n : Nat} {cs : List Value} {x : DataW H × List MemPlace} (h : DataW.trod encH Tryz.prog w base spare held n 40 cs = some x) (hl : cs.length = 12) : ∃ s : Stp, s.Ok w ∧ cs = s.cells := by
  obtain ⟨ys, n', _, _, _, hyl, hf⟩ := DataW.trod_struct Tryz.underlying40 h
  have hsz : ys.length = 7 := hyl
  obtain ⟨v0, z0, c0, t0⟩ := cell_of (off := 0) (t := 3) (by rw [List.getElem?_eq_getElem (by omega)]; rfl) (by kernel_rfl) (by omega) (hf 0 _ rfl)
  obtain ⟨v1, z1, c1, t1⟩ := cell_of (off := 1) (t := 3) (by rw [List.getElem?_eq_getElem (by omega)]; rfl) (by kernel_rfl) (by omega) (hf 1 _ rfl)
  obtain ⟨v2, z2, c2, t2⟩ := cell_of (off := 2) (t := 9) (by rw [List.getElem?_eq_getElem (by omega)]; rfl) (by kernel_rfl) (by omega) (hf 2 _ rfl)
  obtain ⟨v10, z10, c10, t10⟩ := cell_of (off := 10) (t := 33) (by rw [List.getElem?_eq_getElem (by omega)]; rfl) (by kernel_rfl) (by omega) (hf 5 _ rfl)
  obtain ⟨v11, z11, c11, t11⟩ := cell_of (off := 11) (t := 36) (by rw [List.getElem?_eq_getElem (by omega)]; rfl) (by kernel_rfl) (by omega) (hf 6 _ rfl)
  have hH : Tryz.prog.cellsOf 32 = 2 := by kernel_rfl
  have hS : Tryz.prog.cellsOf 38 = 5 := by kernel_rfl
  have g3 : DataW.trod encH Tryz.prog w base spare held n' 32 ((cs.drop 3).take (Tryz.prog.cellsOf 32)) = ys[3]? := hf 3 _ rfl
  have g4 : DataW.trod encH Tryz.prog w base spare held n' 38 ((cs.drop 5).take (Tryz.prog.cellsOf 38)) = ys[4]? := hf 4 _ rfl
  rw [hH, List.getElem?_eq_getElem (by omega)] at g3
  rw [hS, List.getElem?_eq_getElem (by omega)] at g4
  obtain ⟨p, q, e3⟩ := open_hard g3 (by rw [List.length_take, List.length_drop]; omega)
  obtain ⟨i, t, VA, vn, vc, vs, LA, ln, lc, ls, DA, dn, dc, ds, e4, hv, hl2, hd, hdz⟩ := open_snap g4 (by rw [List.length_take, List.length_drop]; omega)
  obtain ⟨a, ha, _, _⟩ := DataW.trod_int Tryz.underlying3 t0
  obtain ⟨b, hb, _, hbw⟩ := DataW.trod_int Tryz.underlying3 t1
  obtain ⟨nm, hnm, _, hns⟩ := DataW.trod_string Tryz.underlying9 t2
  obtain ⟨KA, kn, kc, ks, hk, hkr⟩ := open_nums t10
  obtain ⟨BA, bn, bc, bs, hbb, hbr, hbz⟩ := Fld.open_bytes t11
  simp only [List.cons.injEq, and_true] at ha hb hnm
  refine ⟨⟨a, b, nm, p, q, i, t, VA, vn, vc, vs, LA, ln, lc, ls, DA, dn, dc, ds, KA, kn, kc, ks, BA, bn, bc, bs⟩, ⟨(i64_of_wf hbw).2, hns, hv, hl2, hd, hdz, hkr, hbr, hbz⟩, ?_⟩
  have at3 : ∀ j, j < 2 → cs[3 + j]? = [Value.int .i64 p, .int .i64 q][j]? := by
    intro j hj
    rw [← e3, List.getElem?_take, if_pos hj, List.getElem?_drop]
  have at5 : ∀ j, j < 5 → cs[5 + j]? = [Value.int .i64 i, .int .i64 t, .slice VA vn vc, .slice LA ln lc, .slice DA dn dc][j]? := by
    intro j hj
    rw [← e4, List.getElem?_take, if_pos hj, List.getElem?_drop]
  apply List.ext_getElem?
  intro k
  rcases k with _ | _ | _ | _ | _ | _ | _ | _ | _ | _ | _ | _ | k
  · rw [c0, ha]; rfl
  · rw [c1, hb]; rfl
  · rw [c2, hnm]; rfl
  · exact at3 0 (by omega)
  · exact at3 1 (by omega)
  · exact at5 0 (by omega)
  · exact at5 1 (by omega)
  · exact at5 2 (by omega)
  · exact at5 3 (by omega)
  · exact at5 4 (by omega)
  · rw [c10, hk]; rfl
  · rw [c11, hbb]; rfl
  · rw [List.getElem?_eq_none (by omega), List.getElem?_eq_none (by simp [Stp.cells])]
def stpV (s : Stp) : Value := .agg s.cells.toArray
set_option maxRecDepth 100000 in
theorem open_stepv {r : Reach} {b0 : Nat} {v : Value} {d : DataW H} {p : List MemPlace} (hv : Value.okWide Tryz.prog w r b0 40 v) (h : DataW.Trod encH Tryz.prog w base spare held 40 v d p) : ∃ s : Stp, v = stpV s ∧ s.Ok w := by
  have hC : Tryz.prog.cellsOf 40 = 12 := by kernel_rfl
  obtain ⟨cs, rfl, hsz⟩ : ∃ cs : Array Value, v = .agg cs ∧ cs.size = 12 := by
    simp only [Value.okWide, Tryz.underlying40] at hv
    obtain ⟨cs, rfl, hs, _⟩ := hv
    exact ⟨cs, rfl, by rw [hs, hC]⟩
  obtain ⟨fuel, hf⟩ := h
  obtain ⟨s, hok, he⟩ := open_step hf (by simpa [Value.cells] using hsz)
  refine ⟨s, ?_, hok⟩
  have h1 : cs.toList = s.cells := by simpa [Value.cells] using he
  obtain ⟨l⟩ := cs
  simp only at h1
  subst h1
  rfl
end
end Go.Proofs.YtejphnbhcabchaaGreat.Kp

namespace Go.Proofs.YtejphnbhcabchaaGreat.Kp
open Go.RowKit Go.ChangeShapes Go.WideShapes Go.Deep Go.Proofs.YtejphnbhcabchaaGreat.Dk Go.Proofs.YtejphnbhcabchaaGreat.Fld
set_option linter.unusedVariables false

/-- a slice of steps -/
def RdSt (w : World) (A : Option Addr) (n : Nat) (l : List Stp) : Prop :=
  l.length = n ∧ n ≤ maxLen ∧ (0 < n → ∃ b off, A = some ⟨b, off, none⟩ ∧ ∀ i (h : i < l.length) j, j < 12 → w.cell? ⟨b, off + i * 12 + j, none⟩ = l[i].cells[j]?) ∧ ∀ a ∈ l, a.Ok w
def stp0 : Stp := ⟨0, 0, ByteArray.empty, 0, 0, 0, 0, none, 0, 0, [], none, 0, 0, [], none, 0, 0, [], none, 0, 0, [], none, 0, 0, []⟩
section
variable {H : Type} {encH : TypeId × Value → H} {w : World} {base : Nat} {spare : Nat → Bool} {held : Bool}
set_option maxRecDepth 100000 in
theorem open_steps {fuel : Nat} {A : Option Addr} {len cap : Nat} {x : DataW H × List MemPlace} (h : DataW.trod encH Tryz.prog w base spare held fuel 22 [.slice A len cap] = some x) : ∃ l, RdSt w A len l := by
  rcases open_slice Tryz.underlying22 h with ⟨hcs, _⟩ | ⟨a, len', cap', m, n, D, Pl, hcs, hb, hl, hm, hmm, hx, hi⟩
  · simp at hcs
    obtain ⟨rfl, rfl, rfl⟩ := hcs
    exact ⟨[], rfl, by unfold maxLen; omega, fun h => by omega, fun a ha => by simp at ha⟩
  · simp at hcs
    obtain ⟨rfl, rfl, rfl⟩ := hcs
    have hlm : len ≤ m := by rw [hmm]; split <;> omega
    have hC : Tryz.prog.cellsOf 40 = 12 := by kernel_rfl
    have each : ∀ i, ∃ q : Stp, i < len → q.Ok w ∧ ∀ j, j < 12 → w.cell? (a.add (i * 12 + j)) = q.cells[j]? := by
      intro i
      by_cases hil : i < len
      · obtain ⟨cs', hc, ht'⟩ := hi i (by omega)
        rw [hC] at hc
        obtain ⟨_, hcl, hat⟩ := World.cells?_some hc
        obtain ⟨q, hq, he⟩ := open_step ht' (by omega)
        refine ⟨q, fun _ => ⟨hq, fun j hj => ?_⟩⟩
        rw [← he, ← hat j (by omega), add_add]
      · exact ⟨stp0, fun h => absurd h hil⟩
    obtain ⟨f, hf⟩ := Classical.axiomOfChoice each
    clear each
    refine ⟨(List.range len).map f, by simp, by omega, fun hp => ?_, ?_⟩
    · obtain ⟨b, off, sp⟩ := a
      have hspot : sp = none := by
        have h0 := (hf 0 hp).2 0 (by omega)
        have h1 : w.cell? ((⟨b, off, sp⟩ : Addr).add (0 * 12 + 0)) = some (.int .i64 (f 0).d) := h0
        simpa [Addr.add] using World.cell?_spot h1
      subst hspot
      refine ⟨b, off, rfl, fun i hil j hj => ?_⟩
      have hil' : i < len := by simpa using hil
      have hq := (hf i hil').2 j hj
      have ea : ∀ k, (⟨b, off, none⟩ : Addr).add k = ⟨b, off + k, none⟩ := fun k => by unfold Addr.add; split <;> simp_all
      rw [ea, ← Nat.add_assoc] at hq
      rw [hq]
      simp
    · intro q hq
      simp only [List.mem_map, List.mem_range] at hq
      obtain ⟨i, hi2, rfl⟩ := hq
      exact (hf i hi2).1
end
/-- where the cells of a step lie, later too -/
theorem RdSt.at12 {w w' : World} {A : Option Addr} {n : Nat} {l : List Stp} (h : RdSt w A n l) (hb : Below w.heap.size w w') (k : Nat) (hk : k < l.length) : ∃ b off, A = some ⟨b, off, none⟩ ∧ ∀ j v, j < 12 → l[k].cells[j]? = some v → w'.cell? ⟨b, off + k * 12 + j, none⟩ = some v := by
  obtain ⟨b, off, hA, hc⟩ := h.2.2.1 (by have := h.1; omega)
  refine ⟨b, off, hA, fun j v hj hv => ?_⟩
  have h1 := hc k hk j hj
  rw [hv] at h1
  exact (hb.cell (lt_of_cell h1)).trans h1
end Go.Proofs.YtejphnbhcabchaaGreat.Kp

namespace Go.Proofs.YtejphnbhcabchaaGreat.Kp
open Go.RowKit Go.Proofs.YtejphnbhcabchaaGreat.Dk Go.Proofs.YtejphnbhcabchaaGreat.Fld
set_option linter.unusedVariables false

theorem enc_snoc (n : Nat) (l : List Nat) (k : Nat) (h : k < l.length) : enc (n :: l.take (k + 1)) = enc (n :: l.take k) ++ code (l.getD k 0) := by
  rw [enc_cons, enc_cons n (l.take k), enc_take l k h, List.append_assoc]
set_option maxRecDepth 100000 in
set_option maxHeartbeats 3200000 in
theorem refnumbers_any (A : Option Addr) (n cap : Nat) (l : List Nat) (w : World) (hr : Dk.RdI w A n (ints l)) (hl : l.length = n) (hn : n ≤ 100) (hs : ∀ m ∈ l, m ≤ 9223372036854775807) :
    Calls Tryz.prog 63 #[.slice A n cap] w (Made w (enc (n :: l))) := by
  have HR := Lib.hid hr
  have HL := Lib.hid hl
  have HS := Lib.hid hs
  have HN0 := Lib.hid (refnumber_any n (by omega) w)
  clear hr hl hs
  go_enter Tryz.func63, Tryz.ntmps63
  go_wp2_with fail
  refine HN0.out.mono ?_
  rintro e w0 ⟨v0, rfl, hO0⟩
  have HO0 := Lib.hid (show Own w w0 v0 (enc (n :: l.take 0)) by simpa [enc] using hO0)
  clear hO0 HN0
  go_wp2
  go_loopw [3, 4] (fun v i wr => ∃ k : Nat, k ≤ n ∧ i = .int .i64 k ∧ Own w wr v (enc (n :: l.take k))) (fun _ i _ => n - (intOf i).toNat)
  case atStart => exact ⟨0, Nat.zero_le _, rfl, HO0.out⟩
  case round =>
    obtain ⟨k, hk, rfl, hO⟩ := hrel
    have HO := Lib.hid hO
    clear hO
    by_cases hlt : k < n
    · obtain ⟨b, off, rfl, hc1⟩ := HR.out.2.2 (by omega)
      have hc := hc1 k hlt
      rw [ints_at l k (by rw [HL.out]; exact hlt)] at hc
      have hc := (HO.out.1.cell (lt_of_cell hc)).trans hc
      clear hc1
      have hm : l.getD k 0 ≤ 9223372036854775807 := HS.out _ (by rw [List.getD_eq_getElem?_getD, List.getElem?_eq_getElem (by rw [HL.out]; exact hlt)]; simp)
      have HE := Lib.hid (enc_snoc n l k (by rw [HL.out]; exact hlt))
      have HL1 := Lib.hid (show (enc (n :: l.take k)).length ≤ 918 from by
        have := enc_len (n :: l.take k) (fun m hm => by
          rcases List.mem_cons.1 hm with rfl | hm
          · omega
          · have := HS.out m (List.mem_of_mem_take hm); omega)
        rw [List.length_cons, List.length_take] at this
        omega)
      generalize l.getD k 0 = m at *
      have HN := Lib.hid (refnumber_any m (by omega) wr)
      have HM := Lib.hid (digs_len8 m (by omega))
      go_wp2_with fail
      refine HN.out.mono ?_
      rintro e w1 ⟨v1, rfl, hO1⟩
      obtain ⟨A1, c1, rfl, hs1, _⟩ := hO1.sl _ rfl
      have HO1 := Lib.hid (HO.out.below hO1.1)
      have HS1 := Lib.hid hs1
      clear hs1 hO1
      go_wp2_with (at_builtin; refine wpList_append_rd rfl _ _ rfl w _ (enc (n :: l.take k)) rfl HO1.out A1 _ c1 (code m) rfl HS1.out.2.2.2.1 HS1.out.1 (by have := HM.out; have := HL1.out; rw [code_len]; omega) ?_; intro v2 w2 hO2 _ _; have HO2 := Lib.hid hO2; clear hO2)
      go_roundw
      case rel => exact ⟨k + 1, by omega, by go_num, by rw [HE.out]; exact HO2.out⟩
      case measure => simp [intOf]; omega
    · obtain rfl : k = n := by omega
      go_wp2
      go_ret
      exact ⟨_, rfl, by have := HO.out; rwa [show l.take k = l by rw [← HL.out, List.take_length]] at this⟩
theorem own_rd {w0 w : World} {A : Option Addr} {n cap : Nat} {zs : List Int} (h : Own w0 w (.slice A n cap) zs) : Rd w A n zs := by
  obtain ⟨A', c', hv, hs, _⟩ := h.sl zs.length rfl
  cases hv
  exact hs.1
theorem refnumber_w (n : Nat) (hn : n < 18446744073709551616) (w : World) : Calls Tryz.prog 62 #[.int .u64 (IntKind.u64.wrap (n : Int))] w (Made w (code n)) := by
  rw [show IntKind.u64.wrap (n : Int) = (n : Int) by rw [IntKind.wrap_u64]; omega]
  exact refnumber_any n hn w
theorem code_pos (n : Nat) : 0 < (code n).length := by rw [code_len]; omega
set_option maxRecDepth 100000 in
set_option maxHeartbeats 1600000 in
theorem refhard_any (m n : Nat) (w : World) (hm : m ≤ 1099511627776) (hn : n ≤ 15) : Calls Tryz.prog 40 #[hardV (m : Int) (n : Int)] w (Made w (hardC m n)) := by
  have HB := Lib.hid (alloc_below w (.cells #[.int .i64 (m : Int), .int .i64 (n : Int)] 32))
  have K0 := Lib.hid (Blk.new w #[.int .i64 (m : Int), .int .i64 (n : Int)] 32)
  have HD1 := Lib.hid (digs_len8 m (by omega))
  have HD2 := Lib.hid (digs_len8 n (by omega))
  have HC := Lib.hid (show hardC m n = code m ++ code n from rfl)
  unfold hardV
  go_enter Tryz.func40, Tryz.ntmps40
  go_wp2_with fail
  generalize w.alloc (.cells #[.int .i64 (m : Int), .int .i64 (n : Int)] 32) = wa at *
  have s0 := K0.out.cell 0 _ rfl
  have s1 := K0.out.cell 1 _ rfl
  go_region_held3 (fun w' => w'.cell? ⟨w.heap.size, 0, none⟩ = some (.int .i64 (m : Int)) ∧ w'.cell? ⟨w.heap.size, 1, none⟩ = some (.int .i64 (n : Int))) (first | exact ⟨by assumption, by assumption⟩ | go_keep) (first
    | (refine step_append_rd rfl _ _ rfl wa v1 (code m) rfl HO2.out ⟨g2, 0, none⟩ _ c2 (code n) rfl HS2.out (by have h1 := HD1.out; have h2 := HD2.out; rw [code_len, code_len]; omega) ?_; intro v3 w3 hO3 _; rw [← HC.out] at hO3; have HO3 := Lib.hid hO3; have r0 := (HO3.out.1.cell (lt_of_cell s0)).trans s0; have r1 := (HO3.out.1.cell (lt_of_cell s1)).trans s1; clear hO3)
    | (have hh1 := HO1; go_at_call 62; refine (refnumber_w n (by omega) _).mono ?_; clear hh1; rintro e w2 ⟨v2, rfl, hO2⟩; obtain ⟨g2, c2, hv2, _⟩ := hO2.addr _ rfl (code_pos n); subst hv2; have hs2 := own_rd hO2; have HO2 := Lib.hid (HO1.out.below hO2.1); have HS2 := Lib.hid hs2; have q0 := (HO2.out.1.cell (lt_of_cell s0)).trans s0; have q1 := (HO2.out.1.cell (lt_of_cell s1)).trans s1; clear hs2 hO2)
    | (go_at_call 62; refine (refnumber_w m (by omega) _).mono ?_; rintro e w1 ⟨v1, rfl, hO1⟩; have HO1 := Lib.hid (show Own wa w1 v1 (code m) from hO1.since (by first | exact (Below.refl _ _).drew | exact Below.refl _ _)); have p0 := (HO1.out.1.cell (lt_of_cell s0)).trans s0; have p1 := (HO1.out.1.cell (lt_of_cell s1)).trans s1; clear hO1))
  go_wp2
  go_ret
  exact ⟨_, rfl, HO3.out.since HB.out⟩
end Go.Proofs.YtejphnbhcabchaaGreat.Kp

namespace Go.Proofs.YtejphnbhcabchaaGreat.Kp
open Go.RowKit Go.Proofs.YtejphnbhcabchaaGreat.Dk Go.Proofs.YtejphnbhcabchaaGreat.Fld
set_option linter.unusedVariables false

theorem code_le (n : Nat) (h : n < 18446744073709551616) : (code n).length ≤ 9 := by
  have := digs_len8 n h
  rw [code_len]
  omega
theorem text_le (ds : List Int) (h : ds.length ≤ 1000000) : (textC ds).length ≤ 1000009 := by
  have h1 := digs_len8 ds.length (by omega)
  rw [textC_len]
  omega
set_option maxRecDepth 100000 in
set_option maxHeartbeats 3200000 in
theorem refencode_any (i t : Int) (VA : Option Addr) (vn vc : Nat) (vs : List Int) (LA : Option Addr) (ln lc : Nat) (ls : List Int) (DA : Option Addr) (dn dc : Nat) (ds : List Int) (w : World) (hv : RdI w VA vn vs) (hl : RdI w LA ln ls) (hd : Rd w DA dn ds) (hD : DA = none → dc = 0) :
    Calls Tryz.prog 32 #[snapV i t (.slice VA vn vc) (.slice LA ln lc) (.slice DA dn dc)] w (Encd w (snapOk i t vs ls dn) (snapC i.toNat t.toNat (toNats vs) (toNats ls) ds)) := by
  have hb := alloc_below w (.cells #[.int .i64 i, .int .i64 t, .slice VA vn vc, .slice LA ln lc, .slice DA dn dc] 38)
  have HB := Lib.hid hb
  have HV := Lib.hid (rightSnap_any i t VA vn vc vs LA ln lc ls DA dn dc _ (RdI.below hv hb) (RdI.below hl hb))
  have HK := Lib.hid (Blk.new w #[.int .i64 i, .int .i64 t, .slice VA vn vc, .slice LA ln lc, .slice DA dn dc] 38)
  cases hok : snapOk i t vs ls dn with
  | false =>
    rw [hok] at HV
    unfold snapV at HV ⊢
    clear hv hl hd hD hb hok
    go_enter Tryz.func32, Tryz.ntmps32
    go_wp2_with fail
    refine HV.out.mono ?_
    rintro e w' ⟨rfl, hb1⟩
    have HB1 := Lib.hid hb1
    clear hb1
    go_wp2
    go_ret2
    exact ⟨rfl, HB.out.trans (HB1.out.mono HB.out.size)⟩
  | true =>
    rw [hok] at HV
    obtain ⟨a, b, v, l, rfl, rfl, rfl, rfl, ha, hbb, hvl, hll, hvm, hlm, hdn⟩ := snap_nat hok
    rw [toNats_ints, toNats_ints, Int.toNat_natCast, Int.toNat_natCast]
    have hvn : v.length = vn := by rw [← ints_len]; exact hv.1
    have hln : l.length = ln := by rw [← ints_len]; exact hl.1
    unfold snapV at HV ⊢
    have HRV := Lib.hid hv
    have HRL := Lib.hid hl
    have HRD := Lib.hid hd
    have HD := Lib.hid hD
    have HVN := Lib.hid hvn
    have HLN := Lib.hid hln
    have HVM := Lib.hid hvm
    have HLM := Lib.hid hlm
    have HZ1 := Lib.hid (code_le a (by omega))
    have HZ2 := Lib.hid (code_le b (by omega))
    have HZ3 := Lib.hid (show (enc (vn :: v)).length ≤ 1000 by
      have := enc_len (vn :: v) (by
        intro m hm
        rcases List.mem_cons.1 hm with rfl | hm
        · omega
        · have := hvm m hm; omega)
      rw [List.length_cons] at this
      omega)
    have HZ4 := Lib.hid (show (enc (ln :: l)).length ≤ 1000 by
      have := enc_len (ln :: l) (by
        intro m hm
        rcases List.mem_cons.1 hm with rfl | hm
        · omega
        · have := hlm m hm; omega)
      rw [List.length_cons] at this
      omega)
    have HZ5 := Lib.hid (text_le ds (by rw [hd.1]; omega))
    have HFL := Lib.hid (show ((code a ++ code b) ++ enc (vn :: v)) ++ enc (ln :: l) ++ textC ds = snapC a b v l ds by
      rw [← hvn, ← hln]
      simp [snapC, enc, List.append_assoc])
    have HC := Lib.hid (show ∀ W : World, code a ++ code b = code a ++ code b from fun _ => rfl)
    clear hok hv hl hd hD hvn hln hvm hlm hb
    go_enter Tryz.func32, Tryz.ntmps32
    go_wp2_with fail
    refine HV.out.mono ?_
    rintro e wa ⟨rfl, hb1⟩
    have HBA := Lib.hid (HB.out.trans (hb1.mono HB.out.size))
    have HKA := Lib.hid (HK.out.below hb1)
    clear hb1 HV HK
    obtain ⟨s0, s1, s2, s3, s4⟩ := HKA.out.five
    go_wp2_with fail
    go_region_held3 (fun w' => w'.cell? ⟨w.heap.size, 0, none⟩ = some (.int .i64 (a : Int)) ∧ w'.cell? ⟨w.heap.size, 1, none⟩ = some (.int .i64 (b : Int))) (first | exact ⟨by assumption, by assumption⟩ | go_keep) (first
      | (refine step_append_rd rfl _ _ rfl wa v1 (code a) rfl HO2.out ⟨g2, 0, none⟩ _ c2 (code b) rfl HS2.out (by have h1 := HZ1.out; have h2 := HZ2.out; omega) ?_; intro v3 w3 hO3 _; have HO3 := Lib.hid hO3; have r0 := (HO3.out.1.cell (lt_of_cell s0)).trans s0; have r1 := (HO3.out.1.cell (lt_of_cell s1)).trans s1; clear hO3)
      | (have hh1 := HO1; go_at_call 62; refine (refnumber_w b (by omega) _).mono ?_; clear hh1; rintro e w2 ⟨v2, rfl, hO2⟩; obtain ⟨g2, c2, hv2, _⟩ := hO2.addr _ rfl (code_pos b); subst hv2; have hs2 := own_rd hO2; have HO2 := Lib.hid (HO1.out.below hO2.1); have HS2 := Lib.hid hs2; have q0 := (HO2.out.1.cell (lt_of_cell s0)).trans s0; have q1 := (HO2.out.1.cell (lt_of_cell s1)).trans s1; clear hs2 hO2)
      | (go_at_call 62; refine (refnumber_w a (by omega) _).mono ?_; rintro e w1 ⟨v1, rfl, hO1⟩; have HO1 := Lib.hid (show Own wa w1 v1 (code a) from hO1.since (by first | exact (Below.refl _ _).drew | exact Below.refl _ _)); have p0 := (HO1.out.1.cell (lt_of_cell s0)).trans s0; have p1 := (HO1.out.1.cell (lt_of_cell s1)).trans s1; clear hO1))
    have HN5 := Lib.hid (refnumbers_any VA vn vc v w3 (RdI.below HRV.out (HBA.out.trans (HO3.out.1.mono HBA.out.size))) HVN.out (by have := HVN.out; omega) (fun m hm => by have := HVM.out m hm; omega))
    obtain ⟨_, _, r2, _, _⟩ := (HKA.out.below HO3.out.1).five
    clear s0 s1 s2 s3 s4
    go_wp2_with fail
    refine HN5.out.mono ?_
    clear HN5
    rintro e w4 ⟨v4, rfl, hO4⟩
    obtain ⟨A4, c4, hv4, hs4, _⟩ := hO4.sl _ rfl
    subst hv4
    have HO4 := Lib.hid (HO3.out.below hO4.1)
    have HS4 := Lib.hid hs4
    clear hs4 hO4 r2
    go_wp2_with (at_builtin; refine wpList_append_rd rfl _ _ rfl wa _ (code a ++ code b) rfl HO4.out A4 _ c4 (enc (vn :: v)) rfl HS4.out.2.2.2.1 HS4.out.1 (by have h1 := HZ1.out; have h2 := HZ2.out; have h3 := HZ3.out; rw [List.length_append]; omega) ?_; intro v5 w5 hO5 _ _; have HO5 := Lib.hid hO5; obtain ⟨_, _, _, r3, _⟩ := (HKA.out.below HO5.out.1).five; clear hO5)
    have HN6 := Lib.hid (refnumbers_any LA ln lc l w5 (RdI.below HRL.out (HBA.out.trans (HO5.out.1.mono HBA.out.size))) HLN.out (by have := HLN.out; omega) (fun m hm => by have := HLM.out m hm; omega))
    refine HN6.out.mono ?_
    clear HN6
    rintro e w6 ⟨v6, rfl, hO6⟩
    obtain ⟨A6, c6, hv6, hs6, _⟩ := hO6.sl _ rfl
    subst hv6
    have HO6 := Lib.hid (HO5.out.below hO6.1)
    have HS6 := Lib.hid hs6
    clear hs6 hO6 r3
    go_wp2_with (at_builtin; refine wpList_append_rd rfl _ _ rfl wa _ (code a ++ code b ++ enc (vn :: v)) rfl HO6.out A6 _ c6 (enc (ln :: l)) rfl HS6.out.2.2.2.1 HS6.out.1 (by have h1 := HZ1.out; have h2 := HZ2.out; have h3 := HZ3.out; have h4 := HZ4.out; rw [List.length_append, List.length_append]; omega) ?_; intro v7 w7 hO7 _ _; have HO7 := Lib.hid hO7; obtain ⟨_, _, _, _, r4⟩ := (HKA.out.below HO7.out.1).five; clear hO7)
    have HN8 := Lib.hid (reftext_any DA dn dc ds w7 (HRD.out.below (HBA.out.trans (HO7.out.1.mono HBA.out.size))) HD.out (by omega))
    refine HN8.out.mono ?_
    clear HN8
    rintro e w8 ⟨v8, rfl, hO8⟩
    obtain ⟨A8, c8, hv8, hs8, _⟩ := hO8.sl _ rfl
    subst hv8
    have HO8 := Lib.hid (HO7.out.below hO8.1)
    have HS8 := Lib.hid hs8
    clear hs8 hO8 r4
    go_wp2_with (at_builtin; refine wpList_append_rd rfl _ _ rfl wa _ (code a ++ code b ++ enc (vn :: v) ++ enc (ln :: l)) rfl HO8.out A8 _ c8 (textC ds) rfl HS8.out.2.2.2.1 HS8.out.1 (by have h1 := HZ1.out; have h2 := HZ2.out; have h3 := HZ3.out; have h4 := HZ4.out; have h5 := HZ5.out; rw [List.length_append, List.length_append, List.length_append]; omega) ?_; intro v9 w9 hO9 _ _; rw [HFL.out] at hO9; have HO9 := Lib.hid hO9; clear hO9)
    go_ret2
    exact ⟨_, rfl, HO9.out.since HBA.out⟩
end Go.Proofs.YtejphnbhcabchaaGreat.Kp

namespace Go.Proofs.YtejphnbhcabchaaGreat.Kp
open Go.RowKit Go.Proofs.YtejphnbhcabchaaGreat.Dk Go.Proofs.YtejphnbhcabchaaGreat.Fld
set_option linter.unusedVariables false

/-- the document's reader of the bytes zs that lie at A, with what is left to read -/
def DAt (w : World) (h : Nat) (A : Option Addr) (n cap : Nat) (zs rest : List Int) (bad : Bool) : Prop := ∃ p, Doc w h A n cap p zs bad ∧ rest = zs.drop p
theorem DAt.lt {w : World} {h : Nat} {A : Option Addr} {n cap : Nat} {zs rest : List Int} {bad : Bool} (t : DAt w h A n cap zs rest bad) : h < w.heap.size := by
  obtain ⟨p, t, _⟩ := t
  exact t.1.lt
theorem DAt.rd {w : World} {h : Nat} {A : Option Addr} {n cap : Nat} {zs rest : List Int} {bad : Bool} (t : DAt w h A n cap zs rest bad) : Rd w A n zs := by
  obtain ⟨p, t, _⟩ := t
  exact t.2.1
theorem DAt.below {w w' : World} {h : Nat} {A : Option Addr} {n cap : Nat} {zs rest : List Int} {bad : Bool} (t : DAt w h A n cap zs rest bad) (hb : Below w.heap.size w w') : DAt w' h A n cap zs rest bad := by
  obtain ⟨p, t, e⟩ := t
  exact ⟨p, ⟨t.1.of_block (hb.block h t.1.lt), t.2.1.below hb, t.2.2⟩, e⟩
theorem DAt.grown {w w' : World} {h : Nat} {A : Option Addr} {n cap : Nat} {zs rest : List Int} {bad : Bool} (t : DAt w h A n cap zs rest bad) {row : Option Nat} (hg : w.grownBy w' row) (hA : ∀ a, A = some a → row ≠ some a.block) (hh : row ≠ some h) : DAt w' h A n cap zs rest bad := by
  obtain ⟨p, t, e⟩ := t
  exact ⟨p, ⟨t.1.of_block (hg.block h t.1.lt (fun e => hh e.symm)), t.2.1.grown hg hA, t.2.2⟩, e⟩
theorem Doc.moved_at {w w1 : World} {h : Nat} {A : Option Addr} {n cap p : Nat} {zs : List Int} (t : Doc w h A n cap p zs false) (hs : Still w w1) (x : Int) (k : Nat) (hx : x = ((p + k : Nat) : Int)) (hk : k ≤ (zs.drop p).length) :
    Chg h w (w1.setCell ⟨h, 1, none⟩ (.int .i64 x)) ∧ DAt (w1.setCell ⟨h, 1, none⟩ (.int .i64 x)) h A n cap zs ((zs.drop p).drop k) false := by
  obtain ⟨t3, hr, hp, hnc, hm⟩ := t
  have hc : Chg h w1 (w1.setCell ⟨h, 1, none⟩ (.int .i64 x)) := (Chg.refl h w1).setCell _ (.inl rfl) _
  have hl := hr.1
  rw [List.length_drop] at hk
  exact ⟨((Chg.refl h w).still hs).trans hc, p + k, ⟨(t3.still hs).set1 x _ hx, (hr.still hs).chg3 hc (t3.still hs), by omega, hnc, hm⟩, by rw [List.drop_drop]⟩
theorem Doc.amiss_at {w w1 : World} {h : Nat} {A : Option Addr} {n cap p : Nat} {zs : List Int} {bad : Bool} (t : Doc w h A n cap p zs bad) (hs : Still w w1) :
    Chg h w (w1.setCell ⟨h, 2, none⟩ (.bool true)) ∧ DAt (w1.setCell ⟨h, 2, none⟩ (.bool true)) h A n cap zs (zs.drop p) true := by
  obtain ⟨t3, hr, hp, hnc, hm⟩ := t
  have hc : Chg h w1 (w1.setCell ⟨h, 2, none⟩ (.bool true)) := (Chg.refl h w1).setCell _ (.inl rfl) _
  exact ⟨((Chg.refl h w).still hs).trans hc, p, ⟨(t3.still hs).set2, (hr.still hs).chg3 hc (t3.still hs), hp, hnc, hm⟩, rfl⟩
def DGotA (h : Nat) (A : Option Addr) (n cap : Nat) (zs : List Int) (w : World) (v : Value) (rest : List Int) (bad : Bool) (e : Ending) (w' : World) : Prop := e = .returned v ∧ Chg h w w' ∧ DAt w' h A n cap zs rest bad
set_option maxHeartbeats 800000 in
theorem dnum_at (h : Nat) (A : Option Addr) (n cap : Nat) (zs rest : List Int) (w : World) (t : DAt w h A n cap zs rest false) (v : Nat) (r : List Int) (hc : cutNum rest = some (v, r)) (most : Int) (hm : (v : Int) ≤ most) :
    Calls Tryz.prog 53 #[.pointer (some ⟨h, 0, none⟩), .int .u64 most] w (DGotA h A n cap zs w (.int .u64 (v : Int)) r false) := by
  obtain ⟨p, t, rfl⟩ := t
  obtain ⟨k, hn, hk0, hkl, rfl, _⟩ := cutNum_next _ (bytes_drop t.2.1.2.2.1 p) v r hc
  have HT := Lib.hid t
  have HN := Lib.hid (next_some h A n cap p zs w t v false k hn)
  have HKL := Lib.hid hkl
  have hpk : p + k ≤ 140737488351232 := by
    have := t.2.1.1
    have := t.2.2.2.2
    have := t.2.2.1
    rw [List.length_drop] at hkl
    omega
  clear t hc hn hkl
  have d1 : ((k : Int) == 0) = false := by simp; omega
  have d2 : decide (most < (v : Int)) = false := by simp; omega
  go_enter Tryz.func53, Tryz.ntmps53
  go_wp2_with fail
  refine HN.out.mono ?_
  rintro e w1 ⟨rfl, hst⟩
  have ht := HT.out.1.still hst
  have HST := Lib.hid hst
  obtain ⟨_, c1, _, f1, _⟩ := ht.cells
  clear ht hst
  go_wp2
  go_ret
  exact ⟨rfl, Doc.moved_at HT.out HST.out _ k (by omega) HKL.out⟩

set_option maxHeartbeats 800000 in
theorem dnum_no (h : Nat) (A : Option Addr) (n cap : Nat) (zs rest : List Int) (bad : Bool) (w : World) (t : DAt w h A n cap zs rest bad) (most : Int) (hc : bad = true ∨ cutNum rest = none ∨ ∃ v r, cutNum rest = some (v, r) ∧ most < (v : Int)) :
    Calls Tryz.prog 53 #[.pointer (some ⟨h, 0, none⟩), .int .u64 most] w (DGotA h A n cap zs w (.int .u64 0) rest true) := by
  obtain ⟨p, t, rfl⟩ := t
  have hby := bytes_drop t.2.1.2.2.1 p
  have HT := Lib.hid t
  have cases3 : (bad = true ∨ nextS (zs.drop p) = none) ∨ (bad = false ∧ ∃ v k, nextS (zs.drop p) = some (v, true, k + 1)) ∨ (bad = false ∧ ∃ v k, nextS (zs.drop p) = some (v, false, k) ∧ 0 < k ∧ most < (v : Int)) := by
    cases bad with
    | true => exact .inl (.inl rfl)
    | false =>
      rcases hc with h | h | ⟨v, r, h, hv⟩
      · cases h
      · rcases cutNum_none _ hby h with h1 | h1
        · exact .inl (.inr h1)
        · exact .inr (.inl ⟨rfl, h1⟩)
      · obtain ⟨k, hn, hk0, _⟩ := cutNum_next _ hby v r h
        exact .inr (.inr ⟨rfl, v, k, hn, hk0, hv⟩)
  clear hc hby
  rcases cases3 with hn | ⟨rfl, v, k, hn⟩ | ⟨rfl, v, k, hn, hk0, hv⟩
  · have HN := Lib.hid (next_none h A n cap p zs bad w t hn)
    clear t hn
    go_enter Tryz.func53, Tryz.ntmps53
    go_wp2_with fail
    refine HN.out.mono ?_
    rintro e w1 ⟨rfl, hst⟩
    have ht := HT.out.1.still hst
    have HST := Lib.hid hst
    obtain ⟨_, _, c2, _, f2⟩ := ht.cells
    clear ht hst
    go_wp2
    go_ret
    exact ⟨rfl, Doc.amiss_at HT.out HST.out⟩
  · have HN := Lib.hid (next_some h A n cap p zs w t v true (k + 1) hn)
    clear t hn
    have d1 : ((k : Int) + 1 == 0) = false := by simp; omega
    go_enter Tryz.func53, Tryz.ntmps53
    go_wp2_with fail
    refine HN.out.mono ?_
    rintro e w1 ⟨rfl, hst⟩
    have ht := HT.out.1.still hst
    have HST := Lib.hid hst
    obtain ⟨_, _, c2, _, f2⟩ := ht.cells
    clear ht hst
    go_wp2
    go_ret
    exact ⟨rfl, Doc.amiss_at HT.out HST.out⟩
  · have HN := Lib.hid (next_some h A n cap p zs w t v false k hn)
    clear t hn
    have d1 : ((k : Int) == 0) = false := by simp; omega
    go_enter Tryz.func53, Tryz.ntmps53
    go_wp2_with fail
    refine HN.out.mono ?_
    rintro e w1 ⟨rfl, hst⟩
    have ht := HT.out.1.still hst
    have HST := Lib.hid hst
    obtain ⟨_, _, c2, _, f2⟩ := ht.cells
    clear ht hst
    go_wp2
    go_ret
    exact ⟨rfl, Doc.amiss_at HT.out HST.out⟩


theorem dnum_a (h : Nat) (A : Option Addr) (n cap : Nat) (zs : List Int) (q : List Int × Bool) (w : World) (most : Nat) (t : DAt w h A n cap zs q.1 q.2) : Calls Tryz.prog 53 #[.pointer (some ⟨h, 0, none⟩), .int .u64 (most : Int)] w (DGotA h A n cap zs w (.int .u64 ((rdN q most).1 : Int)) (rdN q most).2.1 (rdN q most).2.2) := by
  obtain ⟨rs, bad⟩ := q
  unfold rdN
  cases bad with
  | true => exact dnum_no h A n cap zs rs true w t _ (.inl rfl)
  | false =>
    simp only [Bool.false_eq_true, if_false]
    cases hc : cutNum rs with
    | none => exact dnum_no h A n cap zs rs false w t _ (.inr (.inl hc))
    | some vr =>
      obtain ⟨v, r⟩ := vr
      simp only
      by_cases hb : v ≤ most
      · rw [if_pos hb]
        exact dnum_at h A n cap zs rs w t v r hc _ (by omega)
      · rw [if_neg hb]
        exact dnum_no h A n cap zs rs false w t _ (.inr (.inr ⟨v, r, hc, by omega⟩))
theorem DAt.docR {w : World} {h : Nat} {A : Option Addr} {n cap : Nat} {zs rest : List Int} {bad : Bool} (t : DAt w h A n cap zs rest bad) : DocR w h rest bad := by
  obtain ⟨p, t, e⟩ := t
  exact ⟨A, n, cap, p, zs, t, e⟩
theorem rd_lt {w : World} {A : Option Addr} {n : Nat} {zs : List Int} (hr : Rd w A n zs) (h0 : 0 < n) : ∀ a, A = some a → a.block < w.heap.size := by
  intro a ha
  obtain ⟨b, off, e, hc⟩ := hr.2.2.2 h0
  rw [ha] at e
  injection e with e
  have := lt_of_cell (hc 0 h0)
  rw [e]
  exact this
def DLs (h : Nat) (A : Option Addr) (n cap : Nat) (zs : List Int) (w : World) (r : List Nat × (List Int × Bool)) (e : Ending) (w' : World) : Prop := ∃ B c, e = .returned (.slice B r.1.length c) ∧ RdI w' B r.1.length (ints r.1) ∧ (∀ a, B = some a → w.heap.size ≤ a.block) ∧ Chg h w w' ∧ DAt w' h A n cap zs r.2.1 r.2.2
def DLsR (h : Nat) (A : Option Addr) (n cap : Nat) (zs : List Int) (w : World) (N : Nat) (q : List Int × Bool) (v i : Value) (wr : World) : Prop := ∃ k : Nat, k ≤ N ∧ i = .int .u64 (k : Int) ∧ wr.ownsRow w.heap.size 3 1 v k (vOf (rdTo q k).1) ∧ Chg h w wr ∧ DAt wr h A n cap zs (rdTo q k).2.1 (rdTo q k).2.2
theorem DAt.grown2 {w w' : World} {h : Nat} {A : Option Addr} {n cap : Nat} {zs rest : List Int} {bad : Bool} (t : DAt w h A n cap zs rest bad) {row : Option Nat} (hg : w.grownBy w' row) (hi : Nat) (hA : 0 < n → ∀ a, A = some a → a.block < hi) (hr : ∀ r, row = some r → hi ≤ r ∧ h ≠ r) : DAt w' h A n cap zs rest bad := by
  obtain ⟨p, t, e⟩ := t
  refine ⟨p, ⟨t.1.of_block (hg.block h t.1.lt (fun e => (hr h e.symm).2 rfl)), ?_, t.2.2⟩, e⟩
  rcases Nat.eq_zero_or_pos n with h0 | h0
  · subst h0
    obtain rfl : zs = [] := List.eq_nil_of_length_eq_zero t.2.1.1
    exact Rd.zero _ _
  · exact t.2.1.grown hg (fun a ha e => by have h5 := (hr _ e).1; have h6 := hA h0 a ha; omega)
set_option maxRecDepth 100000 in
set_option maxHeartbeats 3200000 in
theorem reflist_any (h : Nat) (A : Option Addr) (n cap : Nat) (zs : List Int) (q : List Int × Bool) (w : World) (t : DAt w h A n cap zs q.1 q.2) : Calls Tryz.prog 70 #[.pointer (some ⟨h, 0, none⟩)] w (DLs h A n cap zs w (rdLs q)) := by
  have HN := Lib.hid (dnum_a h A n cap zs q w 15 t)
  have hgl : h < w.heap.size := t.lt
  have HA := Lib.hid (fun h0 => rd_lt t.rd h0)
  have hNm := rdN_most q 15
  have HLS := Lib.hid (show rdLs q = rdTo (rdN q 15).2 (rdN q 15).1 from rfl)
  clear t
  generalize rdLs q = R at *
  generalize rdN q 15 = a0 at *
  obtain ⟨N, q1⟩ := a0
  simp only at hNm
  go_enter Tryz.func70, Tryz.ntmps70
  go_wp2_with fail
  refine HN.out.mono ?_
  rintro e w1 ⟨rfl, hc1, hr1⟩
  have HS := Lib.hid (show DLsR h A n cap zs w N q1 (.slice none 0 0) (.int .u64 0) w1 from ⟨0, Nat.zero_le _, rfl, World.ownsRow_nil _ _ _ _, hc1, hr1⟩)
  clear hc1 hr1 HN
  go_wp2_with fail
  go_loopw [4, 5] (fun v i wr => DLsR h A n cap zs w N q1 v i wr) (fun _ i _ => N - (intOf i).toNat)
  case atStart => exact HS.out
  case round =>
    obtain ⟨k, hk, rfl, hrow, hch, hrd⟩ := hrel
    have HROW := Lib.hid hrow
    have HCH := Lib.hid hch
    have HRD := Lib.hid hrd
    clear hrow hch hrd
    by_cases hlt : k < N
    · have HM := Lib.hid (dnum_a h A n cap zs (rdTo q1 k).2 _ 15 HRD.out)
      have hxm := rdN_most (rdTo q1 k).2 15
      have HT := Lib.hid (show rdTo q1 (k + 1) = ((rdTo q1 k).1 ++ [(rdN (rdTo q1 k).2 15).1], (rdN (rdTo q1 k).2 15).2) from rfl)
      generalize rdN (rdTo q1 k).2 15 = a1 at *
      obtain ⟨x, q2⟩ := a1
      simp only at HT hxm
      go_wp2_with fail
      refine HM.out.mono ?_
      rintro e w2 ⟨rfl, hc2, hr2⟩
      have hrow2 := row_of_blocks HROW.out (fun i h1 h2 => hc2.block i h2 (by omega))
      have hb3 := alloc_below w2 (.cells #[.int .i64 (x : Int)] 3)
      have HROW3 := Lib.hid (row_of_blocks hrow2 (fun i _ h2 => hb3.block i h2))
      have HC3 := Lib.hid ((HCH.out.trans hc2).alloc (.cells #[.int .i64 (x : Int)] 3))
      have HR3 := Lib.hid (hr2.below hb3)
      have HCELL := Lib.hid (show (w2.alloc (.cells #[.int .i64 (x : Int)] 3)).cell? ⟨w2.heap.size, 0, none⟩ = some (.int .i64 (x : Int)) by rw [World.cell?_alloc_mark]; rfl)
      clear hrow2 hb3 hc2 hr2 HM
      go_wp2_with (at_builtin; refine wpList_append_int rfl _ _ rfl w.heap.size _ k (vOf (rdTo q1 k).1) (x : Int) rfl HROW3.out w2.heap.size rfl HCELL.out (by omega) HC3.out.size ?_; intro v4 w4 hrow4 hg4; rw [← vOf_snoc] at hrow4; have HROW4 := Lib.hid hrow4; have HG4 := Lib.hid hg4; clear hrow4 hg4)
      go_roundw
      case rel =>
        refine ⟨k + 1, by omega, by go_num, by rw [HT.out]; exact HROW4.out, ?_, ?_⟩
        · exact chg_grown HC3.out HG4.out (row_base HROW3.out)
        · rw [HT.out]
          exact HR3.out.grown2 HG4.out w.heap.size HA.out (fun r hr => ⟨row_base HROW3.out r hr, by have := row_base HROW3.out r hr; omega⟩)
      case measure => simp [intOf]; omega
    · obtain rfl : k = N := by omega
      obtain ⟨B, c, hv, hri, hB, hll, hfr⟩ := row_rdI HROW.out (by omega)
      have HF := Lib.hid (show DLs h A n cap zs w R (.returned (.slice B k c)) wr by
        rw [HLS.out]
        refine ⟨B, c, ?_, ?_, hfr, HCH.out, HRD.out⟩
        · rw [hll]
        · rw [hll]; exact hri)
      subst hv
      clear hri hB hfr
      go_wp2
      go_ret
      exact HF.out
end Go.Proofs.YtejphnbhcabchaaGreat.Kp

namespace Go.Proofs.YtejphnbhcabchaaGreat.Kp
open Go.RowKit Go.Proofs.YtejphnbhcabchaaGreat.Dk Go.Proofs.YtejphnbhcabchaaGreat.Fld
set_option linter.unusedVariables false

def DGotTA (h : Nat) (A : Option Addr) (n cap : Nat) (zs : List Int) (w : World) (t rest : List Int) (bad : Bool) (e : Ending) (w' : World) : Prop := ∃ B m c, e = .returned (.slice B m c) ∧ Rd w' B m t ∧ Chg h w w' ∧ DAt w' h A n cap zs rest bad
set_option maxRecDepth 100000 in
set_option maxHeartbeats 1600000 in
theorem dtext_at (h : Nat) (A : Option Addr) (n cap : Nat) (zs rest : List Int) (w : World) (t : DAt w h A n cap zs rest false) (tx r : List Int) (hc : cutText rest = some (tx, r)) (most : Int) (hm : (tx.length : Int) ≤ most) (hmm : most ≤ 9223372036854775807) :
    Calls Tryz.prog 71 #[.pointer (some ⟨h, 0, none⟩), .int .i64 most] w (DGotTA h A n cap zs w tx r false) := by
  obtain ⟨p, t, rfl⟩ := t
  unfold cutText at hc
  cases hcn : cutNum (zs.drop p) with
  | none => rw [hcn] at hc; cases hc
  | some q =>
    obtain ⟨v, rr⟩ := q
    rw [hcn] at hc
    simp only at hc
    by_cases hvr : v ≤ rr.length
    · rw [if_pos hvr] at hc
      simp only [Option.some.injEq, Prod.mk.injEq] at hc
      obtain ⟨rfl, rfl⟩ := hc
      obtain ⟨k, hn, hk0, hkl, rfl, _⟩ := cutNum_next _ (bytes_drop t.2.1.2.2.1 p) v rr hcn
      rw [List.length_take, List.length_drop, List.length_drop] at hm
      rw [List.length_drop] at hkl
      rw [List.length_drop, List.length_drop] at hvr
      have hzl := t.2.1.1
      have hpn := t.2.2.1
      have hnc := t.2.2.2.1
      have hn47 := t.2.2.2.2
      rw [hzl] at hvr hkl hm
      obtain ⟨b, off, rfl, hcell⟩ := t.at (by omega)
      have HT := Lib.hid t
      have HN := Lib.hid (next_some h _ n cap p zs w t v false k hn)
      obtain ⟨a, hsl, hsa⟩ := run_mid b off n cap (p + k) (p + k + v) (by omega) (by omega)
      rw [show p + k + v - (p + k) = v by omega] at hsl hsa
      have HSA := Lib.hid hsa
      have HSL := Lib.hid hsl
      have HTX := Lib.hid (show ((zs.drop p).drop k).take v = (zs.drop (p + k)).take v by rw [List.drop_drop])
      have HRS := Lib.hid (show ((zs.drop p).drop k).drop v = zs.drop (p + k + v) by rw [List.drop_drop, List.drop_drop, Nat.add_assoc])
      have hmv : (v : Int) ≤ most := by omega
      clear t hcn hn hsa hsl hcell hzl hm
      have d1 : ((k : Int) == 0) = false := by simp; omega
      have d2 : decide (most < 0) = false := by simp; omega
      have d3 : decide (most < (v : Int)) = false := by simp; omega
      have d4 : decide ((n : Int) - (p : Int) - (k : Int) < (v : Int)) = false := by simp; omega
      have w1 : IntKind.u64.wrap most = most := by rw [IntKind.wrap_u64]; omega
      have w2 : IntKind.i64.wrap ((n : Int) - (p : Int)) = (n : Int) - (p : Int) := IntWalk.i64_in _ (by omega)
      have w3 : IntKind.i64.wrap ((n : Int) - (p : Int) - (k : Int)) = (n : Int) - (p : Int) - (k : Int) := IntWalk.i64_in _ (by omega)
      have w4 : IntKind.u64.wrap ((n : Int) - (p : Int) - (k : Int)) = (n : Int) - (p : Int) - (k : Int) := by rw [IntKind.wrap_u64]; omega
      go_enter Tryz.func71, Tryz.ntmps71
      go_wp2_with fail
      refine HN.out.mono ?_
      rintro e wa ⟨rfl, hst⟩
      have ht := HT.out.1.still hst
      have HST := Lib.hid hst
      obtain ⟨c0, c1, c2, f1, f2⟩ := ht.cells
      clear ht hst
      go_wp2_with fail
      go_quiet (fail)
      clear w1 w2 w3 w4 d1 d2 d3 d4
      go_wp2_with fail
      have hst2 := Still.drewN HST.out nq
      have hch : Chg h (wa.drewN nq) ((wa.drewN nq).setCell ⟨h, 1, none⟩ (.int .i64 ((p : Int) + (k : Int) + (v : Int)))) := (Chg.refl h _).setCell ⟨h, 1, none⟩ (.inl rfl) _
      have hcg := ((Chg.refl h w).still hst2).trans hch
      have hr2 := (HT.out.2.1.still hst2).chg3 hch (HT.out.1.still hst2)
      have ht2 := (HT.out.1.still hst2).set1 ((p : Int) + (k : Int) + (v : Int)) (p + k + v) (by omega)
      clear hch hst2 c0 c1 c2 f1 f2
      generalize (wa.drewN nq).setCell _ _ = W at hcg hr2 ht2 ⊢
      obtain ⟨c0, c1, _, _, _⟩ := ht2.cells
      have HCG := Lib.hid hcg
      have HR2 := Lib.hid hr2
      have HT2 := Lib.hid ht2
      have HO := Lib.hid (Own.made W W (Below.refl _ _)).drew
      unfold noneBlk at HO
      have HRW := Lib.hid (show Rd (W.alloc (.cells #[] 5)).drew (some a) v ((zs.drop (p + k)).take v) from (hr2.window (p + k) v (by omega) a HSA.out).below (((Below.refl _ _).alloc (Nat.le_refl _) _).drew))
      have hsl := HSL.out
      have hba : Below W.heap.size W (W.alloc (.cells #[] 5)) := (Below.refl _ _).alloc (Nat.le_refl _) _
      have e0 := (hba.cell (lt_of_cell c0)).trans c0
      have e1 := (hba.cell (lt_of_cell c1)).trans c1
      clear hba
      push_cast at c1 e1 hsl
      have HBD := Lib.hid (show ([] : List Int).length + v ≤ 140737488355328 by simp only [List.length_nil]; omega)
      clear hcg hr2 ht2 HSL HST HN HT
      go_region_law ((refine step_append_rd rfl _ _ rfl W (.slice (some ⟨W.heap.size, 0, none⟩) 0 0) [] rfl HO.out a v (cap - (p + k)) ((zs.drop (p + k)).take v) rfl HRW.out HBD.out ?_; intro v' w' hO hg; have HO' := Lib.hid hO; clear hO hg))
      all_goals go_wp2
      all_goals go_ret
      all_goals
        obtain ⟨A', c', hv', hs', _⟩ := HO'.out.sl v (by rw [List.nil_append, List.length_take, List.length_drop]; have := HR2.out.1; omega)
        subst hv'
        rw [HTX.out, HRS.out]
        exact ⟨A', v, c', rfl, hs'.1, HCG.out.trans (Chg.below HO'.out.1), p + k + v, ⟨HT2.out.of_block (HO'.out.1.block h HT2.out.lt), HR2.out.below HO'.out.1, by omega, hnc, hn47⟩, rfl⟩
    · rw [if_neg hvr] at hc; cases hc
set_option maxRecDepth 100000 in
set_option maxHeartbeats 3200000 in
theorem dtext_no (h : Nat) (A : Option Addr) (n cap : Nat) (zs rest : List Int) (bad : Bool) (w : World) (t : DAt w h A n cap zs rest bad) (most : Int) (hm0 : -9223372036854775808 ≤ most) (hm1 : most ≤ 9223372036854775807) (hc : bad = true ∨ cutText rest = none ∨ ∃ tx r, cutText rest = some (tx, r) ∧ most < (tx.length : Int)) :
    Calls Tryz.prog 71 #[.pointer (some ⟨h, 0, none⟩), .int .i64 most] w (DGotA h A n cap zs w (.slice none 0 0) rest true) := by
  obtain ⟨p, t, rfl⟩ := t
  have hby := bytes_drop t.2.1.2.2.1 p
  have hzl := t.2.1.1
  have hpn := t.2.2.1
  have hn47 := t.2.2.2.2
  have HT := Lib.hid t
  have cases5 : (bad = true ∨ nextS (zs.drop p) = none) ∨ (bad = false ∧ ∃ v k, nextS (zs.drop p) = some (v, true, k) ∧ 0 < k) ∨ (bad = false ∧ ∃ v k, nextS (zs.drop p) = some (v, false, k) ∧ 0 < k ∧ k ≤ n - p ∧ (most < (v : Int) ∨ n - p - k < v)) := by
    cases bad with
    | true => exact .inl (.inl rfl)
    | false =>
      cases hcn : cutNum (zs.drop p) with
      | none =>
        rcases cutNum_none _ hby hcn with h1 | ⟨v, k, h1⟩
        · exact .inl (.inr h1)
        · exact .inr (.inl ⟨rfl, v, k + 1, h1, by omega⟩)
      | some q =>
        obtain ⟨v, rr⟩ := q
        obtain ⟨k, hn, hk0, hkl, rfl, _⟩ := cutNum_next _ hby v rr hcn
        rw [List.length_drop, hzl] at hkl
        refine .inr (.inr ⟨rfl, v, k, hn, hk0, hkl, ?_⟩)
        have hlr : ((zs.drop p).drop k).length = n - p - k := by rw [List.length_drop, List.length_drop, hzl]
        rcases hc with h | h | ⟨tx, r, h, hx⟩
        · cases h
        · unfold cutText at h
          rw [hcn] at h
          simp only at h
          by_cases hvr : v ≤ ((zs.drop p).drop k).length
          · rw [if_pos hvr] at h; cases h
          · exact .inr (by omega)
        · unfold cutText at h
          rw [hcn] at h
          simp only at h
          by_cases hvr : v ≤ ((zs.drop p).drop k).length
          · rw [if_pos hvr] at h
            simp only [Option.some.injEq, Prod.mk.injEq] at h
            rw [← h.1, List.length_take] at hx
            exact .inl (by omega)
          · rw [if_neg hvr] at h; cases h
  clear hc hby hzl
  rcases cases5 with hn | ⟨rfl, v, k, hn, hk0⟩ | ⟨rfl, v, k, hn, hk0, hkl, hv⟩
  · have HN := Lib.hid (next_none h A n cap p zs bad w t hn)
    clear t hn
    go_enter Tryz.func71, Tryz.ntmps71
    go_wp2_with fail
    refine HN.out.mono ?_
    rintro e wa ⟨rfl, hst⟩
    have ht := HT.out.1.still hst
    have HST := Lib.hid hst
    obtain ⟨c0, c1, c2, f1, f2⟩ := ht.cells
    clear ht hst
    go_wp2_with fail
    go_quiet (fail)
    go_wp2
    go_ret
    exact ⟨rfl, Doc.amiss_at HT.out (Still.drewN HST.out _)⟩
  · have HN := Lib.hid (next_some h A n cap p zs w t v true k hn)
    clear t hn
    have d1 : ((k : Int) == 0) = false := by simp; omega
    go_enter Tryz.func71, Tryz.ntmps71
    go_wp2_with fail
    refine HN.out.mono ?_
    rintro e wa ⟨rfl, hst⟩
    have ht := HT.out.1.still hst
    have HST := Lib.hid hst
    obtain ⟨c0, c1, c2, f1, f2⟩ := ht.cells
    clear ht hst
    go_wp2_with fail
    go_quiet (fail)
    go_wp2
    go_ret
    exact ⟨rfl, Doc.amiss_at HT.out (Still.drewN HST.out _)⟩
  · have HN := Lib.hid (next_some h A n cap p zs w t v false k hn)
    clear t hn
    have d1 : ((k : Int) == 0) = false := by simp; omega
    have w2 : IntKind.i64.wrap ((n : Int) - (p : Int)) = (n : Int) - (p : Int) := IntWalk.i64_in _ (by omega)
    have w3 : IntKind.i64.wrap ((n : Int) - (p : Int) - (k : Int)) = (n : Int) - (p : Int) - (k : Int) := IntWalk.i64_in _ (by omega)
    have w4 : IntKind.u64.wrap ((n : Int) - (p : Int) - (k : Int)) = (n : Int) - (p : Int) - (k : Int) := by rw [IntKind.wrap_u64]; omega
    have HW2 := Lib.hid w2
    have HW3 := Lib.hid w3
    have HW4 := Lib.hid w4
    clear w2 w3 w4
    by_cases hneg : most < 0
    · have d2 : decide (most < 0) = true := by simp; omega
      go_enter Tryz.func71, Tryz.ntmps71
      go_wp2_with fail
      refine HN.out.mono ?_
      rintro e wa ⟨rfl, hst⟩
      have ht := HT.out.1.still hst
      have HST := Lib.hid hst
      obtain ⟨c0, c1, c2, f1, f2⟩ := ht.cells
      clear ht hst
      go_wp2_with fail
      go_quiet (fail)
      go_wp2
      go_ret
      exact ⟨rfl, Doc.amiss_at HT.out (Still.drewN HST.out _)⟩
    · have w1 : IntKind.u64.wrap most = most := by rw [IntKind.wrap_u64]; omega
      have d2 : decide (most < 0) = false := by simp; omega
      by_cases hbig : most < (v : Int)
      · have d3 : decide (most < (v : Int)) = true := by simp; omega
        go_enter Tryz.func71, Tryz.ntmps71
        go_wp2_with fail
        refine HN.out.mono ?_
        rintro e wa ⟨rfl, hst⟩
        have ht := HT.out.1.still hst
        have HST := Lib.hid hst
        obtain ⟨c0, c1, c2, f1, f2⟩ := ht.cells
        clear ht hst
        go_wp2_with fail
        go_quiet (fail)
        go_wp2
        go_ret
        exact ⟨rfl, Doc.amiss_at HT.out (Still.drewN HST.out _)⟩
      · have d3 : decide (most < (v : Int)) = false := by simp; omega
        have d4 : (n : Int) - (p : Int) - (k : Int) < (v : Int) := by omega
        have d5 : decide ((n : Int) - (p : Int) - (k : Int) < (v : Int)) = true := by simp; omega
        have w2 := HW2.out
        have w3 := HW3.out
        have w4 := HW4.out
        go_enter Tryz.func71, Tryz.ntmps71
        go_wp2_with fail
        refine HN.out.mono ?_
        rintro e wa ⟨rfl, hst⟩
        have ht := HT.out.1.still hst
        have HST := Lib.hid hst
        obtain ⟨c0, c1, c2, f1, f2⟩ := ht.cells
        clear ht hst
        go_wp2_with fail
        go_quiet (fail)
        go_wp2
        go_ret
        exact ⟨rfl, Doc.amiss_at HT.out (Still.drewN HST.out _)⟩
theorem dtext_aa (h : Nat) (A : Option Addr) (n cap : Nat) (zs : List Int) (q : List Int × Bool) (w : World) (most : Nat) (hm : most ≤ 9223372036854775807) (t : DAt w h A n cap zs q.1 q.2) : Calls Tryz.prog 71 #[.pointer (some ⟨h, 0, none⟩), .int .i64 (most : Int)] w (DGotTA h A n cap zs w (rdT q most).1 (rdT q most).2.1 (rdT q most).2.2) := by
  obtain ⟨rs, bad⟩ := q
  have hbad : ∀ (e : Ending) (w' : World), DGotA h A n cap zs w (.slice none 0 0) rs true e w' → DGotTA h A n cap zs w [] rs true e w' := fun e w' hh => ⟨none, 0, 0, hh.1, Rd.nil w', hh.2⟩
  unfold rdT
  cases bad with
  | true => exact (dtext_no h A n cap zs rs true w t _ (by omega) (by omega) (.inl rfl)).mono hbad
  | false =>
    simp only [Bool.false_eq_true, if_false]
    cases hc : cutText rs with
    | none => exact (dtext_no h A n cap zs rs false w t _ (by omega) (by omega) (.inr (.inl hc))).mono hbad
    | some vr =>
      obtain ⟨tx, r⟩ := vr
      simp only
      by_cases hb : tx.length ≤ most
      · rw [if_pos hb]
        exact dtext_at h A n cap zs rs w t tx r hc _ (by omega) (by omega)
      · rw [if_neg hb]
        exact (dtext_no h A n cap zs rs false w t _ (by omega) (by omega) (.inr (.inr ⟨tx, r, hc, by omega⟩))).mono hbad
end Go.Proofs.YtejphnbhcabchaaGreat.Kp

namespace Go.Proofs.YtejphnbhcabchaaGreat.Kp
open Go.RowKit Go.Proofs.YtejphnbhcabchaaGreat.Dk Go.Proofs.YtejphnbhcabchaaGreat.Fld
set_option linter.unusedVariables false

theorem DAt.far {w : World} {h : Nat} {A : Option Addr} {n cap : Nat} {zs rest : List Int} {bad : Bool} (t : DAt w h A n cap zs rest bad) {B : Nat} {cs : Array Value} {ty : TypeId} (hb : Blk w B cs ty) (hB : B ≠ h) (i : Nat) (hi : ∀ c, cs[i]? ≠ some (.int .u8 c)) (v : Value) : DAt (w.setCell ⟨B, i, none⟩ v) h A n cap zs rest bad := by
  obtain ⟨p, t, e⟩ := t
  exact ⟨p, ⟨t.1.of_block (Below.heap_setCell _ _ _ _ (Ne.symm hB)), Rd.far t.2.1 hb i hi v, t.2.2⟩, e⟩
/-- the document's reader, a block of the call's own, and the result's -/
structure TwosD (h : Nat) (A : Option Addr) (n cap : Nat) (zs : List Int) (w W : World) (q : List Int × Bool) (R C : Nat) (rs cs : Array Value) (tr tc : TypeId) : Prop where
  rd : DAt W h A n cap zs q.1 q.2
  res : Blk W R rs tr
  own : Blk W C cs tc
  chg : Chg h w W
  r : w.heap.size ≤ R
  c : w.heap.size ≤ C
  ne : R ≠ C ∧ R ≠ h ∧ C ≠ h
theorem TwosD.call {h : Nat} {A : Option Addr} {n cap : Nat} {zs : List Int} {w W W' : World} {q q' : List Int × Bool} {R C : Nat} {rs cs : Array Value} {tr tc : TypeId} (t : TwosD h A n cap zs w W q R C rs cs tr tc) (hc : Chg h W W') (hr : DAt W' h A n cap zs q'.1 q'.2) : TwosD h A n cap zs w W' q' R C rs cs tr tc :=
  ⟨hr, t.res.chg hc t.ne.2.1, t.own.chg hc t.ne.2.2, t.chg.trans hc, t.r, t.c, t.ne⟩
theorem TwosD.store {h : Nat} {A : Option Addr} {n cap : Nat} {zs : List Int} {w W : World} {q : List Int × Bool} {R C : Nat} {rs cs : Array Value} {tr tc : TypeId} (t : TwosD h A n cap zs w W q R C rs cs tr tc) (i : Nat) (hi : i < cs.size) (hn : ∀ c, cs[i]? ≠ some (.int .u8 c)) (v : Value) : TwosD h A n cap zs w (W.setCell ⟨C, i, none⟩ v) q R C rs (cs.setIfInBounds i v) tr tc :=
  ⟨t.rd.far t.own t.ne.2.2 i hn v, t.res.far _ (Ne.symm t.ne.1) v, t.own.set i v hi, t.chg.setCell _ (.inr t.c) v, t.r, t.c, t.ne⟩
theorem TwosD.below {h : Nat} {A : Option Addr} {n cap : Nat} {zs : List Int} {w W : World} {q : List Int × Bool} {R C : Nat} {rs cs : Array Value} {tr tc : TypeId} (t : TwosD h A n cap zs w W q R C rs cs tr tc) (hg : w.heap.size ≤ h) : Below w.heap.size w W :=
  ⟨t.chg.os, t.chg.tape, t.chg.output, t.chg.size, fun k hk => t.chg.block k hk (by omega)⟩
theorem TwosD.past {h : Nat} {A : Option Addr} {n cap : Nat} {zs : List Int} {w W W' : World} {q : List Int × Bool} {R C : Nat} {rs cs : Array Value} {tr tc : TypeId} (t : TwosD h A n cap zs w W q R C rs cs tr tc) (hb : Below W.heap.size W W') : TwosD h A n cap zs w W' q R C rs cs tr tc :=
  ⟨t.rd.below hb, t.res.below hb, t.own.below hb, t.chg.trans (Chg.below hb), t.r, t.c, t.ne⟩
def RSnapIs (w : World) (r : Sp × Int) (e : Ending) (w' : World) : Prop := ∃ VA LA DA vc lc dc, e = .returned (.tuple #[spV r.1 VA LA DA vc lc dc, .int .i64 r.2]) ∧ RdI w' VA r.1.vs.length (ints r.1.vs) ∧ RdI w' LA r.1.ls.length (ints r.1.ls) ∧ Rd w' DA r.1.ds.length r.1.ds ∧ Below w.heap.size w w' ∧ (∀ a, VA = some a → w.heap.size ≤ a.block) ∧ (∀ a, LA = some a → w.heap.size ≤ a.block)
theorem RSnapIs.zero (w w' : World) (hb : Below w.heap.size w w') : RSnapIs w (sp0, 6) (.returned (.tuple #[.agg #[.int .i64 0, .int .i64 0, .slice none 0 0, .slice none 0 0, .slice none 0 0], .int .i64 6])) w' :=
  ⟨none, none, none, 0, 0, 0, rfl, (SpAt.zero w').v, (SpAt.zero w').l, (SpAt.zero w').d, hb, (fun a h => by cases h), (fun a h => by cases h)⟩
set_option maxRecDepth 100000 in
set_option maxHeartbeats 6400000 in
theorem refdecode_any (A : Option Addr) (n cap : Nat) (zs : List Int) (w : World) (hr : Rd w A n zs) (hnc : n ≤ cap) (hn : n ≤ 140737488351232) : Calls Tryz.prog 34 #[.slice A n cap] w (RSnapIs w (decSp zs)) := by
  have hb1 := alloc_below' w (.cells #[.int .i64 0, .int .i64 0, .slice none 0 0, .slice none 0 0, .slice none 0 0] 38)
  have hb2 := hb1.alloc hb1.size (.cells #[.slice A n cap, .int .i64 0, .bool false] 97)
  have k2 := (Blk.new w #[.int .i64 0, .int .i64 0, .slice none 0 0, .slice none 0 0, .slice none 0 0] 38).past (.cells #[.slice A n cap, .int .i64 0, .bool false] 97)
  have d2 : DAt ((w.alloc (.cells #[.int .i64 0, .int .i64 0, .slice none 0 0, .slice none 0 0, .slice none 0 0] 38)).alloc (.cells #[.slice A n cap, .int .i64 0, .bool false] 97)) (w.heap.size + 1) A n cap zs zs false := by
    refine ⟨0, ⟨?_, hr.below hb2, Nat.zero_le _, hnc, hn⟩, rfl⟩
    have h5 := heap_alloc_new (w.alloc (.cells #[.int .i64 0, .int .i64 0, .slice none 0 0, .slice none 0 0, .slice none 0 0] 38)) (.cells #[.slice A n cap, .int .i64 0, .bool false] 97)
    have h6 : (w.alloc (.cells #[.int .i64 0, .int .i64 0, .slice none 0 0, .slice none 0 0, .slice none 0 0] 38)).heap.size = w.heap.size + 1 := by simp
    rw [h6] at h5
    exact h5
  have HB2 := Lib.hid hb2
  have K2 := Lib.hid k2
  have D2 := Lib.hid d2
  have HF := Lib.hid (show decSp zs = if wholeB (rdSp zs).2.1 (rdSp zs).2.2 && (rdSp zs).1.ok then ((rdSp zs).1, 0) else (sp0, 6) from rfl)
  unfold rdSp at HF
  generalize decSp zs = RES at *
  clear hr hb1 hb2 k2 d2
  go_enter Tryz.func34, Tryz.ntmps34
  go_wp2_with fail
  generalize (w.alloc (.cells #[.int .i64 0, .int .i64 0, .slice none 0 0, .slice none 0 0, .slice none 0 0] 38)).alloc (.cells #[.slice A n cap, .int .i64 0, .bool false] 97) = w2 at *
  have HG := Lib.hid (show w.heap.size ≤ w.heap.size + 1 by omega)
  generalize hg : w.heap.size + 1 = g at *
  have hRg : w.heap.size ≠ g := by omega
  refine (dnum_a g A n cap zs (zs, false) w2 1099511627776 D2.out).mono ?_
  have HV1 := Lib.hid (rdN_most (zs, false) 1099511627776)
  generalize rdN (zs, false) 1099511627776 = a1 at *
  obtain ⟨v1, q1⟩ := a1
  have hv1 : v1 ≤ 1099511627776 := HV1.out
  rintro e w3 ⟨rfl, hc, hr⟩
  have HC3 := Lib.hid ((Chg.below HB2.out).trans hc)
  have K3 := Lib.hid (K2.out.chg hc hRg)
  have D3 := Lib.hid hr
  clear hc hr D2 K2 hg
  go_wp2_with fail
  refine (dnum_a g A n cap zs q1 w3 1099511627776 D3.out).mono ?_
  try simp only at HF
  have hv2 := rdN_most q1 1099511627776
  generalize rdN q1 1099511627776 = a2 at *
  obtain ⟨v2, q2⟩ := a2
  simp only at hv2
  rintro e w4 ⟨rfl, hc, hr⟩
  have T2b := Lib.hid (show TwosD g A n cap zs w (w4.alloc (.cells #[.int .i64 (v1 : Int), .int .i64 (v2 : Int), .slice none 0 0, .slice none 0 0, .slice none 0 0] 38)) q2 w.heap.size w4.heap.size #[.int .i64 0, .int .i64 0, .slice none 0 0, .slice none 0 0, .slice none 0 0] #[.int .i64 (v1 : Int), .int .i64 (v2 : Int), .slice none 0 0, .slice none 0 0, .slice none 0 0] 38 38 from
    ⟨hr.below (alloc_below' w4 _), (K3.out.chg hc hRg).past _, Blk.new w4 _ _, (HC3.out.trans hc).alloc _, Nat.le_refl _, (HC3.out.trans hc).size, by have := (K3.out.chg hc hRg).lt; omega, hRg, by have := hr.lt; omega⟩)
  clear hc hr D3 K3 HC3
  go_wp2_with fail
  generalize w4.alloc (.cells #[.int .i64 (v1 : Int), .int .i64 (v2 : Int), .slice none 0 0, .slice none 0 0, .slice none 0 0] 38) = w7 at *
  generalize w4.heap.size = C at *
  refine (reflist_any g A n cap zs q2 w7 T2b.out.rd).mono ?_
  try simp only at HF
  generalize rdLs q2 = a3 at *
  obtain ⟨vs, q3⟩ := a3
  rintro e w8 ⟨VA, vc, rfl, hri, hvf, hc, hr⟩
  have T3 := Lib.hid (T2b.out.call hc hr)
  have hC7 := T2b.out.own.lt
  have hR7 := T2b.out.res.lt
  have hg7 := T2b.out.rd.lt
  have X1 := Lib.hid (show LiX w8 VA vs.length (ints vs) w7.heap.size from ⟨hri, hvf⟩)
  have HLO := Lib.hid (show C < w7.heap.size ∧ w.heap.size < w7.heap.size ∧ g < w7.heap.size from ⟨hC7, hR7, hg7⟩)
  generalize w7.heap.size = lo at *
  clear hri hvf hc hr hC7 hR7 hg7
  obtain ⟨vn, hvn⟩ : ∃ vn, vs.length = vn := ⟨_, rfl⟩
  have HVN := Lib.hid hvn
  rw [hvn] at X1 ⊢
  clear hvn
  have c0 := T3.out.own.cell 2 _ rfl
  have f0 := T3.out.own.free 2
  go_wp2_with fail
  have T3b := Lib.hid (T3.out.store 2 (by simp) (by intro c h; cases h) (.slice VA vn vc))
  have X1b := Lib.hid (X1.out.set C 2 HLO.out.1 (.slice VA vn vc))
  generalize w8.setCell ⟨C, 2, none⟩ (.slice VA vn vc) = w9 at *
  have HLO9 := Lib.hid (show lo ≤ w9.heap.size ∨ vn = 0 from by
    rcases Nat.eq_zero_or_pos vn with h0 | h0
    · exact .inr h0
    · obtain ⟨b, off, e, hcc⟩ := X1b.out.1.2.2 h0
      have h1 := lt_of_cell (hcc 0 h0)
      have h2 := X1b.out.2 _ e
      simp only at h1 h2
      exact .inl (by omega))
  refine (reflist_any g A n cap zs q3 w9 T3b.out.rd).mono ?_
  try simp only at HF
  generalize rdLs q3 = a4 at *
  obtain ⟨ls, q4⟩ := a4
  rintro e w10 ⟨LA, lc, rfl, hri, hvf, hc, hr⟩
  have T4 := Lib.hid (T3b.out.call hc hr)
  have X2 := Lib.hid (show LiX w10 LA ls.length (ints ls) w9.heap.size from ⟨hri, hvf⟩)
  have HLOB := Lib.hid (show C < w9.heap.size ∧ w.heap.size < w9.heap.size ∧ g < w9.heap.size from ⟨T3b.out.own.lt, T3b.out.res.lt, T3b.out.rd.lt⟩)
  have X1c := Lib.hid (X1b.out.chg hc HLO.out.2.2)
  generalize w9.heap.size = lo2 at *
  clear hri hvf hc hr c0 f0 HLO9
  obtain ⟨ln, hln⟩ : ∃ ln, ls.length = ln := ⟨_, rfl⟩
  have HLN := Lib.hid hln
  rw [hln] at X2 ⊢
  clear hln
  have c0 := T4.out.own.cell 3 _ rfl
  have f0 := T4.out.own.free 3
  go_wp2_with fail
  have T4b := Lib.hid (T4.out.store 3 (by simp) (by intro c h; cases h) (.slice LA ln lc))
  have X1d := Lib.hid (X1c.out.set C 3 HLO.out.1 (.slice LA ln lc))
  have X2b := Lib.hid (X2.out.set C 3 HLOB.out.1 (.slice LA ln lc))
  generalize w10.setCell ⟨C, 3, none⟩ (.slice LA ln lc) = w11 at *
  refine (dtext_aa g A n cap zs q4 w11 60000 (by omega) T4b.out.rd).mono ?_
  try simp only at HF
  generalize rdT q4 60000 = a5 at *
  obtain ⟨ds, q5⟩ := a5
  rintro e w12 ⟨DA, dn, dc, rfl, hsl, hc, hr⟩
  have HDN := Lib.hid (show ds.length = dn from hsl.1)
  have T5 := Lib.hid (T4b.out.call hc hr)
  have X1e := Lib.hid (X1d.out.chg hc HLO.out.2.2)
  have X2c := Lib.hid (X2b.out.chg hc HLOB.out.2.2)
  have HS := Lib.hid hsl
  clear hc hr c0 f0 hsl
  have c0 := T5.out.own.cell 4 _ rfl
  have f0 := T5.out.own.free 4
  go_wp2_with fail
  have T5b := Lib.hid (T5.out.store 4 (by simp) (by intro c h; cases h) (.slice DA dn dc))
  have X1f := Lib.hid (X1e.out.set C 4 HLO.out.1 (.slice DA dn dc))
  have X2d := Lib.hid (X2c.out.set C 4 HLOB.out.1 (.slice DA dn dc))
  have HS2 := Lib.hid (Rd.far HS.out T5.out.own 4 (by intro c h; cases h) (.slice DA dn dc))
  generalize w12.setCell ⟨C, 4, none⟩ (.slice DA dn dc) = w13 at *
  clear c0 f0
  refine (dwhole_any g q5.1 q5.2 w13 T5b.out.rd.docR).mono ?_
  rintro e w14 ⟨rfl, nd, hw14⟩
  have T5b := Lib.hid (show TwosD g A n cap zs w w14 q5 w.heap.size C _ _ _ _ from by rw [hw14]; exact T5b.out.past (below_dr w13 nd))
  have X1f := Lib.hid (show LiX w14 VA vn (ints vs) lo from by rw [hw14]; exact X1f.out.below (below_dr w13 nd))
  have X2d := Lib.hid (show LiX w14 LA ln (ints ls) lo2 from by rw [hw14]; exact X2d.out.below (below_dr w13 nd))
  have HS2 := Lib.hid (show Rd w14 DA dn ds from by rw [hw14]; exact HS2.out.below (below_dr w13 nd))
  clear hw14
  try simp only at HF
  unfold Sp.ok at HF
  simp only at HF
  rw [HDN.out] at HF
  obtain ⟨d0, d1, d2, d3, d4⟩ := Blk.five T5b.out.own
  have HVS := Lib.hid (rightSnap_any (v1 : Int) (v2 : Int) VA vn vc (ints vs) LA ln lc (ints ls) DA dn dc w14 X1f.out.1 X2d.out.1)
  unfold snapV at HVS
  generalize hok : snapOk (v1 : Int) (v2 : Int) (ints vs) (ints ls) dn = ok at *
  go_wp2_with fail
  refine HVS.out.mono ?_
  rintro e w15 ⟨rfl, hb15⟩
  have T6 := Lib.hid (T5b.out.past hb15)
  have X1g := Lib.hid (X1f.out.below hb15)
  have X2e := Lib.hid (X2d.out.below hb15)
  have HS3 := Lib.hid (HS2.out.below hb15)
  clear hb15 HVS d0 d1 d2 d3 d4 hok
  obtain ⟨d0, d1, d2, d3, d4⟩ := Blk.five T6.out.own
  obtain ⟨r0, r1, r2, r3, r4⟩ := Blk.five T6.out.res
  have g0 := T6.out.res.free 0
  have g1 := T6.out.res.free 1
  have g2 := T6.out.res.free 2
  have g3 := T6.out.res.free 3
  have g4 := T6.out.res.free 4
  generalize wholeB q5.1 q5.2 = wh at *
  have hne := T6.out.ne.1
  have bad : wh = false ∨ ok = false → RES = (sp0, 6) := by
    intro h
    rw [HF.out]
    rcases h with rfl | rfl <;> simp
  cases wh with
  | false =>
    have HBAD := Lib.hid (bad (.inl rfl))
    clear bad
    cases ok
    all_goals
      go_wp2
      refine bodyPost_ret (v := .tuple #[.agg #[.int .i64 0, .int .i64 0, .slice none 0 0, .slice none 0 0, .slice none 0 0], .int .i64 6]) ?_ ?_ ?_
      · exact results_two Tryz.results34 _ _ w.heap.size 38 #[.int .i64 0, .int .i64 0, .slice none 0 0, .slice none 0 0, .slice none 0 0] (0, 0) _ rfl (Blk.fives T6.out.res _ _ _ _ _) Tryz.underlying38 rfl (by kernel_rfl)
      · rfl
      · rw [HBAD.out]
        exact RSnapIs.zero _ _ (below_fives (T6.out.below HG.out) _ _ _ _ _ _ (Nat.le_refl _))
  | true =>
    cases ok with
    | false =>
      have HBAD := Lib.hid (bad (.inr rfl))
      clear bad
      go_wp2
      refine bodyPost_ret (v := .tuple #[.agg #[.int .i64 0, .int .i64 0, .slice none 0 0, .slice none 0 0, .slice none 0 0], .int .i64 6]) ?_ ?_ ?_
      · exact results_two Tryz.results34 _ _ w.heap.size 38 #[.int .i64 0, .int .i64 0, .slice none 0 0, .slice none 0 0, .slice none 0 0] (0, 0) _ rfl (Blk.fives T6.out.res _ _ _ _ _) Tryz.underlying38 rfl (by kernel_rfl)
      · rfl
      · rw [HBAD.out]
        exact RSnapIs.zero _ _ (below_fives (T6.out.below HG.out) _ _ _ _ _ _ (Nat.le_refl _))
    | true =>
      clear bad
      go_wp2
      refine bodyPost_ret (v := .tuple #[.agg #[.int .i64 (v1 : Int), .int .i64 (v2 : Int), .slice VA vn vc, .slice LA ln lc, .slice DA dn dc], .int .i64 0]) ?_ ?_ ?_
      · exact results_two Tryz.results34 _ _ w.heap.size 38 #[.int .i64 (v1 : Int), .int .i64 (v2 : Int), .slice VA vn vc, .slice LA ln lc, .slice DA dn dc] (0, 0) _ rfl (Blk.fives T6.out.res _ _ _ _ _) Tryz.underlying38 rfl (by kernel_rfl)
      · rfl
      · rw [HF.out]
        refine ⟨VA, LA, DA, vc, lc, dc, ?_, ?_, ?_, ?_, below_fives (T6.out.below HG.out) _ _ _ _ _ _ (Nat.le_refl _), (fun a ha => Nat.le_of_lt (Nat.lt_of_lt_of_le HLO.out.2.1 (X1g.out.2 a ha))), (fun a ha => Nat.le_of_lt (Nat.lt_of_lt_of_le HLOB.out.2.1 (X2e.out.2 a ha)))⟩
        · unfold spV snapV
          simp only [Bool.and_self, if_true]
          rw [HVN.out, HLN.out, HDN.out]
        · show RdI _ VA vs.length (ints vs)
          rw [HVN.out]
          exact (X1g.out.fives _ HLO.out.2.1 _ _ _ _ _).1
        · show RdI _ LA ls.length (ints ls)
          rw [HLN.out]
          exact (X2e.out.fives _ HLOB.out.2.1 _ _ _ _ _).1
        · show Rd _ DA ds.length ds
          rw [HDN.out]
          exact Rd.fives HS3.out T6.out.res (nu_int _ _ (by decide)) (nu_int _ _ (by decide)) (nu_sl _ _ _) (nu_sl _ _ _) (nu_sl _ _ _) _ _ _ _ _
end Go.Proofs.YtejphnbhcabchaaGreat.Kp
