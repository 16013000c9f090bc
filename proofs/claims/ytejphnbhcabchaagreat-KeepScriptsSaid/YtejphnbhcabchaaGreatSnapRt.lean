/-
  Layer 7, mathematics: a snapshot that was encoded is read as it was; what is loaded behind a save. No condition but those that each theorem states.
-/
import Derived.Test.YtejphnbhcabchaaGreatKeepCalm
import Derived.Test.YtejphnbhcabchaaGreatSnapH
namespace Go.Proofs.YtejphnbhcabchaaGreat.Kp
open Go.Proofs.YtejphnbhcabchaaGreat.Dk Go.Proofs.YtejphnbhcabchaaGreat.Fld
set_option linter.unusedVariables false

theorem rdTo_shift (q : List Int × Bool) : ∀ k, rdTo q (k + 1) = ((rdN q 15).1 :: (rdTo (rdN q 15).2 k).1, (rdTo (rdN q 15).2 k).2)
  | 0 => rfl
  | k + 1 => by
    rw [rdTo, rdTo_shift q k, rdTo]
    rfl
theorem rdTo_enc : ∀ (l : List Nat) (r : List Int), (∀ m ∈ l, m ≤ 15) → rdTo (enc l ++ r, false) l.length = (l, (r, false))
  | [], r, _ => by simp [enc, rdTo]
  | n :: l, r, h => by
    have h1 := rdN_code n 15 (h n (by simp)) (by omega) (enc l ++ r)
    have h2 := rdTo_enc l r (fun m hm => h m (by simp [hm]))
    rw [List.length_cons, rdTo_shift]
    have e : enc (n :: l) ++ r = code n ++ (enc l ++ r) := by simp [enc]
    rw [e, h1]
    simp only
    rw [h2]
theorem rdLs_enc (l : List Nat) (r : List Int) (hl : l.length ≤ 15) (h : ∀ m ∈ l, m ≤ 15) : rdLs (enc (l.length :: l) ++ r, false) = (l, (r, false)) := by
  unfold rdLs
  have e : enc (l.length :: l) ++ r = code l.length ++ (enc l ++ r) := by simp [enc]
  rw [e, rdN_code l.length 15 hl (by omega)]
  exact rdTo_enc l r h
theorem rdT_code (d : List Int) (r : List Int) (h : d.length ≤ 60000) : rdT (textC d ++ r, false) 60000 = (d, (r, false)) := by
  unfold rdT
  simp only [Bool.false_eq_true, if_false]
  rw [cutText_code d (by omega)]
  simp only
  rw [if_pos h]
theorem sp_nat (x : Sp) (h : x.ok = true) : x.i ≤ 1099511627776 ∧ x.t ≤ 1099511627776 ∧ x.vs.length ≤ 15 ∧ x.ls.length ≤ 15 ∧ (∀ m ∈ x.vs, m ≤ 15) ∧ (∀ m ∈ x.ls, m ≤ 15) ∧ x.ds.length ≤ 60000 := by
  obtain ⟨a, b, v, l, e1, e2, e3, e4, h1, h2, h3, h4, h5, h6, h7⟩ := snap_nat h
  have e3' : x.vs = v := by have := congrArg toNats e3; rwa [toNats_ints, toNats_ints] at this
  have e4' : x.ls = l := by have := congrArg toNats e4; rwa [toNats_ints, toNats_ints] at this
  rw [e3', e4']
  exact ⟨by omega, by omega, h3, h4, h5, h6, h7⟩
theorem decSp_code (x : Sp) (h : x.ok = true) : decSp x.code = (x, 0) := by
  obtain ⟨h1, h2, h3, h4, h5, h6, h7⟩ := sp_nat x h
  have e0 : x.code = code x.i ++ (code x.t ++ (enc (x.vs.length :: x.vs) ++ (enc (x.ls.length :: x.ls) ++ textC x.ds))) := by
    unfold Sp.code snapC
    simp [enc]
  have r1 := rdN_code x.i 1099511627776 h1 (by omega) (code x.t ++ (enc (x.vs.length :: x.vs) ++ (enc (x.ls.length :: x.ls) ++ textC x.ds)))
  have r2 := rdN_code x.t 1099511627776 h2 (by omega) (enc (x.vs.length :: x.vs) ++ (enc (x.ls.length :: x.ls) ++ textC x.ds))
  have r3 := rdLs_enc x.vs (enc (x.ls.length :: x.ls) ++ textC x.ds) h3 h5
  have r4 := rdLs_enc x.ls (textC x.ds) h4 h6
  have r5 := rdT_code x.ds [] h7
  rw [List.append_nil] at r5
  have hr : rdSp x.code = (x, ([], false)) := by
    unfold rdSp
    rw [e0, r1]
    simp only
    rw [r2]
    simp only
    rw [r3]
    simp only
    rw [r4]
    simp only
    rw [r5]
  unfold decSp
  rw [hr]
  simp only
  rw [h]
  rfl
theorem okSnap : okN snapN = true ∧ okN (snapN ++ newE) = true ∧ okN hardN = true ∧ okN (hardN ++ newE) = true := by decide
theorem names_ne : snapN ≠ hardN ∧ snapN ≠ hardN ++ newE ∧ hardN ≠ snapN ∧ hardN ≠ snapN ++ newE := by decide
theorem ldSnap_it {t : St} {x : Sp} {n : Nat} (ho : t.off = false) (hx : x.ok = true) (hg : fget snapN t.fs = some (snapN, Rc.recd x.code, n)) : ldSnap t = (x, 0) := by
  unfold ldSnap
  rw [read_clm ho okSnap.1 hg]
  simp only
  rw [if_neg (by decide), if_neg (by simp), single_recd _ (by have := code_len_le x hx; omega)]
  exact decSp_code x hx
theorem ldHard_it {t : St} {a b n : Nat} (ho : t.off = false) (ha : a ≤ 1099511627776) (hb : b ≤ 15) (hg : fget hardN t.fs = some (hardN, Rc.recd (hardC a b), n)) : ldHard t = (((a : Int), (b : Int)), 0) := by
  unfold ldHard
  rw [read_clm ho okSnap.2.2.1 hg]
  simp only
  rw [if_neg (by decide), if_neg (by simp), single_recd _ (by have := hardC_len a b ha hb; omega)]
  exact decHard_code a b ha hb
theorem recd_bytes_ok {c : List Int} (h : Bytes c) : ∀ z ∈ Rc.recd c, 0 ≤ z ∧ z ≤ 255 := Rc.recd_bytes h
theorem enc_bytes : ∀ (l : List Nat), (∀ m ∈ l, m < 18446744073709551616) → Bytes (enc l)
  | [], _ => fun c hc => by simp [enc] at hc
  | n :: l, h => by
    have e : enc (n :: l) = code n ++ enc l := by simp [enc]
    rw [e]
    exact bytes_append (code_bytes n (h n (by simp))) (enc_bytes l (fun m hm => h m (by simp [hm])))
theorem hardC_bytes (a b : Nat) (ha : a ≤ 1099511627776) (hb : b ≤ 15) : Bytes (hardC a b) := bytes_append (code_bytes a (by omega)) (code_bytes b (by omega))
theorem code_bytes_sp (x : Sp) (h : x.ok = true) (hd : Bytes x.ds) : Bytes x.code := by
  obtain ⟨h1, h2, h3, h4, h5, h6, h7⟩ := sp_nat x h
  unfold Sp.code snapC textC
  refine bytes_append (enc_bytes _ (by simp; omega)) (bytes_append (enc_bytes _ ?_) (bytes_append (enc_bytes _ ?_) (bytes_append (code_bytes _ (by omega)) hd)))
  · intro m hm
    rcases List.mem_cons.1 hm with rfl | hm
    · omega
    · have := h5 m hm; omega
  · intro m hm
    rcases List.mem_cons.1 hm with rfl | hm
    · omega
    · have := h6 m hm; omega
theorem hard_writes {t : St} {a b : Int} (hG : Dk.Good t) (hC : Clm t) (hok : hardOk a b = true) (hr : total t.fs + 26 ≤ t.room) : ∃ t', stHard a b t = (0, t') ∧ Wrote hardN (Rc.recd (hardC a.toNat b.toNat)) t t' ∧ total t'.fs ≤ total t.fs + 26 := by
  obtain ⟨m, n, rfl, rfl, hm, hn⟩ := hard_nat hok
  rw [Int.toNat_natCast, Int.toNat_natCast]
  have hl := hardC_len m n hm hn
  have hl2 := Rc.recd_len (hardC m n)
  obtain ⟨t', e, hW⟩ := write_clm hG hC okSnap.2.2.1 okSnap.2.2.2 (recd_bytes_ok (hardC_bytes m n hm hn)) (by omega)
  refine ⟨t', ?_, hW, by have := hW.tot; omega⟩
  unfold stHard
  rw [if_pos hok, Int.toNat_natCast, Int.toNat_natCast]
  exact e
theorem snap_writes {t : St} {x : Sp} (hG : Dk.Good t) (hC : Clm t) (hok : x.ok = true) (hd : Bytes x.ds) (hr : total t.fs + 60508 ≤ t.room) : ∃ t', stSnap x t = (0, t') ∧ Wrote snapN (Rc.recd x.code) t t' ∧ total t'.fs ≤ total t.fs + 60508 := by
  have hl := code_len_le x hok
  have hl2 := Rc.recd_len x.code
  obtain ⟨t', e, hW⟩ := write_clm hG hC okSnap.1 okSnap.2.1 (recd_bytes_ok (code_bytes_sp x hok hd)) (by omega)
  refine ⟨t', ?_, hW, by have := hW.tot; omega⟩
  unfold stSnap
  rw [if_pos hok]
  exact e
end Go.Proofs.YtejphnbhcabchaaGreat.Kp
