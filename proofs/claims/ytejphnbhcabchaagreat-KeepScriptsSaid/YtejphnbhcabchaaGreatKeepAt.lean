/-
  Layer 7, mathematics: whenever the power goes while a hard state and then a snapshot are saved, what is loaded behind the crash is what was, or what was to be. No condition but those that each theorem states.
-/
import Derived.Test.YtejphnbhcabchaaGreatKeepArm
import Derived.Test.YtejphnbhcabchaaGreatKeepSnaps
namespace Go.Proofs.YtejphnbhcabchaaGreat.Kp
open Go.RowKit Go.Proofs.YtejphnbhcabchaaGreat.Dk Go.Proofs.YtejphnbhcabchaaGreat.Fld
set_option linter.unusedVariables false

def isF (x : Nm) (z : List Int) (t : St) : Prop := fget x t.fs = some (x, z, z.length)
/-- which of the two saves were done, and what the files are -/
def Fin3 (zh bh zs bs : List Int) (e1 e2 : Int) (t : St) : Prop := (e1 = 5 ∧ e2 = 5 ∧ isF hardN zh t ∧ isF snapN zs t) ∨ (e1 = 0 ∧ e2 = 5 ∧ isF hardN bh t ∧ isF snapN zs t) ∨ (e1 = 0 ∧ e2 = 0 ∧ isF hardN bh t ∧ isF snapN bs t)
theorem at_first {t : St} {p q : Int} {zh zs : List Int} (hG : Dk.Good t) (hO : On t) (hok : hardOk p q = true) (hh : isF hardN zh t) (hs : isF snapN zs t) (hr : total t.fs + 26 ≤ t.room) :
    ∃ e1 u, stHard p q t = (e1, u) ∧ u.room = t.room ∧ total u.fs ≤ total t.fs + 26 ∧ u.fs.length ≤ t.fs.length + 3 ∧ isF snapN zs u ∧ ((e1 = 0 ∧ On u ∧ isF hardN (Rc.recd (hardC p.toNat q.toNat)) u) ∨ (e1 = 5 ∧ u.off = true ∧ isF hardN zh u)) := by
  obtain ⟨m, n, rfl, rfl, hm, hn⟩ := hard_nat hok
  rw [Int.toNat_natCast, Int.toNat_natCast]
  have hl := hardC_len m n hm hn
  have hl2 := Rc.recd_len (hardC m n)
  obtain ⟨e, u, e1, hT⟩ := write_arm hG hO okSnap.2.2.1 okSnap.2.2.2 hh (recd_bytes_ok (hardC_bytes m n hm hn)) (by omega)
  have hlen := write_le hardN (Rc.recd (hardC m n)) t
  rw [e1] at hlen
  refine ⟨e, u, ?_, hT.room, by have := hT.tot; omega, hlen, ?_, hT.how⟩
  · unfold stHard
    rw [if_pos hok, Int.toNat_natCast, Int.toNat_natCast]
    exact e1
  · unfold isF
    rw [hT.oth snapN names_ne.1 names_ne.2.1]
    exact hs
theorem at_second {t : St} {x : Sp} {zh bh zs : List Int} {e1 : Int} (hG : Dk.Good t) (hx : x.ok = true) (hd : Bytes x.ds) (hs : isF snapN zs t) (hr : total t.fs + 60508 ≤ t.room) (how : (e1 = 0 ∧ On t ∧ isF hardN bh t) ∨ (e1 = 5 ∧ t.off = true ∧ isF hardN zh t)) :
    ∃ e2 u, stSnap x t = (e2, u) ∧ u.fs.length ≤ t.fs.length + 3 ∧ Fin3 zh bh zs (Rc.recd x.code) e1 e2 u := by
  have e0 : stSnap x t = stWrite snapN (Rc.recd x.code) t := by unfold stSnap; rw [if_pos hx]
  rw [e0]
  rcases how with ⟨h1, h2, h3⟩ | ⟨h1, h2, h3⟩
  · have hl := code_len_le x hx
    have hl2 := Rc.recd_len x.code
    obtain ⟨e, u, e2, hT⟩ := write_arm hG h2 okSnap.1 okSnap.2.1 hs (recd_bytes_ok (code_bytes_sp x hx hd)) (by omega)
    have hlen := write_le snapN (Rc.recd x.code) t
    rw [e2] at hlen
    have hh : isF hardN bh u := by
      unfold isF
      rw [hT.oth hardN names_ne.2.2.1 names_ne.2.2.2]
      exact h3
    refine ⟨e, u, e2, hlen, ?_⟩
    rcases hT.how with ⟨k1, _, k3⟩ | ⟨k1, _, k3⟩
    · exact .inr (.inr ⟨h1, k1, hh, k3⟩)
    · exact .inr (.inl ⟨h1, k1, hh, k3⟩)
  · rw [write_off h2 okSnap.2.1]
    exact ⟨5, t, rfl, by omega, .inl ⟨h1, rfl, h3, hs⟩⟩
theorem at_end {t : St} {ks : List Int} {pa qa pb qb : Int} {x y : Sp} {e1 e2 : Int} (hG : Dk.Good (stCrash ks t)) (ha : hardOk pa qa = true) (hb : hardOk pb qb = true) (hx : x.ok = true) (hy : y.ok = true)
    (h : Fin3 (Rc.recd (hardC pa.toNat qa.toNat)) (Rc.recd (hardC pb.toNat qb.toNat)) (Rc.recd x.code) (Rc.recd y.code) e1 e2 t) :
    ∃ hp hq z, ldHard (stCrash ks t) = ((hp, hq), 0) ∧ ldSnap (stCrash ks t) = (z, 0) ∧ ((e1 = 5 ∧ e2 = 5 ∧ hp = pa ∧ hq = qa ∧ z = x) ∨ (e1 = 0 ∧ e2 = 5 ∧ hp = pb ∧ hq = qb ∧ z = x) ∨ (e1 = 0 ∧ e2 = 0 ∧ hp = pb ∧ hq = qb ∧ z = y)) := by
  have lh : ∀ p q : Int, hardOk p q = true → isF hardN (Rc.recd (hardC p.toNat q.toNat)) t → ldHard (stCrash ks t) = ((p, q), 0) := by
    intro p q hok hf
    obtain ⟨m, n, rfl, rfl, hm, hn⟩ := hard_nat hok
    rw [Int.toNat_natCast, Int.toNat_natCast] at hf
    exact ldHard_it rfl hm hn (crash_whole ks hf hG)
  have lsn : ∀ z : Sp, z.ok = true → isF snapN (Rc.recd z.code) t → ldSnap (stCrash ks t) = (z, 0) := fun z hz hf => ldSnap_it rfl hz (crash_whole ks hf hG)
  rcases h with ⟨h1, h2, h3, h4⟩ | ⟨h1, h2, h3, h4⟩ | ⟨h1, h2, h3, h4⟩
  · exact ⟨pa, qa, x, lh _ _ ha h3, lsn _ hx h4, .inl ⟨h1, h2, rfl, rfl, rfl⟩⟩
  · exact ⟨pb, qb, x, lh _ _ hb h3, lsn _ hx h4, .inr (.inl ⟨h1, h2, rfl, rfl, rfl⟩)⟩
  · exact ⟨pb, qb, y, lh _ _ hb h3, lsn _ hy h4, .inr (.inr ⟨h1, h2, rfl, rfl, rfl⟩)⟩
end Go.Proofs.YtejphnbhcabchaaGreat.Kp
