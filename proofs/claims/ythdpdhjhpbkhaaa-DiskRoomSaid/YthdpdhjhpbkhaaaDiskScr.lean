/-
  That the law DiskScripts answers true and leaves all memory that was there as it was. Conditions: the acts can be read; the room is an int.
-/
import Derived.Test.YthdpdhjhpbkhaaaDiskAlike
import Derived.Test.YthdpdhjhpbkhaaaDiskLen
namespace Go.Proofs.Ythdpdhjhpbkhaaa.Dk
open Go.RowKit Go.Proofs.Ythdpdhjhpbkhaaa.Fld
set_option linter.unusedVariables false

theorem rda_below {w w' : World} {A : Option Addr} {n : Nat} {l : List Acc} (h : RdA w A n l) (hb : Below w.heap.size w w') (k : Nat) (hk : k < l.length) : ∃ b off, A = some ⟨b, off, none⟩ ∧ w'.cell? ⟨b, off + k * 6, none⟩ = some (.int .i64 l[k].d) ∧ w'.cell? ⟨b, off + k * 6 + 1, none⟩ = some (.string l[k].nm) ∧
    w'.cell? ⟨b, off + k * 6 + 2, none⟩ = some (.string l[k].to) ∧ w'.cell? ⟨b, off + k * 6 + 3, none⟩ = some (.int .i64 l[k].n) ∧ w'.cell? ⟨b, off + k * 6 + 4, none⟩ = some (.slice l[k].BA l[k].bn l[k].bc) ∧ w'.cell? ⟨b, off + k * 6 + 5, none⟩ = some (.slice l[k].KA l[k].kn l[k].kc) := by
  obtain ⟨b, off, e, c0, c1, c2, c3, c4, c5⟩ := h.at6 k hk
  have f : ∀ {a : Addr} {v : Value}, w.cell? a = some v → w'.cell? a = some v := fun hc => (hb.cell (lt_of_cell hc)).trans hc
  exact ⟨b, off, e, f c0, f c1, f c2, f c3, f c4, f c5⟩
def ScR (w : World) (g b r : Nat) (i : Value) (wr : World) : Prop := ∃ (k : Nat) (t : St) (m : List Ent) (lv : Value) (mr : List Ent), k ≤ 300 ∧ i = .int .i64 (k : Int) ∧ Pair w wr g b m t r lv mr t ∧ t.fs.length ≤ k
set_option maxRecDepth 100000 in
set_option maxHeartbeats 6400000 in
theorem scripts_walk (room : Int) (A : Option Addr) (n cap : Nat) (l : List Acc) (w : World) (hr0 : -9223372036854775808 ≤ room) (hr1 : room ≤ 9223372036854775807) (h : RdA w A n l) :
    Calls Try.prog 4 #[.int .i64 room, .slice A n cap] w fun e w' => e = .returned (.bool true) ∧ Below w.heap.size w w' := by
  have HI := Lib.hid h
  have hn := h.2.1
  have HL := Lib.hid h.1
  unfold maxLen at hn
  by_cases hbad : room < 1 ∨ 16777216 < room
  · have HM := Lib.hid (much_any A n cap l w h)
    clear h
    go_enter Try.func4, Try.ntmps4
    go_wp2_with fail
    refine (new_bad room _ hbad).mono ?_
    rintro e w1 ⟨rfl, rfl⟩
    go_wp2_with fail
    refine (rnew_bad room _ hbad).mono ?_
    rintro e w1 ⟨rfl, rfl⟩
    go_wp2_with fail
    refine HM.out.mono ?_
    rintro e w1 ⟨B, rfl, rfl, _⟩
    go_wp2
    go_ret
    exact ⟨rfl, Below.refl _ _⟩
  · obtain ⟨R, rfl⟩ : ∃ R : Nat, room = (R : Int) := ⟨room.toNat, by omega⟩
    have HM := Lib.hid (fun w1 (hb : Below w.heap.size w w1) => much_any A n cap l w1 ⟨h.1, h.2.1, fun hp => by
      obtain ⟨b, off, e, hc⟩ := h.2.2.1 hp
      refine ⟨b, off, e, fun i hi j hj => ?_⟩
      have h1 := hc i hi j hj
      have h2 : ∃ v, l[i].cells[j]? = some v := ⟨_, List.getElem?_eq_getElem (by simp [Acc.cells]; omega)⟩
      obtain ⟨v, hv⟩ := h2
      rw [hv] at h1 ⊢
      exact (hb.cell (lt_of_cell h1)).trans h1, fun a ha => by
      have hok := h.2.2.2 a ha
      exact ⟨hok.nm, hok.to, hok.n, hok.b.below hb, hok.bz, hok.k.fr (S := []) (Fr.below hb) (fun _ _ _ => by simp)⟩⟩)
    clear h
    go_enter Try.func4, Try.ntmps4
    go_wp2_with fail
    refine (new_sn R _ (by omega) (by omega)).mono ?_
    rintro e w1 ⟨b, g, rfl, hsn⟩
    have HSN := Lib.hid hsn
    clear hsn
    go_wp2_with fail
    refine (rnew_rf R _ (by omega) (by omega)).mono ?_
    rintro e w2 ⟨r, rfl, hr, hR, hb2⟩
    have hp := Pair.start HSN.out hr hR hb2
    have HP := Lib.hid hp
    have HM2 := Lib.hid (HM.out w2 hp.sn.2.1)
    clear hr hR hb2 hp HM
    go_wp2_with fail
    refine HM2.out.mono ?_
    rintro e w3 ⟨B, rfl, rfl, hB⟩
    cases B with
    | true =>
      go_wp2
      go_ret
      exact ⟨rfl, HP.out.sn.2.1⟩
    | false =>
      have HB := Lib.hid (hB rfl)
      clear hB HM2
      go_wp2_with fail
      go_loopw [10] (fun i wr => ScR w g b r i wr) (fun i _ => 300 - (intOf i).toNat)
      case atStart => exact ⟨0, st0 R, [], .slice none 0 0, [], by omega, rfl, HP.out, by simp [st0]⟩
      case round =>
        obtain ⟨k, t, m, lv, mr, hk, rfl, hP, hlen⟩ := hrel
        have HPR := Lib.hid hP
        clear hP
        by_cases hlt : k < n ∧ k < 300
        · obtain ⟨hkn, hk3⟩ := hlt
          have hkl : k < l.length := by rw [HL.out]; exact hkn
          obtain ⟨lb, lo, rfl, c0, c1, c2, c3, c4, c5⟩ := rda_below HI.out HPR.out.sn.2.1 k hkl
          have hbn := HB.out k hkl hk3
          have HD := Lib.hid (does_all HPR.out l[k] (HI.out.2.2.2 l[k] (List.getElem_mem hkl)) (by omega) (by omega) (by omega))
          have HSL := Lib.hid (stDo_len l[k] t)
          unfold actV at HD
          generalize l[k] = a at *
          have i1 : (k : Int) < (n : Int) := by omega
          have i2 : (k : Int) < 300 := by omega
          go_wp2_with fail
          refine HD.out.mono ?_
          rintro e w4 ⟨B4, m4, lv4, mr4, rfl, hP4, hB4⟩
          obtain rfl := hB4 trivial
          have HP4 := Lib.hid hP4
          clear hP4 hB4
          have hl4 := HSL.out
          go_wp2_with fail
          refine (alike_any HP4.out (by omega)).mono ?_
          rintro e w5 ⟨rfl, hb5⟩
          have HP5 := Lib.hid (HP4.out.below hb5)
          clear hb5
          go_wp2
          go_roundw
          case rel => exact ⟨k + 1, stDo a t, m4, lv4, mr4, by omega, by go_num, HP5.out, by omega⟩
          case measure => simp [intOf]; omega
        · have hB2 := HPR.out.sn.2.1
          have HB2 := Lib.hid hB2
          clear hB2
          by_cases hkn : k < n
          · have i1 : (k : Int) < (n : Int) := by omega
            have i2 : ¬ (k : Int) < 300 := by omega
            go_wp2
            go_ret
            exact ⟨rfl, HB2.out⟩
          · have i1 : ¬ (k : Int) < (n : Int) := by omega
            go_wp2
            go_ret
            exact ⟨rfl, HB2.out⟩
end Go.Proofs.Ythdpdhjhpbkhaaa.Dk
