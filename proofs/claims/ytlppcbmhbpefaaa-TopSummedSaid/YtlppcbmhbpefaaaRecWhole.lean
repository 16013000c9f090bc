/-
  What the statements' own function whole answers for whatever list of bytes: the records one behind the other, and where each ends; or that it is too much. Conditions: the list can be read.
-/
import Derived.Test.YtlppcbmhbpefaaaRecSame
namespace Go.Proofs.Ytlppcbmhbpefaaa.Rc
open Go.RowKit
open Fld (Bytes val Rd RdL)
set_option linter.unusedVariables false

/-- where each record ends -/
def endOf (ls : List (List Int)) (j : Nat) : Nat := (recs (ls.take (j + 1))).length
def endsV (ls : List (List Int)) (k : Nat) : List Value := (List.range k).map fun j => .int .i64 ((endOf ls j : Nat) : Int)
theorem endsV_succ (ls : List (List Int)) (k : Nat) : endsV ls (k + 1) = endsV ls k ++ [.int .i64 ((endOf ls k : Nat) : Int)] := by simp [endsV, List.range_succ]
theorem endsV_len (ls : List (List Int)) (k : Nat) : (endsV ls k).length = k := by simp [endsV]
theorem int_info : ∃ i, Try.prog.info? 3 = some i ∧ i.zero = some (.int .i64 0) ∧ i.size = 1 ∧ i.bytes = 8 := by
  have h : (Try.prog.info? 3).map (fun i => (i.zero, i.size, i.bytes)) = some (some (.int .i64 0), 1, 8) := by kernel_rfl
  cases hq : Try.prog.info? 3 with
  | none => simp [hq] at h
  | some i => simp [hq] at h; exact ⟨i, rfl, h⟩
/-- two rows of unlike types do not share a block -/
theorem rows_apart {W : World} {e e' : TypeId} (hne : e ≠ e') {base base' s s' k k' : Nat} {v v' : Value} {xs xs' : List Value} (h : W.ownsRow base e s v k xs) (h' : W.ownsRow base' e' s' v' k' xs') : v'.ownBlock = none ∨ v'.ownBlock ≠ v.ownBlock := by
  rcases h'.2 with ⟨rfl, _⟩ | ⟨g', cap', cur', rfl, _, hgb', _⟩
  · exact .inl rfl
  · refine .inr ?_
    rcases h.2 with ⟨rfl, _⟩ | ⟨g, cap, cur, rfl, _, hgb, _⟩
    · simp [Value.ownBlock]
    · intro eq
      obtain rfl : g' = g := by simpa [Value.ownBlock] using eq
      rw [hgb] at hgb'
      simp at hgb'
      exact hne hgb'.2
/-- append of one number to a row of numbers -/
theorem wpList_append_int {w : World} {ops : Array Oper} {rest : List Oper} {o : Oper} {a : Act} {Q : Exit → Act → World → Prop} (hgd : o.guard = none) (s x : Operand)
    (ho : o.op = .call { callee := .builtin .append, args := #[s, x], argTypes := #[32, 32] })
    (base : Nat) (v : Value) (k : Nat) (vs : List Value) (z : Int) (hs : a.eval s = v) (hown : w.ownsRow base 3 1 v k vs) (g : Nat) (hx : a.eval x = .slice (some ⟨g, 0, none⟩) 1 1) (hc : w.cell? ⟨g, 0, none⟩ = some (.int .i64 z))
    (hk : k + 1 ≤ 1099511627776) (hb : base ≤ w.heap.size)
    (h : ∀ v' w', w'.ownsRow base 3 1 v' (k + 1) (vs ++ [.int .i64 z]) → w.grownBy w' v.ownBlock → wpList Try.prog ops Q rest (a.put o.dst v') w') : wpList Try.prog ops Q (o :: rest) a w := by
  obtain ⟨i, hi, hz, hsz, hby⟩ := int_info
  refine wpList_append_own_at w hgd s x _ ho base 3 i _ 1 8 Try.underlying32 hi hz hsz hby rfl (by omega) v k vs hs hown ⟨g, 0, none⟩ 1 1 [.int .i64 z] hx rfl ?_ ?_ (by unfold maxLen; omega) (by omega) hb ?_
  · intro j u hu
    rcases j with _ | j
    · simp at hu; subst hu; exact hc
    · simp at hu
  · intro u hu; simp at hu; subst hu; rfl
  · intro v' w' h1 h2 _ _
    exact h v' w' h1 h2
theorem row_below {W W' : World} {base e s k : Nat} {v : Value} {vs : List Value} (h : W.ownsRow base e s v k vs) (hO : Below W.heap.size W W') : W'.ownsRow base e s v k vs := by
  obtain ⟨h1, h2⟩ := h
  refine ⟨h1, ?_⟩
  rcases h2 with h2 | ⟨g, cap, cur, e, h3, h4, h5⟩
  · exact .inl h2
  · exact .inr ⟨g, cap, cur, e, h3, (hO.block g (Array.getElem?_eq_some_iff.1 h4).1).trans h4, h5⟩
theorem own_kept {w0 W W' : World} {row : Option Nat} {v : Value} {zs : List Int} (h : Fld.Own w0 W v zs) (hg : W.grownBy W' row) (hr : v.ownBlock = none ∨ v.ownBlock ≠ row) (hb : ∀ r, row = some r → w0.heap.size ≤ r) : Fld.Own w0 W' v zs :=
  ⟨h.1.grown hg h.1.size hb, h.2.1, h.2.2.kept hg hr⟩
theorem row_base {W : World} {base e s k : Nat} {v : Value} {vs : List Value} (h : W.ownsRow base e s v k vs) : ∀ r, v.ownBlock = some r → base ≤ r := by
  intro r hr
  rcases h.2 with ⟨rfl, _⟩ | ⟨g, cap, cur, rfl, hg, _⟩
  · simp [Value.ownBlock] at hr
  · simp [Value.ownBlock] at hr; omega

def WhR (w : World) (ls : List (List Int)) (M : Nat) (v u i : Value) (wr : World) : Prop := ∃ k : Nat, k ≤ M ∧ i = .int .i64 (k : Int) ∧ Small (ls.take k) ∧ (recs (ls.take k)).length ≤ 565544 ∧ Fld.Own w wr v (recs (ls.take k)) ∧ wr.ownsRow w.heap.size 3 1 u k (endsV ls k)
def IsWhole (w : World) (ls : List (List Int)) (e : Ending) (w' : World) : Prop :=
  (∃ v u, e = .returned (.tuple #[v, u, .bool true]) ∧ Small ls ∧ (recs ls).length ≤ 565544 ∧ Fld.Own w w' v (recs ls) ∧ w'.ownsRow w.heap.size 3 1 u ls.length (endsV ls ls.length)) ∨
  (e = .returned (.tuple #[.slice none 0 0, .slice none 0 0, .bool false]) ∧ Below w.heap.size w w' ∧ ¬ (Small ls ∧ (recs ls).length ≤ 500000))
theorem whole_neg1 (ls : List (List Int)) (k : Nat) (hk : k < ls.length) (h : 65536 < (ls.getD k []).length) : ¬ (Small ls ∧ (recs ls).length ≤ 500000) := by
  rintro ⟨hs, _⟩
  have := hs (ls.getD k []) (by rw [List.getD_eq_getElem?_getD, List.getElem?_eq_getElem hk]; simp)
  omega
theorem whole_neg2 (ls : List (List Int)) (k : Nat) (h : 500000 < (recs (ls.take k)).length) : ¬ (Small ls ∧ (recs ls).length ≤ 500000) := by
  rintro ⟨_, hl⟩
  rw [recs_split ls k, List.length_append] at hl
  omega
set_option maxRecDepth 100000 in
set_option maxHeartbeats 1600000 in
theorem whole_any (A : Option Addr) (M c : Nat) (ls : List (List Int)) (w : World) (hq : RdL w A M ls) : Calls Try.prog 17 #[.slice A M c] w (IsWhole w ls) := by
  have hm := hq.2.1
  unfold maxLen at hm
  have HQ := Lib.hid hq
  have HL := Lib.hid hq.1
  clear hq
  go_enter Try.func17, Try.ntmps17
  go_wp2_with fail
  go_loopw [5, 6, 7] (fun v u i wr => WhR w ls M v u i wr) (fun _ _ i _ => M - (intOf i).toNat)
  case atStart => exact ⟨0, by omega, rfl, by rw [List.take_zero]; exact small_nil, by rw [List.take_zero]; simp [recs], by rw [List.take_zero]; exact Fld.Own.nil w w (Below.refl _ _), World.ownsRow_nil _ _ _ _⟩
  case round =>
    obtain ⟨k, hk, rfl, hsm, hre, hO, hrow⟩ := hrel
    have HSM := Lib.hid hsm
    have HRE := Lib.hid hre
    have HO := Lib.hid hO
    have HROW := Lib.hid hrow
    clear hsm hre hO hrow
    obtain ⟨A5, c5, h5, hs5, _⟩ := HO.out.sl _ rfl
    subst h5
    clear hs5
    generalize hR : (recs (ls.take k)).length = R at *
    have HR := Lib.hid hR
    clear hR
    by_cases hlt : k < M
    · obtain ⟨b, off, A1, n1, c1, rfl, g1, r1, hA1⟩ := rdl_at (HQ.out.below HO.out.1) k hlt
      have HR1 := Lib.hid r1
      have HA1 := Lib.hid hA1
      have HN1 := Lib.hid r1.1
      have HM1 := Lib.hid r1.2.1
      clear r1 hA1
      have hkl : k < ls.length := by rw [HL.out]; exact hlt
      have HKL := Lib.hid hkl
      clear hkl
      by_cases hbig : 65536 < n1
      · go_wp2_with fail
        refine (put_big A1 n1 c1 _ hbig HM1.out).mono ?_
        rintro e w1 ⟨rfl, rfl⟩
        go_wp2
        go_ret3
        exact .inr ⟨rfl, HO.out.1, whole_neg1 ls k HKL.out (by rw [HN1.out]; exact hbig)⟩
      · go_wp2_with fail
        refine (put_ok A1 n1 c1 _ _ HR1.out HA1.out (by omega)).mono ?_
        rintro e w1 ⟨v1, rfl, hO1⟩
        have HTK := Lib.hid (recs_take ls k HKL.out)
        have HLN := Lib.hid (show (recd (ls.getD k [])).length = 8 + n1 by rw [recd_len, HN1.out])
        obtain ⟨A2, c2, hv2, hs2, _⟩ := hO1.sl (8 + n1) HLN.out
        subst hv2
        have HS2 := Lib.hid hs2
        have HOa := Lib.hid (HO.out.below hO1.1)
        have HROWa := Lib.hid (row_below HROW.out hO1.1)
        clear hs2 hO1 g1
        generalize hT : ls.getD k [] = t at *
        have HT := Lib.hid hT
        clear hT
        by_cases h500 : 500000 < R
        · have h5i : (500000 : Int) < (R : Int) := by omega
          go_wp2
          go_ret3
          exact .inr ⟨rfl, HOa.out.1, whole_neg2 ls k (by rw [HR.out]; exact h500)⟩
        · have h5i : (R : Int) ≤ 500000 := by omega
          go_wp2_with (refine Fld.wpList_append_rd rfl _ _ rfl w (.slice A5 R c5) (recs (ls.take k)) rfl HOa.out A2 (8 + n1) c2 (recd t) rfl HS2.out.2.2.2.1 HS2.out.1 (by rw [HR.out]; omega) ?_)
          intro v3 w3 hO3 hg3 _
          rw [← HTK.out] at hO3
          have HLE := Lib.hid (show (recs (ls.take (k + 1))).length = R + (8 + n1) by rw [HTK.out, List.length_append, HR.out, HLN.out])
          obtain ⟨A3, c3, hv3, hs3, _⟩ := hO3.sl (R + (8 + n1)) HLE.out
          subst hv3
          have HO3 := Lib.hid hO3
          have HROW3 := Lib.hid (HROWa.out.kept hg3 (rows_apart (by decide) HOa.out.2.2 HROWa.out))
          clear hs3 hO3 hg3
          have hk2 : 8 * k ≤ R := by have := recs_ge (ls.take k); rw [HR.out, List.length_take] at this; have := HKL.out; omega
          have HEV := Lib.hid (endsV_succ ls k)
          have HEO := Lib.hid (show ((endOf ls k : Nat) : Int) = (R : Int) + (8 + (n1 : Int)) by rw [endOf, HLE.out]; omega)
          have HSS := Lib.hid (show Small (ls.take (k + 1)) by rw [List.take_succ_eq_append_getElem HKL.out]; exact small_snoc HSM.out (by have h1 := HN1.out; have h2 := HT.out; rw [List.getD_eq_getElem?_getD, List.getElem?_eq_getElem HKL.out] at h2; simp at h2; rw [h2]; omega))
          have hw3 : w.heap.size ≤ w3.heap.size := HO3.out.1.size
          go_wp2_with (refine wpList_append_int rfl _ _ rfl w.heap.size u6 k (endsV ls k) ((R : Int) + (8 + (n1 : Int))) rfl (row_below HROW3.out ((Below.refl _ _).alloc (Nat.le_refl _) _)) w3.heap.size rfl (by simp) (by omega) (by simp; omega) ?_)
          intro v4 w4 hrow4 hg4
          rw [← HEO.out, ← HEV.out] at hrow4
          have HROW4 := Lib.hid hrow4
          have HO4 := Lib.hid (own_kept (HO3.out.alloc _) hg4 (rows_apart (by decide) HROW3.out HO3.out.2.2) (row_base HROW3.out))
          clear hrow4 hg4
          go_wp2
          go_roundw
          case rel => exact ⟨k + 1, by omega, by go_num, HSS.out, by rw [HLE.out]; omega, HO4.out, HROW4.out⟩
          case measure => simp [intOf]; omega
    · obtain rfl : k = M := by omega
      have HTA := Lib.hid (show ls.take k = ls by rw [← HL.out, List.take_length])
      have HRX := Lib.hid (show (recs ls).length = R by rw [← HR.out, HTA.out])
      rw [HTA.out] at HSM HO
      go_wp2
      go_ret3
      exact .inl ⟨_, _, rfl, HSM.out, by rw [HRX.out]; exact HRE.out, HO.out, by rw [HL.out]; exact HROW.out⟩
end Go.Proofs.Ytlppcbmhbpefaaa.Rc
