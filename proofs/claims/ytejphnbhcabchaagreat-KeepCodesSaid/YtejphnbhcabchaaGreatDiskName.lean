/-
  Which names the program, and the document, take for valid. Conditions: the names can be read in memory.
-/
import Derived.Test.YtejphnbhcabchaaGreatDiskBase
import Derived.Test.YtejphnbhcabchaaGreatDiskMath
namespace Go.Proofs.YtejphnbhcabchaaGreat.Dk
open Go.RowKit Go.Proofs.YtejphnbhcabchaaGreat.Fld

def okI (c : Int) : Bool := (decide (97 ≤ c) && decide (c ≤ 122)) || (decide (48 ≤ c) && decide (c ≤ 57)) || decide (c = 46) || decide (c = 45)
theorem okI_cast (c : UInt8) : okI (c.toNat : Int) = okC c := by
  unfold okI okC
  have e1 : (decide ((97 : Int) ≤ (c.toNat : Int))) = decide (97 ≤ c.toNat) := decide_eq_decide.2 (by omega)
  have e2 : (decide ((c.toNat : Int) ≤ 122)) = decide (c.toNat ≤ 122) := decide_eq_decide.2 (by omega)
  have e3 : (decide ((48 : Int) ≤ (c.toNat : Int))) = decide (48 ≤ c.toNat) := decide_eq_decide.2 (by omega)
  have e4 : (decide ((c.toNat : Int) ≤ 57)) = decide (c.toNat ≤ 57) := decide_eq_decide.2 (by omega)
  have e5 : (decide ((c.toNat : Int) = 46)) = decide (c.toNat = 46) := decide_eq_decide.2 (by omega)
  have e6 : (decide ((c.toNat : Int) = 45)) = decide (c.toNat = 45) := decide_eq_decide.2 (by omega)
  rw [e1, e2, e3, e4, e5, e6]
set_option maxHeartbeats 1600000 in
theorem sign_any (c : Int) (w : World) : Calls Tryz.prog 116 #[.int .u8 c] w fun e w' => e = .returned (.bool (okI c)) ∧ w = w' := by
  have e5 : (c == 46) = decide (c = 46) := rfl
  have e6 : (c == 45) = decide (c = 45) := rfl
  unfold okI
  cases d1 : decide (97 ≤ c) <;> cases d2 : decide (c ≤ 122) <;> cases d3 : decide (48 ≤ c) <;> cases d4 : decide (c ≤ 57) <;> cases d5 : decide (c = 46) <;> cases d6 : decide (c = 45) <;> (first | (exfalso; simp at d1 d2 d3 d4 d5 d6; omega) | skip)
  all_goals
    rw [d5] at e5
    rw [d6] at e6
    go_enter Tryz.func116, Tryz.ntmps116
    go_wp2
    go_ret
    exact ⟨rfl, rfl⟩

theorem all_take_succ (x : Nm) (k : Nat) (c : UInt8) (h : x[k]? = some c) : (x.take (k + 1)).all okC = ((x.take k).all okC && okC c) := by
  rw [List.take_add_one, h]
  simp
theorem all_false (x : Nm) (k : Nat) (c : UInt8) (h : x[k]? = some c) (hc : okC c = false) : okN x = false := by
  have : x.all okC = false := by
    rw [List.all_eq_false]
    exact ⟨c, List.mem_of_getElem? h, by simp [hc]⟩
  simp [okN, this]
theorem okN_eq (x : Nm) (h : x.all okC = true) : okN x = (decide (1 ≤ x.length) && decide (x.length ≤ 64)) := by simp [okN, h]
theorem len_data (s : ByteArray) : s.data.toList.length = s.size := by simp
theorem at_data (s : ByteArray) (k : Nat) (h : k < s.size) : s.data.toList[k]? = some s[k] := by
  rw [Array.getElem?_toList]
  exact Array.getElem?_eq_getElem h
set_option maxRecDepth 100000 in
set_option maxHeartbeats 3200000 in
theorem isname_any (s : ByteArray) (w : World) (hs : s.size ≤ maxLen) : Calls Tryz.prog 86 #[.string s] w fun e w' => e = .returned (.bool (okN s.data.toList)) ∧ w = w' := by
  unfold maxLen at hs
  obtain ⟨B, hB⟩ : ∃ B, okN s.data.toList = B := ⟨_, rfl⟩
  have HB := Lib.hid hB
  rw [hB]
  clear hB
  go_enter Tryz.func86, Tryz.ntmps86
  go_wp2
  go_loop [3] (fun i => ∃ k : Nat, k ≤ s.size ∧ i = .int .i64 k ∧ (s.data.toList.take k).all okC = true) (fun i => s.size - (intOf i).toNat)
  case atStart => exact ⟨0, Nat.zero_le _, rfl, rfl⟩
  case round =>
    obtain ⟨k, hk, rfl, hall⟩ := hrel
    have HA := Lib.hid hall
    clear hall
    by_cases hlt : k < s.size
    · have HD := Lib.hid (at_data s k hlt)
      obtain ⟨u, hu⟩ : ∃ u : UInt8, s[k] = u := ⟨_, rfl⟩
      have HC := Lib.hid (okI_cast u)
      rw [hu] at HD
      obtain ⟨c, hc⟩ : ∃ c : Int, (u.toNat : Int) = c := ⟨_, rfl⟩
      rw [hc] at HC
      have e5 : (c == 46) = decide (c = 46) := rfl
      have e6 : (c == 45) = decide (c = 45) := rfl
      unfold okI at HC
      cases d1 : decide (97 ≤ c) <;> cases d2 : decide (c ≤ 122) <;> cases d3 : decide (48 ≤ c) <;> cases d4 : decide (c ≤ 57) <;> cases d5 : decide (c = 46) <;> cases d6 : decide (c = 45) <;> (first | (exfalso; simp at d1 d2 d3 d4 d5 d6; omega) | skip)
      all_goals
        rw [d5] at e5
        rw [d6] at e6
        rw [d1, d2, d3, d4, d5, d6] at HC
        clear d5 d6
        go_wp2
        first
        | (go_roundw
           case rel => exact ⟨k + 1, by omega, by go_num, by rw [all_take_succ _ k u HD.out, HA.out, ← HC.out]; rfl⟩
           case measure => simp [intOf]; omega)
        | (go_ret; exact ⟨by rw [← HB.out, all_false _ k u HD.out HC.out.symm]; rfl, rfl⟩)
    · obtain rfl : k = s.size := by omega
      have h2 := HB.out
      rw [okN_eq _ (by have := HA.out; rwa [← len_data, List.take_length] at this), len_data] at h2
      have j1 : decide ((1 : Int) ≤ (s.size : Int)) = decide (1 ≤ s.size) := decide_eq_decide.2 (by omega)
      have j2 : decide ((s.size : Int) ≤ 64) = decide (s.size ≤ 64) := decide_eq_decide.2 (by omega)
      cases d1 : decide (1 ≤ s.size) <;> cases d2 : decide (s.size ≤ 64) <;> rw [d1, d2] at h2 <;> subst h2 <;> rw [d1] at j1 <;> rw [d2] at j2
      all_goals
        go_wp2
        go_ret
        exact ⟨rfl, rfl⟩

/-- a slice of strings -/
def RdS (w : World) (A : Option Addr) (n : Nat) (ss : List ByteArray) : Prop :=
  ss.length = n ∧ n ≤ 1000000000 ∧ (0 < n → ∃ b off, A = some ⟨b, off, none⟩ ∧ ∀ i, i < n → w.cell? ⟨b, off + i, none⟩ = some (.string (ss.getD i ⟨#[]⟩)))
def allN (ss : List ByteArray) : Bool := ss.all fun s => okN s.data.toList
theorem allN_succ (ss : List ByteArray) (k : Nat) (h : k < ss.length) : allN (ss.take (k + 1)) = (allN (ss.take k) && okN (ss.getD k ⟨#[]⟩).data.toList) := by
  unfold allN
  rw [List.getD_eq_getElem?_getD, List.getElem?_eq_getElem h, Option.getD_some, List.take_add_one, List.getElem?_eq_getElem h, List.all_append]
  simp
theorem allN_false (ss : List ByteArray) (k : Nat) (h : k < ss.length) (hf : okN (ss.getD k ⟨#[]⟩).data.toList = false) : allN ss = false := by
  unfold allN
  rw [List.all_eq_false]
  exact ⟨ss.getD k ⟨#[]⟩, by rw [List.getD_eq_getElem?_getD, List.getElem?_eq_getElem h]; simp, by rw [hf]; simp⟩
theorem short_false (x : Nm) (h : x.length < 1 ∨ 64 < x.length) : okN x = false := by
  unfold okN
  rcases h with h | h
  · rw [show decide (1 ≤ x.length) = false from decide_eq_false (by omega)]; rfl
  · rw [show decide (x.length ≤ 64) = false from decide_eq_false (by omega)]; simp
theorem okN_true (x : Nm) (h1 : 1 ≤ x.length) (h2 : x.length ≤ 64) (h : x.all okC = true) : okN x = true := by
  rw [okN_eq x h]; simp; omega
set_option maxRecDepth 100000 in
set_option maxHeartbeats 3200000 in
theorem valid_any (A : Option Addr) (n cap : Nat) (ss : List ByteArray) (w : World) (hr : RdS w A n ss) : Calls Tryz.prog 84 #[.slice A n cap] w fun e w' => e = .returned (.bool (allN ss)) ∧ w = w' := by
  obtain ⟨hl, hm, hc⟩ := hr
  obtain ⟨B, hB⟩ : ∃ B, allN ss = B := ⟨_, rfl⟩
  have HB := Lib.hid hB
  have HL := Lib.hid hl
  have HC := Lib.hid hc
  rw [hB]
  clear hB hl hc
  go_enter Tryz.func84, Tryz.ntmps84
  go_wp2
  go_loop [8] (fun i => ∃ k : Nat, k ≤ n ∧ i = .int .i64 k ∧ allN (ss.take k) = true) (fun i => n - (intOf i).toNat)
  case atStart => exact ⟨0, Nat.zero_le _, rfl, rfl⟩
  case round =>
    obtain ⟨k, hk, rfl, hall⟩ := hrel
    have HA := Lib.hid hall
    clear hall
    by_cases hlt : k < n
    · obtain ⟨b, off, rfl, hcell⟩ := HC.out (by omega)
      have hc := hcell k hlt
      clear hcell
      have HS := Lib.hid (allN_succ ss k (by rw [HL.out]; exact hlt))
      have HF := Lib.hid (allN_false ss k (by rw [HL.out]; exact hlt))
      generalize ss.getD k ⟨#[]⟩ = s at *
      by_cases h1 : s.size < 1
      · have j1 : decide ((s.size : Int) < 1) = true := by simp; omega
        go_wp2
        go_ret
        exact ⟨by rw [← HB.out, HF.out (short_false _ (.inl (by rw [len_data]; exact h1)))]; rfl, rfl⟩
      · have j1 : decide ((s.size : Int) < 1) = false := by simp; omega
        by_cases h2 : 64 < s.size
        · have j2 : decide (64 < (s.size : Int)) = true := by simp; omega
          go_wp2
          go_ret
          exact ⟨by rw [← HB.out, HF.out (short_false _ (.inr (by rw [len_data]; exact h2)))]; rfl, rfl⟩
        · have j2 : decide (64 < (s.size : Int)) = false := by simp; omega
          go_wp2
          go_loop [22] (fun i => ∃ j : Nat, j ≤ s.size ∧ i = .int .i64 j ∧ (s.data.toList.take j).all okC = true) (fun i => s.size - (intOf i).toNat)
          case atStart => exact ⟨0, Nat.zero_le _, rfl, rfl⟩
          case round =>
            obtain ⟨j, hj, rfl, hall2⟩ := hrel
            have HA2 := Lib.hid hall2
            clear hall2
            by_cases hlt2 : j < s.size
            · have HD := Lib.hid (at_data s j hlt2)
              obtain ⟨u, hu⟩ : ∃ u : UInt8, s[j] = u := ⟨_, rfl⟩
              have HO := Lib.hid (okI_cast u)
              rw [hu] at HD
              obtain ⟨c, hc⟩ : ∃ c : Int, (u.toNat : Int) = c := ⟨_, rfl⟩
              rw [hc] at HO
              have hsg := Lib.hid (sign_any c w)
              cases ho : okI c <;> rw [ho] at HO hsg
              · go_wp2_with (go_at_call 116; refine hsg.out.mono ?_; rintro e w' ⟨rfl, rfl⟩)
                go_ret
                exact ⟨by rw [← HB.out, HF.out (all_false _ j u HD.out HO.out.symm)]; rfl, rfl⟩
              · go_wp2_with (go_at_call 116; refine hsg.out.mono ?_; rintro e w' ⟨rfl, rfl⟩)
                go_roundw
                case rel => exact ⟨j + 1, by omega, by go_num, by rw [all_take_succ _ j u HD.out, HA2.out, ← HO.out]; rfl⟩
                case measure => simp [intOf]; omega
            · obtain rfl : j = s.size := by omega
              have HT := Lib.hid (okN_true s.data.toList (by rw [len_data]; omega) (by rw [len_data]; omega) (by have := HA2.out; rwa [← len_data, List.take_length] at this))
              go_wp2
              go_roundw
              case rel => exact ⟨k + 1, by omega, by go_num, by rw [HS.out, HA.out, HT.out]; rfl⟩
              case measure => simp [intOf]; omega
    · obtain rfl : k = n := by omega
      have HT := Lib.hid (show B = true by rw [← HB.out]; have := HA.out; rwa [← HL.out, List.take_length] at this)
      go_wp2
      go_ret
      exact ⟨by rw [HT.out]; rfl, rfl⟩
end Go.Proofs.YtejphnbhcabchaaGreat.Dk
