/-
  Layer 11: states of a peer as pure functions, and that each call keeps them right. Conditions: as each theorem states.
-/
namespace Go.Proofs.Ytfifimgmgmckfaa.Pg
set_option linter.unusedVariables false

structure St where
  state : Int
  mt : Int
  nx : Int
  win : Int
  wt : Bool
  fl : List Int
  sp : Int
structure St.Ok (s : St) : Prop where
  st : s.state = 0 ∨ s.state = 1 ∨ s.state = 2
  m0 : 0 ≤ s.mt
  mn : s.mt < s.nx
  nM : s.nx ≤ 1099511627776
  w1 : 1 ≤ s.win
  w2 : s.win ≤ 64
  fl : (s.fl.length : Int) ≤ s.win
  sp0 : 0 ≤ s.sp
  spM : s.sp ≤ 1099511627775
def okI (i : Int) : Bool := decide (0 ≤ i) && decide (i < 1099511627776)
theorem okI_iff (i : Int) : okI i = true ↔ 0 ≤ i ∧ i < 1099511627776 := by simp [okI]
def okNew (next window : Int) : Bool := decide (1 ≤ next) && decide (next ≤ 1099511627776) && decide (1 ≤ window) && decide (window ≤ 64)
theorem okNew_iff (n k : Int) : okNew n k = true ↔ (1 ≤ n ∧ n ≤ 1099511627776) ∧ 1 ≤ k ∧ k ≤ 64 := by simp [okNew, and_assoc]
def newS (next window : Int) : St := ⟨0, 0, next, window, false, [], 0⟩
theorem newS_ok {n k : Int} (h : okNew n k = true) : (newS n k).Ok := by
  have := (okNew_iff n k).1 h
  constructor <;> simp [newS] <;> omega
def may (s : St) : Bool := if s.state = 0 then !s.wt else if s.state = 1 then decide ((s.fl.length : Int) < s.win) else false
def enterS (s : St) (t : Int) : St := { s with state := t, wt := false, fl := [], sp := 0 }
def probeS (s : St) (n : Int) : St := { s with state := 0, wt := false, fl := [], sp := 0, nx := n }
theorem enterS_ok {s : St} (h : s.Ok) {t : Int} (ht : t = 0 ∨ t = 1 ∨ t = 2) : (enterS s t).Ok := by
  obtain ⟨h1, h2, h3, h4, h5, h6, h7, h8, h9⟩ := h
  constructor <;> simp [enterS] <;> omega
theorem probeS_ok {s : St} (h : s.Ok) {n : Int} (hn : s.mt < n) (hM : n ≤ 1099511627776) : (probeS s n).Ok := by
  obtain ⟨h1, h2, h3, h4, h5, h6, h7, h8, h9⟩ := h
  constructor <;> simp [probeS] <;> omega
def sentOk (s : St) (last : Int) : Bool := may s && decide (s.nx - 1 ≤ last) && okI last
def sentS (s : St) (last : Int) : St :=
  if sentOk s last = true then (if s.state = 0 then { s with wt := true } else if s.nx ≤ last then { s with nx := last + 1, fl := s.fl ++ [last] } else s) else s
def sentE (s : St) (last : Int) : Int := if sentOk s last = true then 0 else 7
theorem sentS_ok {s : St} (h : s.Ok) (last : Int) : (sentS s last).Ok := by
  unfold sentS
  split
  · rename_i ho
    simp only [sentOk, Bool.and_eq_true, decide_eq_true_eq, okI_iff] at ho
    obtain ⟨⟨hm, h0⟩, h1, h2⟩ := ho
    obtain ⟨k1, k2, k3, k4, k5, k6, k7, k8, k9⟩ := h
    split
    · exact ⟨k1, k2, k3, k4, k5, k6, k7, k8, k9⟩
    · rename_i hs
      split
      · unfold may at hm
        rw [if_neg hs] at hm
        split at hm
        · constructor <;> simp at * <;> omega
        · cases hm
      · exact ⟨k1, k2, k3, k4, k5, k6, k7, k8, k9⟩
  · exact h
theorem sentS_mt (s : St) (last : Int) : (sentS s last).mt = s.mt ∧ (sentS s last).win = s.win := by
  unfold sentS; split
  · split
    · exact ⟨rfl, rfl⟩
    · split <;> exact ⟨rfl, rfl⟩
  · exact ⟨rfl, rfl⟩
def upTo (l : List Int) (i : Int) : Nat := (l.takeWhile (fun x => decide (x ≤ i))).length
theorem upTo_le (l : List Int) (i : Int) : upTo l i ≤ l.length := by
  unfold upTo
  exact (List.takeWhile_sublist _).length_le
def ackB (s : St) (i : Int) : Bool := okI i && decide (s.mt < i)
def ackM (s : St) (i : Int) : St := { s with mt := max s.mt i, nx := max s.nx (max s.mt i + 1) }
def ackS (s : St) (i : Int) : St :=
  if okI i = true then (if s.state = 0 then enterS (ackM s i) 1 else if s.state = 1 then { ackM s i with fl := s.fl.drop (upTo s.fl i) } else if s.sp ≤ i then probeS (ackM s i) (ackM s i).nx else ackM s i) else s
theorem ackM_ok {s : St} (h : s.Ok) {i : Int} (hi : okI i = true) : (ackM s i).Ok := by
  have := (okI_iff i).1 hi
  obtain ⟨h1, h2, h3, h4, h5, h6, h7, h8, h9⟩ := h
  constructor <;> simp only [ackM] <;> omega
theorem ackS_ok {s : St} (h : s.Ok) (i : Int) : (ackS s i).Ok := by
  unfold ackS
  split
  · rename_i hi
    have hm := ackM_ok h hi
    split
    · exact enterS_ok hm (by omega)
    split
    · obtain ⟨h1, h2, h3, h4, h5, h6, h7, h8, h9⟩ := hm
      refine ⟨h1, h2, h3, h4, h5, h6, ?_, h8, h9⟩
      have : s.fl.length ≤ (ackM s i).fl.length := Nat.le_refl _
      simp only [List.length_drop]
      omega
    split
    · exact probeS_ok hm hm.mn hm.nM
    · exact hm
  · exact h
theorem ackS_mt (s : St) (i : Int) : s.mt ≤ (ackS s i).mt ∧ (ackS s i).win = s.win := by
  have hm : s.mt ≤ max s.mt i := by omega
  unfold ackS
  split
  · split
    · exact ⟨hm, rfl⟩
    split
    · exact ⟨hm, rfl⟩
    split
    · exact ⟨hm, rfl⟩
    · exact ⟨hm, rfl⟩
  · exact ⟨Int.le_refl _, rfl⟩
def hintOf (hint : Int) : Int := if hint < 0 ∨ 1099511627776 < hint then 0 else hint
def refB (s : St) (at' : Int) : Bool := (decide (s.state = 0) && decide (at' = s.nx - 1)) || (decide (s.state = 1) && decide (s.mt < at'))
def refS (s : St) (at' hint : Int) : St :=
  if s.state = 0 ∧ at' = s.nx - 1 then probeS s (max (min at' (hintOf hint + 1)) (s.mt + 1)) else if s.state = 1 ∧ s.mt < at' then probeS s (s.mt + 1) else s
theorem refS_ok {s : St} (h : s.Ok) (at' hint : Int) : (refS s at' hint).Ok := by
  unfold refS
  have := h.mn
  have := h.nM
  split
  · exact probeS_ok h (by omega) (by omega)
  split
  · exact probeS_ok h (by omega) (by omega)
  · exact h
theorem refS_mt (s : St) (at' hint : Int) : (refS s at' hint).mt = s.mt ∧ (refS s at' hint).win = s.win := by
  unfold refS; split
  · exact ⟨rfl, rfl⟩
  split <;> exact ⟨rfl, rfl⟩
def beatS (s : St) : St := if s.state = 0 then { s with wt := false } else if s.state = 1 ∧ (s.fl.length : Int) = s.win then { s with fl := s.fl.drop 1 } else s
theorem beatS_ok {s : St} (h : s.Ok) : (beatS s).Ok := by
  obtain ⟨h1, h2, h3, h4, h5, h6, h7, h8, h9⟩ := h
  unfold beatS; split
  · exact ⟨h1, h2, h3, h4, h5, h6, h7, h8, h9⟩
  split
  · refine ⟨h1, h2, h3, h4, h5, h6, ?_, h8, h9⟩
    simp only [List.length_drop]
    omega
  · exact ⟨h1, h2, h3, h4, h5, h6, h7, h8, h9⟩
theorem beatS_mt (s : St) : (beatS s).mt = s.mt ∧ (beatS s).win = s.win := by
  unfold beatS; split
  · exact ⟨rfl, rfl⟩
  split <;> exact ⟨rfl, rfl⟩
def insE (i : Int) : Int := if okI i = true then 0 else 1
def insS (s : St) (i : Int) : St := if okI i = true then { enterS s 2 with sp := i } else s
theorem insS_ok {s : St} (h : s.Ok) (i : Int) : (insS s i).Ok := by
  unfold insS; split
  · rename_i hi
    have := (okI_iff i).1 hi
    obtain ⟨h1, h2, h3, h4, h5, h6, h7, h8, h9⟩ := enterS_ok h (t := 2) (by omega)
    exact ⟨h1, h2, h3, h4, h5, h6, h7, this.1, by show i ≤ _; omega⟩
  · exact h
theorem insS_mt (s : St) (i : Int) : (insS s i).mt = s.mt ∧ (insS s i).win = s.win := by unfold insS; split <;> exact ⟨rfl, rfl⟩
def ovN (s : St) (ok : Bool) : Int := if ok = true then max (s.mt + 1) (s.sp + 1) else s.mt + 1
def ovS (s : St) (ok : Bool) : St := if s.state = 2 then probeS s (ovN s ok) else s
theorem ovN_in {s : St} (h : s.Ok) (ok : Bool) : s.mt < ovN s ok ∧ ovN s ok ≤ 1099511627776 := by
  obtain ⟨h1, h2, h3, h4, h5, h6, h7, h8, h9⟩ := h
  unfold ovN; split <;> omega
theorem ovS_ok {s : St} (h : s.Ok) (ok : Bool) : (ovS s ok).Ok := by
  unfold ovS; split
  · exact probeS_ok h (ovN_in h ok).1 (ovN_in h ok).2
  · exact h
theorem ovS_mt (s : St) (ok : Bool) : (ovS s ok).mt = s.mt ∧ (ovS s ok).win = s.win := by unfold ovS; split <;> exact ⟨rfl, rfl⟩
end Go.Proofs.Ytfifimgmgmckfaa.Pg
