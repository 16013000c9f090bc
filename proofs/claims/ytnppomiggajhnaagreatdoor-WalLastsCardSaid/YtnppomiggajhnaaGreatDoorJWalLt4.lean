/-
  Several texts in one: Layer 6: the logs that a Cut or a Reset asks for. Conditions: the log and the step can be read. Layer 6: Append and Sync over a disk that is on, as the laws call them. Conditions: the Wal and its disk lie in memory (WmX), above all that was there. The plain mathematics of layer 6: bytes on the disk, whatever fails; what each method leaves of the logs that a crash may show. Conditions: as each theorem states. The plain mathematics of layer 6: a log on a disk that may fail: what each method leaves of the logs that a crash may show, and of the bytes. Conditions: as each theorem states. Layer 6: the law's list of logs in memory, beside a Wal. Conditions: as each theorem states. Layer 6: what the law's steps make of a Wal that goes on or is broken, and of the logs that a crash may show. Conditions: as each theorem states.
-/
import Derived.Test.YtnppomiggajhnaaGreatDoorJWalSam
import Derived.Test.YtnppomiggajhnaaGreatDoorJWalRse
import Derived.Test.YtnppomiggajhnaaGreatDoorJWalIny
namespace Go.Proofs.YtnppomiggajhnaaGreatDoor.Wl
open Go.RowKit Go.Proofs.YtnppomiggajhnaaGreatDoor.Fld
set_option linter.unusedVariables false

theorem run_uptoE (A : Option Addr) (n cap k : Nat) (hA : A = none → cap = 0) (hk : k ≤ cap) (hc : cap ≤ maxLen) (W : World) : (Instr.slice 42 (.slice A n cap) none (some (.int .i64 (k : Int))) none).run Tryz.prog W = .ok (.slice A k cap) W := by
  unfold maxLen at hc
  cases A with
  | some a =>
    have h1 : (0 : Int) ≤ (k : Int) := by omega
    have h3 : (k : Int) ≤ (cap : Int) := by omega
    go_simp
  | none =>
    obtain rfl := hA rfl
    obtain rfl : k = 0 := by omega
    go_simp
theorem RdX.take {w : World} {A : Option Addr} {n : Nat} {l : List XE} (h : RdX w A n l) (k : Nat) (hk : k ≤ n) : RdX w A k (l.take k) := by
  have hl := h.1
  refine ⟨by rw [List.length_take]; omega, by have := h.2.1; omega, fun hp => ?_, fun x hx => h.2.2.2 x (List.mem_of_mem_take hx)⟩
  obtain ⟨b, off, hA, hc⟩ := h.2.2.1 (by omega)
  refine ⟨b, off, hA, fun i hi j hj => ?_⟩
  rw [List.length_take] at hi
  rw [List.getElem_take]
  exact hc i (by omega) j hj
theorem step_append_rowL {w : World} {ops : Array Oper} {o : Oper} {a : Act} {K : Act → World → Prop} {Q : Exit → Act → World → Prop} {E : Prop} (hgd : o.guard = none) (s x : Operand)
    (ho : o.op = .call { callee := .builtin .append, args := #[s, x], argTypes := #[53, 53] })
    (lo : Nat) (v : Value) (n : Nat) (xs : List Value) (hs : a.eval s = v) (hown : w.ownsRow lo 52 2 v n xs)
    (ad : Addr) (m c : Nat) (ys : List LX) (hx : a.eval x = .slice (some ad) m c) (hl : ys.length = m) (hr : ∀ j u, (rowL ys)[j]? = some u → w.cell? (ad.add j) = some u) (hb : n + m ≤ 2000000) (hlo : lo ≤ w.heap.size)
    (h : ∀ v' w', w'.ownsRow lo 52 2 v' (n + m) (xs ++ rowL ys) → w.grownBy w' v.ownBlock → (v'.ownBlock = v.ownBlock ∨ v'.ownBlock = some w.heap.size) → K (a.put o.dst v') w') :
    if Region.wanted o (yielded ops a.tmps) = true then Oper.wp Tryz.prog o a w K Q else E := by
  have hw : Region.wanted o (yielded ops a.tmps) = true := by simp [Region.wanted, hgd]
  rw [if_pos hw]
  obtain ⟨v', w', hrun, h1, h2, h3⟩ := run_append_rowL w o.type lo v n xs hown ad m c ys hl hr hb hlo
  unfold Oper.wp execOp
  simp only [ho, resolve, invoke, builtin, Sem.run_bind, Sem.run_pure, Result.andThen_ok, List.map_toArray, List.map_cons, List.map_nil, hs, hx, hrun]
  exact h v' w' h1 h2 h3
/-- a log in a block of its own -/
theorem one_log (w : World) (g : LX) : ∀ (j : Nat) (u : Value), (rowL [g])[j]? = some u → (w.alloc (.cells #[.int .i64 g.base, .slice g.A g.n g.cap] 52)).cell? (Addr.add ⟨w.heap.size, 0, none⟩ j) = some u := fun j u hu => by
  have hk8 := Blk.new w #[.int .i64 g.base, .slice g.A g.n g.cap] 52
  rw [add_atB, Nat.zero_add]
  rcases j with _ | _ | j
  · cases hu; exact hk8.cell 0 _ rfl
  · cases hu; exact hk8.cell 1 _ rfl
  · simp [rowL, LX.cells] at hu
theorem LatIs.emp (g : LX) (S : List XE) (w w' : World) (hb : Below w.heap.size w w') : LatIs g S [] w (.returned (.slice none 0 0)) w' := ⟨_, [], rfl, ⟨by simp [rowL], .inl ⟨rfl, rfl⟩⟩, by simp, rfl, hb⟩
theorem LatIs.one {w w' : World} {v : Value} {g0 g : LX} {S : List XE} (hr : w'.ownsRow w.heap.size 52 2 v 1 (rowL [g])) (hg : g.At w') (hb : Below w.heap.size w w') (hA : 0 < g.n → ∀ a, g.A = some a → g0.A = some a ∧ 0 < g0.n) (hy : ∀ y ∈ g.ls, y ∈ g0.ls) : LatIs g0 S [g.q] w (.returned v) w' := ⟨v, [g], rfl, hr, fun z hz => by simp at hz; subst hz; exact ⟨hg, fun hp a ha => .inr (hA hp a ha), fun y h => .inl (hy y h)⟩, rfl, hb⟩
section
variable (g : LX) (s : Stp) (w : World)
/-- the world in which later begins -/
def ltW : World := (w.alloc (.cells #[.int .i64 g.base, .slice g.A g.n g.cap] 52)).alloc (.cells #[.int .i64 s.d, .int .i64 s.N, .int .i64 s.M, .slice s.A s.n s.c, .slice s.KA s.kn s.kc] 45)
theorem ltW_is : Below w.heap.size w (ltW g s w) ∧ Blk (ltW g s w) w.heap.size #[.int .i64 g.base, .slice g.A g.n g.cap] 52 ∧ Blk (ltW g s w) (w.heap.size + 1) #[.int .i64 s.d, .int .i64 s.N, .int .i64 s.M, .slice s.A s.n s.c, .slice s.KA s.kn s.kc] 45 := by
  refine ⟨(alloc_below' w _).trans ((alloc_below' (w.alloc (.cells #[.int .i64 g.base, .slice g.A g.n g.cap] 52)) _).mono (alloc_below' w _).size), (Blk.new w #[.int .i64 g.base, .slice g.A g.n g.cap] 52).past _, ?_⟩
  have h := Blk.new (w.alloc (.cells #[.int .i64 g.base, .slice g.A g.n g.cap] 52)) #[.int .i64 s.d, .int .i64 s.N, .int .i64 s.M, .slice s.A s.n s.c, .slice s.KA s.kn s.kc] 45
  rw [show (w.alloc (.cells #[.int .i64 g.base, .slice g.A g.n g.cap] 52)).heap.size = w.heap.size + 1 by simp] at h
  exact h
end
set_option maxRecDepth 100000 in
theorem later_none (g : LX) (s : Stp) (w : World) (hd : s.d < 0) : Calls Tryz.prog 26 #[g.val, s.val] w (LatIs g s.ls [] w) := by
  obtain ⟨hb, hk1, hk2⟩ := ltW_is g s w
  have HB := Lib.hid hb
  have c0 := hk2.cell 0 (.int .i64 s.d) rfl
  unfold ltW at HB c0
  unfold Stp.val LX.val
  have e0 : ¬ s.d = 0 := by omega
  have e1 : ¬ s.d = 1 := by omega
  have e2 : ¬ s.d = 2 := by omega
  clear hb hk1 hk2
  go_enter Tryz.func26, Tryz.ntmps26
  go_wp2
  go_ret
  exact LatIs.emp _ _ _ _ HB.out
set_option maxRecDepth 100000 in
set_option maxHeartbeats 1600000 in
theorem later_reset (g : LX) (s : Stp) (w : World) (hd : s.d = 2) (h1 : 1 ≤ s.N) (h2 : s.N ≤ 1099511627776) : Calls Tryz.prog 26 #[g.val, s.val] w (LatIs g s.ls [(s.N - 1, [])] w) := by
  obtain ⟨hb, hk1, hk2⟩ := ltW_is g s w
  have c0 := hk2.cell 0 (.int .i64 s.d) rfl
  have c1 := hk2.cell 1 (.int .i64 s.N) rfl
  have HB := Lib.hid hb
  have HRN := Lib.hid (show ∀ W : World, W.ownsRow w.heap.size 52 2 (.slice none 0 0) 0 (rowL []) from fun W => ⟨by simp [rowL], .inl ⟨rfl, rfl⟩⟩)
  have HOL := Lib.hid (one_log (ltW g s w) ⟨s.N - 1, none, 0, 0, []⟩)
  have hsz : (ltW g s w).heap.size = w.heap.size + 1 + 1 := by unfold ltW; simp
  rw [hsz] at HOL
  have HLO := Lib.hid (show w.heap.size ≤ ((ltW g s w).alloc (.cells #[.int .i64 (s.N - 1), .slice none 0 0] 52)).heap.size from by simp [hsz]; omega)
  simp only at HOL
  rw [hd] at c0
  unfold ltW at HB c0 c1 HOL HLO
  unfold Stp.val LX.val
  clear hb hk1 hk2 hsz
  rw [hd] at HB c0 c1 HOL HLO ⊢
  clear hd
  go_enter Tryz.func26, Tryz.ntmps26
  have d1 : decide (1 ≤ s.N) = true := decide_eq_true h1
  have d2 : decide (s.N ≤ 1099511627776) = true := decide_eq_true h2
  go_wp2_with (refine wpList_append_rowL rfl _ _ rfl w.heap.size _ 0 (rowL []) rfl (HRN.out _) ⟨w.heap.size + 1 + 1, 0, none⟩ 1 1 [⟨s.N - 1, none, 0, 0, []⟩] rfl rfl HOL.out (by omega) HLO.out ?_)
  intro v1 w1 hO1 hg1 _
  have HO1 := Lib.hid hO1
  have HG1 := Lib.hid hg1
  clear hO1 hg1
  go_wp2
  go_ret
  have h0 : (0 : Nat) ≤ maxLen := Nat.zero_le _
  refine LatIs.one (g := ⟨s.N - 1, none, 0, 0, []⟩) HO1.out ⟨⟨rfl, h0, fun h => absurd h (Nat.lt_irrefl 0), fun x hx => absurd hx (by simp)⟩, Nat.le_refl _, h0, fun _ => rfl⟩ ?_ ?_ ?_
  · exact (HB.out.alloc HB.out.size _).grown HG1.out (by have := HB.out.size; simp; omega) (fun i hi => by cases hi)
  · exact fun hp => absurd hp (Nat.lt_irrefl 0)
  · exact fun y hy => absurd hy (by simp)
/-- the logs that a Cut asks for -/
def latC (g : LX) (N : Int) : List (Int × List (Int × Int × Int × List Int)) := if N ≤ g.base + g.n then [(g.base, (g.ls.take (N - 1 - g.base).toNat).map XE.q)] else []
set_option maxRecDepth 100000 in
set_option maxHeartbeats 6400000 in
theorem later_cut (g : LX) (s : Stp) (w : World) (hg : g.At w) (hd : s.d = 1) (hb : 0 ≤ g.base ∧ g.base ≤ 1099511627776) (hn : g.n ≤ 1000000) (h1 : g.base < s.N) (h2 : s.N ≤ 1099511627777) : Calls Tryz.prog 26 #[g.val, s.val] w (LatIs g s.ls (latC g s.N) w) := by
  obtain ⟨hbl, hk1, hk2⟩ := ltW_is g s w
  have c0 := hk2.cell 0 (.int .i64 s.d) rfl
  have c1 := hk2.cell 1 (.int .i64 s.N) rfl
  have g0 := hk1.cell 0 (.int .i64 g.base) rfl
  have g1 := hk1.cell 1 (.slice g.A g.n g.cap) rfl
  have HB := Lib.hid hbl
  have HK1 := Lib.hid hk1
  have HK2 := Lib.hid hk2
  have HG := Lib.hid hg
  have hsz : (ltW g s w).heap.size = w.heap.size + 1 + 1 := by unfold ltW; simp
  have HSZ := Lib.hid hsz
  have HLA := Lib.hid (fun (W : World) => llast_any g W ⟨by omega, hb.2⟩ hn)
  obtain ⟨b0, b1⟩ := hb
  have HDW := Lib.hid ((Below.refl (ltW g s w).heap.size (ltW g s w)).drew)
  unfold ltW at c0 c1 g0 g1 HB HK1 HK2 HSZ HDW
  unfold Stp.val LX.val
  unfold LX.val at HLA
  clear hbl hk1 hk2 hsz hg
  rw [hd] at c0 c1 g0 g1 HB HK1 HK2 HSZ HDW ⊢
  clear hd
  go_enter Tryz.func26, Tryz.ntmps26
  have d1 : decide (g.base < s.N) = true := decide_eq_true h1
  go_wp2_with fail
  generalize hwb : (w.alloc (.cells #[.int .i64 g.base, .slice g.A g.n g.cap] 52)).alloc (.cells #[.int .i64 1, .int .i64 s.N, .int .i64 s.M, .slice s.A s.n s.c, .slice s.KA s.kn s.kc] 45) = wb at *
  clear hwb
  go_region_held3 (fun w' => w'.cell? ⟨w.heap.size, 0, none⟩ = some (.int .i64 g.base) ∧ w'.cell? ⟨w.heap.size, 1, none⟩ = some (.slice g.A g.n g.cap) ∧ w'.cell? ⟨w.heap.size + 1, 1, none⟩ = some (.int .i64 s.N)) (first | exact ⟨by assumption, by assumption, by assumption⟩ | go_keep) ((first
    | (go_at_call 31; refine (HLA.out _).mono ?_; rintro e w3 ⟨rfl, hb3⟩; have HB3 := Lib.hid (HDW.out.trans hb3); have y0 := (HK1.out.below HB3.out).cell 0 (.int .i64 g.base) rfl; have y1 := (HK1.out.below HB3.out).cell 1 (.slice g.A g.n g.cap) rfl; have y3 := (HK2.out.below HB3.out).cell 1 (.int .i64 s.N) rfl; clear hb3)))
  all_goals
    by_cases hle : s.N ≤ g.base + (g.n : Int)
    · have HC := Lib.hid (show latC g s.N = [(g.base, (g.ls.take (s.N - 1 - g.base).toNat).map XE.q)] from if_pos hle)
      obtain ⟨k, hk⟩ : ∃ k : Nat, s.N - 1 - g.base = (k : Int) := ⟨(s.N - 1 - g.base).toNat, by omega⟩
      have z1 : IntKind.i64.wrap (s.N - 1) = s.N - 1 := IntWalk.i64_in _ (by omega)
      have z2 : IntKind.i64.wrap (s.N - 1 - g.base) = (k : Int) := (IntWalk.i64_in _ (by omega)).trans hk
      have hkn : k ≤ g.n := by omega
      have HKN := Lib.hid hkn
      have HK := Lib.hid hk
      have hsl := run_uptoE g.A g.n g.cap k HG.out.nil (by have := HG.out.le; omega) HG.out.most
      have HRN := Lib.hid (show ∀ W : World, W.ownsRow w.heap.size 52 2 (.slice none 0 0) 0 (rowL []) from fun W => ⟨by simp [rowL], .inl ⟨rfl, rfl⟩⟩)
      have HOL := Lib.hid (show ∀ (j : Nat) (u : Value), (rowL [⟨g.base, g.A, k, g.cap, g.ls.take k⟩])[j]? = some u → ((w3.alloc (.cells #[.int .i64 g.base, .slice g.A k g.cap] 52)).drew).cell? (Addr.add ⟨w3.heap.size, 0, none⟩ j) = some u from one_log w3 ⟨g.base, g.A, k, g.cap, g.ls.take k⟩)
      have HLO := Lib.hid (show w.heap.size ≤ ((w3.alloc (.cells #[.int .i64 g.base, .slice g.A k g.cap] 52)).drew).heap.size from by
        have h3 := (HB.out.trans (HB3.out.mono HB.out.size)).size
        show w.heap.size ≤ (w3.alloc _).heap.size
        simp
        omega)
      clear hk hkn
      go_wp2_with fail
      go_region_law ((first
        | (refine step_append_rowL rfl _ _ rfl w.heap.size _ 0 (rowL []) rfl (HRN.out _) ⟨w3.heap.size, 0, none⟩ 1 1 [⟨g.base, g.A, k, g.cap, g.ls.take k⟩] rfl rfl HOL.out (by omega) HLO.out ?_; intro v6 w6 hO6 hg6 _; have HO6 := Lib.hid hO6; have HG6 := Lib.hid hg6; clear hO6 hg6)))
      all_goals
        go_wp2
        go_ret
        rw [HC.out, HK.out, Int.toNat_natCast]
        have hbw := (((HB.out.trans (HB3.out.mono HB.out.size)).alloc (HB.out.trans (HB3.out.mono HB.out.size)).size (.cells #[.int .i64 g.base, .slice g.A k g.cap] 52)).drew).grown HG6.out (by exact HLO.out) (fun i hi => by cases hi)
        exact LatIs.one (g := ⟨g.base, g.A, k, g.cap, g.ls.take k⟩) HO6.out ⟨(HG.out.rd.take k HKN.out).below hbw, by have := HG.out.le; have := HKN.out; simp only; omega, HG.out.most, HG.out.nil⟩ hbw (fun hp a ha => ⟨ha, Nat.lt_of_lt_of_le hp HKN.out⟩) (fun y hy => List.mem_of_mem_take hy)
    · have HC := Lib.hid (show latC g s.N = [] from if_neg hle)
      go_wp2
      go_ret
      rw [HC.out]
      exact LatIs.emp _ _ _ _ (HB.out.trans (HB3.out.mono HB.out.size))
end Go.Proofs.YtnppomiggajhnaaGreatDoor.Wl

namespace Go.Proofs.YtnppomiggajhnaaGreatDoor.Wl
open Go.RowKit Go.Proofs.YtnppomiggajhnaaGreatDoor.Fld
set_option linter.unusedVariables false

theorem cost_x (l : List XE) : cost (l.map XE.e) = 88 * l.length + dsum l := by
  unfold cost dsum
  induction l with
  | nil => rfl
  | cons x l ih =>
    simp only [List.map_cons, List.sum_cons, List.length_cons] at ih ⊢
    rw [ih]
    show 88 + x.d.length + _ = _
    omega
/-- a Wal and its disk, above all that was there -/
def Wa (w0 : World) (W g b lim : Nat) (w : World) (c : Ct) (t : Dk.St) : Prop := (∃ m ve vs xs, WmX w0.heap.size W g b lim m ve vs xs w c t) ∧ Below w0.heap.size w0 w
theorem Wa.below {w0 w w' : World} {W g b lim : Nat} {c : Ct} {t : Dk.St} (h : Wa w0 W g b lim w c t) (hb : Below w.heap.size w w') : Wa w0 W g b lim w' c t := by
  obtain ⟨⟨m, ve, vs, xs, hX⟩, hB⟩ := h
  exact ⟨⟨m, ve, vs, xs, hX.below hb⟩, hB.trans (hb.mono hB.size)⟩
theorem Wa.of {w0 w w' : World} {W g b lim : Nat} {F F' : List Nat} {c : Ct} {t : Dk.St} (hB : Below w0.heap.size w0 w) (hF : ∀ i ∈ F, w0.heap.size ≤ i) (h : WmS w0.heap.size W g b lim F' w' c t) (hf : Dk.Fr F w w') : Wa w0 W g b lim w' c t := by
  obtain ⟨m, ve, vs, xs, hX, _⟩ := h
  exact ⟨⟨m, ve, vs, xs, hX⟩, hf.to_below hB hF⟩
/-- the bytes of entries that came in lie below -/
theorem RdX.low {w0 : World} {A : Option Addr} {n : Nat} {l : List XE} (h : RdX w0 A n l) : ∀ x ∈ l, 0 < x.d.length → ∀ a, x.A = some a → a.block < w0.heap.size := by
  intro x hx hp a ha
  obtain ⟨b, off, hA, hc⟩ := (h.2.2.2 x hx).1.2.2.2 hp
  rw [hA] at ha
  cases ha
  exact lt_of_cell (hc 0 hp)
/-- what Append answers and leaves -/
def AppB (w0 : World) (W g b lim R T : Nat) (P : Lg → Prop) (l : List XE) (c : Ct) (t : Dk.St) (e : Ending) (w' : World) : Prop :=
  ∃ (z : Int) (c' : Ct) (t' : Dk.St), e = .returned (.int .i64 z) ∧ Wa w0 W g b lim w' c' t' ∧
    ((z = 1 ∧ c' = c ∧ t' = t) ∨ (z = 7 ∧ c' = c ∧ t' = t) ∨ (z = 0 ∧ (∀ x ∈ l, okX x = true) ∧ c'.lg = addAll c.lg (l.map XE.e) ∧ Cm R (T + cost (l.map XE.e)) (fun g => P g ∨ ∃ i, i ≤ l.length ∧ g = addAll c.lg ((l.map XE.e).take i)) c' t'))
theorem app_cm {w0 w : World} {W g b lim R T : Nat} {P : Lg → Prop} {c : Ct} {t : Dk.St} (h : Wa w0 W g b lim w c t) (hc : Cm R T P c t) (hT : T ≤ 400000) (hes : c.lg.es.length ≤ 1000000) (A : Option Addr) (n cap : Nat) (l : List XE) (hr : RdX w A n l) (hn : n ≤ 100000) (hlow : ∀ x ∈ l, 0 < x.d.length → ∀ a, x.A = some a → a.block < w0.heap.size) (hcost : (∀ x ∈ l, okX x = true) → T + cost (l.map XE.e) ≤ R) :
    Calls Tryz.prog 21 #[.pointer (some ⟨W, 0, none⟩), .slice A n cap] w (AppB w0 W g b lim R T P l c t) := by
  obtain ⟨⟨m, ve, vs, xs, hX⟩, hB⟩ := h
  obtain ⟨k1, L, S, k2, k3, k4⟩ := hc.few
  refine (wappend_any hX k2 (by omega) (by omega) (by omega) hes A n cap l hr hn (fun x hx hp a ha hm => by have := hlow x hx hp a ha; have := hX.low _ hm; omega)).mono ?_
  rintro e w' (⟨_, rfl, hb⟩ | ⟨_, _, rfl, hb⟩ | ⟨hok, hseq, rfl, hq⟩)
  · exact ⟨1, c, t, rfl, (Wa.below ⟨⟨m, ve, vs, xs, hX⟩, hB⟩ hb), .inl ⟨rfl, rfl, rfl⟩⟩
  · exact ⟨7, c, t, rfl, (Wa.below ⟨⟨m, ve, vs, xs, hX⟩, hB⟩ hb), .inr (.inl ⟨rfl, rfl, rfl⟩)⟩
  · have hEO : ∀ e ∈ l.map XE.e, e.Ok := by
      intro e he
      obtain ⟨x, hx, rfl⟩ := List.mem_map.1 he
      exact XE.e_ok (hok x hx) (hr.2.2.2 x hx).1.2.2.1
    obtain ⟨q1, q2, q3⟩ := hc.app lim (l.map XE.e) hX.ct.ok.1.1 hEO hseq (hcost hok)
    rcases hq with ⟨_, F', hS, hf, _⟩ | ⟨h0, _⟩
    · refine ⟨0, _, _, by rw [q1], Wa.of hB (fun i hi => hX.low i hi) hS hf, .inr (.inr ⟨rfl, hok, q2, ?_⟩)⟩
      simpa using q3
    · exact absurd q1 h0
/-- what Sync answers and leaves -/
theorem syn_cm {w0 w : World} {W g b lim R T : Nat} {P : Lg → Prop} {c : Ct} {t : Dk.St} (h : Wa w0 W g b lim w c t) (hc : Cm R T P c t) (hT : T ≤ 400000) :
    Calls Tryz.prog 24 #[.pointer (some ⟨W, 0, none⟩)] w fun e w' => e = .returned (.int .i64 0) ∧ ∃ t', Wa w0 W g b lim w' c t' ∧ Cm R T (fun g => g = c.lg) c t' := by
  obtain ⟨⟨m, ve, vs, xs, hX⟩, hB⟩ := h
  obtain ⟨k1, L, S, k2, k3, k4⟩ := hc.few
  obtain ⟨q1, q2, q3⟩ := hc.syn
  refine (waSync_any hX k2 (by omega) (by omega)).mono ?_
  rintro e w' ⟨rfl, ⟨_, F', hS, hf, _⟩ | ⟨h0, _⟩⟩
  · refine ⟨by rw [q1], _, Wa.of hB (fun i hi => hX.low i hi) (by rw [q2] at hS; exact hS) hf, by rw [q2] at q3; exact q3⟩
  · exact absurd q1 h0
/-- an empty disk is opened -/
theorem open_cm {w0 w : World} {g b : Nat} (R : Nat) (hR : 35 ≤ R) (h : Dk.Sn w0 w g b [] (Dk.st0 R)) (hB : Base w0) (lim : Nat) (h1 : 32 ≤ lim) (h2 : lim ≤ 65536) :
    Calls Tryz.prog 13 #[.pointer (some ⟨g, 0, none⟩), .int .i64 (lim : Int)] w fun e w' => e = .returned (.tuple #[.pointer (some ⟨w.heap.size, 0, none⟩), .int .i64 0]) ∧ ∃ c t, Wa w0 w.heap.size g b lim w' c t ∧ Cm R 35 (fun g => g = ⟨0, []⟩) c t ∧ c.lg = ⟨0, []⟩ := by
  obtain ⟨k1, k2, k3, k4⟩ := cm_empty R hR
  refine (open_any (lo := w0.heap.size) (lim := lim) h.1 (hB.below h.2.1) h.2.2 h.2.1.size hB.lt h1 h2 rfl (by simp [Dk.st0])).mono ?_
  rintro e w' ⟨hr, F', hS, hf, _⟩
  rcases hr with ⟨_, rfl⟩ | ⟨hz, _⟩
  · exact ⟨rfl, _, _, Wa.of h.2.1 h.2.2 hS hf, k3, k2⟩
  · exact absurd k1 hz
/-- behind a crash the log is opened -/
theorem reopen_cm {w0 w : World} {W g b lim R T : Nat} {P : Lg → Prop} {c : Ct} {t : Dk.St} {m : List Dk.Ent} (hc : Cm R T P c t) (hr : 2 * T + 35 ≤ R) (hT : T ≤ 400000) (hP : ∀ g, P g → g.last ≤ MI) (ks : List Int) (h : Dk.Sn w0 w g b m (Dk.stCrash ks t)) (hB : Base w0) (h1 : 32 ≤ lim) (h2 : lim ≤ 65536) :
    Calls Tryz.prog 13 #[.pointer (some ⟨g, 0, none⟩), .int .i64 (lim : Int)] w fun e w' => e = .returned (.tuple #[.pointer (some ⟨w.heap.size, 0, none⟩), .int .i64 0]) ∧ ∃ c t, Wa w0 w.heap.size g b lim w' c t ∧ P c.lg := by
  obtain ⟨k1, k2, k3, k4⟩ := hc.crash hr hP ks ct0
  obtain ⟨q1, _⟩ := hc.few
  refine (open_any (lo := w0.heap.size) (lim := lim) h.1 (hB.below h.2.1) h.2.2 h.2.1.size hB.lt h1 h2 k1 (by omega)).mono ?_
  rintro e w' ⟨hr, F', hS, hf, _⟩
  rcases hr with ⟨_, rfl⟩ | ⟨hz, _⟩
  · exact ⟨rfl, _, _, Wa.of h.2.1 h.2.2 hS hf, k4⟩
  · exact absurd k3 hz
end Go.Proofs.YtnppomiggajhnaaGreatDoor.Wl

namespace Go.Proofs.YtnppomiggajhnaaGreatDoor.Wl
open Go.Proofs.YtnppomiggajhnaaGreatDoor.Fld Go.Proofs.YtnppomiggajhnaaGreatDoor.Rc
set_option linter.unusedVariables false

/-- the disk's room, and how many bytes it holds at most -/
structure Lim (R T : Nat) (t : Dk.St) : Prop where
  up : Dk.Up Prod.fst t.fs
  room : t.room = R
  tot : Dk.total t.fs ≤ T
theorem Lim.mono {R T T' : Nat} {t : Dk.St} (h : Lim R T t) (ht : T ≤ T') : Lim R T' t := ⟨h.up, h.room, Nat.le_trans h.tot ht⟩
theorem Lim.chg {R T : Nat} {t : Dk.St} (h : Lim R T t) : Lim R T (Dk.chg t).2 := by
  obtain ⟨h1, h2⟩ := Dk.chg_same t
  exact ⟨by rw [h2]; exact h.up, h1.trans h.room, by rw [h2]; exact h.tot⟩
theorem up_app {fs : List Dk.Fil} (x : Dk.Nm) (b : List Int) (h : Dk.Up Prod.fst fs) : Dk.Up Prod.fst (Dk.appFs x b fs) := (fget_appFs x b h).choose_spec.2
theorem total_up {fs : List Dk.Fil} (x : Dk.Nm) (b : List Int) (h : Dk.Up Prod.fst fs) : Dk.total (Dk.appFs x b fs) = Dk.total fs + b.length := by
  unfold Dk.appFs
  cases hg : Dk.fget x fs with
  | none => simp only; rw [Dk.total_put, Dk.total_del_none hg]; simp only; omega
  | some f =>
    simp only
    rw [Dk.total_put, Dk.total_del h hg]
    simp only [List.length_append]
    omega
theorem Lim.append {R T : Nat} {t : Dk.St} (h : Lim R T t) (x : Dk.Nm) (b : List Int) : Lim R (T + b.length) (Dk.stAppend x b t).2 := by
  have hc := h.chg
  unfold Dk.stAppend Dk.doing
  split
  · split
    · unfold Dk.app1
      split
      · exact hc.mono (Nat.le_add_right _ _)
      · exact ⟨up_app x b hc.up, hc.room, by show Dk.total (Dk.appFs x b (Dk.chg t).2.fs) ≤ _; rw [total_up x b hc.up]; have := hc.tot; omega⟩
    · exact hc.mono (Nat.le_add_right _ _)
  · exact h.mono (Nat.le_add_right _ _)
theorem Lim.sync {R T : Nat} {t : Dk.St} (h : Lim R T t) (x : Dk.Nm) : Lim R T (Dk.stSync x t).2 := by
  have hc := h.chg
  unfold Dk.stSync Dk.doing
  split
  · split
    · unfold Dk.sync1
      split
      · rename_i f hg
        refine ⟨hc.up.put _, hc.room, ?_⟩
        show Dk.total (Dk.fput (x, f.2.1, f.2.1.length) (Dk.chg t).2.fs) ≤ _
        rw [Dk.total_put]
        have := Dk.total_del hc.up hg
        have := hc.tot
        simp only
        omega
      · exact hc
    · exact hc
  · exact h
theorem lim_write {R T : Nat} {t : Dk.St} (h : Lim R T t) (b : List Int) (c : Ct) : Lim R (T + b.length) (spWrite b c t).2.2 := h.append _ _
theorem lim_syn {R T : Nat} {t : Dk.St} (h : Lim R T t) (c : Ct) : Lim R T (spSync c t).2.2 := h.sync _
theorem lim_create {R T : Nat} {t : Dk.St} (h : Lim R T t) (n : Nat) (c : Ct) (hn : n ≤ 99999999) (hl : c.lg.last ≤ MI) : Lim R (T + 35) (spCreate n c t).2.2 := by
  have hb := head_le n (c.lg.last + 1) (by omega) (by unfold MI at hl; omega)
  unfold spCreate
  generalize recd (chC (.head n (c.lg.last + 1))) = B at hb ⊢
  generalize (⟨c.lg, c.segs ++ [⟨n, c.lg.last + 1, 0⟩]⟩ : Ct) = c1
  have h1 := lim_write h B c1
  by_cases h0 : (spWrite B c1 t).1 = 0
  · rw [spRun_ok h0, spRun_one]
    exact (lim_syn h1 _).mono (by omega)
  · rw [spRun_no h0]
    exact h1.mono (by omega)
section
variable {Fs : List Fl} {f : Fl} {c0 : Ct} {t : Dk.St}
theorem lim_room {R T : Nat} (lim : Nat) (h : Dsk Fs f c0 t.fs) (hc : Lim R T t) (hl : (ctOf f c0).lg.last ≤ MI) : Lim R (T + 35) (spRoom lim (ctOf f c0) t).2.2 := by
  obtain ⟨i, hi⟩ := ctOf_num h
  have hf := h.num f (by simp)
  have HRO : spRoom lim (ctOf f c0) t = if (recs f.rs).length < lim ∨ f.n = 99999999 then (0, ctOf f c0, t) else spRun [spSync, spCreate (f.n + 1)] (ctOf f c0) t := by unfold spRoom; rw [hi]
  rw [HRO]
  split
  · exact hc.mono (by omega)
  · rename_i hq
    have hs := lim_syn hc (ctOf f c0)
    by_cases h0 : (spSync (ctOf f c0) t).1 = 0
    · rw [spRun_ok h0, spRun_one]
      have : (spSync (ctOf f c0) t).2.1 = ctOf f c0 := rfl
      rw [this]
      exact lim_create hs (f.n + 1) _ (by omega) hl
    · rw [spRun_no h0]
      exact hs.mono (by omega)
theorem lim_add {R T : Nat} (lim : Nat) (h : Dsk Fs f c0 t.fs) (hc : Lim R T t) (hl : (ctOf f c0).lg.last ≤ MI) (e : E) (he : e.Ok) : Lim R (T + 88 + e.data.length) (spAdd lim e (ctOf f c0) t).2.2 := by
  have k2 := lim_room lim h hc hl
  have hb := entry_le e he
  unfold spAdd
  by_cases h0 : (spRoom lim (ctOf f c0) t).1 = 0
  · rw [spRun_ok h0]
    have q2 := lim_write k2 (recd (chC (.entry e))) (spRoom lim (ctOf f c0) t).2.1
    by_cases h1 : (spWrite (recd (chC (.entry e))) (spRoom lim (ctOf f c0) t).2.1 (spRoom lim (ctOf f c0) t).2.2).1 = 0
    · rw [spRun_ok h1, spRun_one]
      exact q2.mono (by omega)
    · rw [spRun_no h1]
      exact q2.mono (by omega)
  · rw [spRun_no h0]
    exact k2.mono (by omega)
end
theorem cost_cons (e : E) (es : List E) : cost (e :: es) = 88 + e.data.length + cost es := by simp [cost]
theorem lim_app {R : Nat} (lim : Nat) : ∀ (es : List E) (T : Nat) (Fs : List Fl) (f : Fl) (c0 : Ct) (t : Dk.St), Dsk Fs f c0 t.fs → Lim R T t → (ctOf f c0).lg.last ≤ MI → (∀ e ∈ es, e.Ok) → Seq (ctOf f c0).lg.last es → Lim R (T + cost es) (spApp lim es (ctOf f c0) t).2.2
  | [], T, Fs, f, c0, t, h, hc, hl, _, _ => hc
  | e :: es, T, Fs, f, c0, t, h, hc, hl, ho, hs => by
    have he := ho e (by simp)
    have k1 := lim_add lim h hc hl e he
    obtain ⟨⟨Fs1, f1, c1, h1, h2, h3⟩, h4⟩ := res_add lim h hl e he hs.1
    rw [cost_cons]
    unfold spApp
    rw [List.map_cons]
    by_cases h0 : (spAdd lim e (ctOf f c0) t).1 = 0
    · rw [spRun_ok h0, h3 h0]
      have h5 := h4 h0
      rw [h3 h0] at h5
      have hla : (ctOf f1 c1).lg.last = (ctOf f c0).lg.last + 1 := by rw [h5]; simp [Lg.add, Lg.last]; omega
      exact (lim_app lim es _ Fs1 f1 c1 _ h1 k1 (by rw [hla, ← hs.1]; exact he.2.1) (fun x hx => ho x (by simp [hx])) (by rw [hla]; exact hs.2)).mono (by omega)
    · rw [spRun_no h0]
      exact k1.mono (by omega)
theorem lim_rec {R T : Nat} {t : Dk.St} (h : Lim R T t) (b : List Int) (F : Lg → Lg) (c : Ct) (hb : b.length ≤ 35) : Lim R (T + 35) (spRun [spWrite b, spLog F] c t).2.2 := by
  have h1 := lim_write h b c
  by_cases h0 : (spWrite b c t).1 = 0
  · rw [spRun_ok h0, spRun_one]
    exact h1.mono (by omega)
  · rw [spRun_no h0]
    exact h1.mono (by omega)
end Go.Proofs.YtnppomiggajhnaaGreatDoor.Wl

namespace Go.Proofs.YtnppomiggajhnaaGreatDoor.Wl
open Go.Proofs.YtnppomiggajhnaaGreatDoor.Fld Go.Proofs.YtnppomiggajhnaaGreatDoor.Rc
set_option linter.unusedVariables false

/-- the logs that a crash may leave, the disk's room and bytes -/
def Cx (R T : Nat) (P : Lg → Prop) (t : Dk.St) : Prop := ∃ Fs f c0, Dsk Fs f c0 t.fs ∧ (∀ g, Poss f c0 g → P g) ∧ Lim R T t
/-- .. and the content -/
def Cn (R T : Nat) (P : Lg → Prop) (c : Ct) (t : Dk.St) : Prop := ∃ Fs f c0, Dsk Fs f c0 t.fs ∧ c = ctOf f c0 ∧ (∀ g, Poss f c0 g → P g) ∧ Lim R T t
theorem Cn.x {R T : Nat} {P : Lg → Prop} {c : Ct} {t : Dk.St} (h : Cn R T P c t) : Cx R T P t := by
  obtain ⟨Fs, f, c0, h1, h2, h3, h4⟩ := h
  exact ⟨Fs, f, c0, h1, h3, h4⟩
theorem Cx.mono {R T T' : Nat} {P Q : Lg → Prop} {t : Dk.St} (h : Cx R T P t) (hp : ∀ g, P g → Q g) (ht : T ≤ T') : Cx R T' Q t := by
  obtain ⟨Fs, f, c0, h1, h3, h4⟩ := h
  exact ⟨Fs, f, c0, h1, fun g hg => hp g (h3 g hg), h4.mono ht⟩
theorem Cn.mono {R T T' : Nat} {P Q : Lg → Prop} {c : Ct} {t : Dk.St} (h : Cn R T P c t) (hp : ∀ g, P g → Q g) (ht : T ≤ T') : Cn R T' Q c t := by
  obtain ⟨Fs, f, c0, h1, h2, h3, h4⟩ := h
  exact ⟨Fs, f, c0, h1, h2, fun g hg => hp g (h3 g hg), h4.mono ht⟩
theorem Cm.n {R T : Nat} {P : Lg → Prop} {c : Ct} {t : Dk.St} (h : Cm R T P c t) : Cn R T P c t := by
  obtain ⟨Fs, f, c0, h1, h2, h3, h4⟩ := h
  exact ⟨Fs, f, c0, h1, h2, h3, h1.calm_fresh.1, h4.room, h4.tot⟩
theorem Cn.few {R T : Nat} {P : Lg → Prop} {c : Ct} {t : Dk.St} (h : Cn R T P c t) : 8 * t.fs.length ≤ T ∧ ∃ L S, c.segs = L ++ [S] ∧ L.length + 1 = t.fs.length ∧ S.size ≤ T := by
  obtain ⟨Fs, f, c0, h1, h2, h3, h4⟩ := h
  obtain ⟨k1, L, S, k2, k3, k4⟩ := h1.few
  have := h4.tot
  exact ⟨by omega, L, S, by rw [h2]; exact k2, k3, by omega⟩
theorem Cx.few {R T : Nat} {P : Lg → Prop} {t : Dk.St} (h : Cx R T P t) : 8 * t.fs.length ≤ T := by
  obtain ⟨Fs, f, c0, h1, h3, h4⟩ := h
  have := h1.few.1
  have := h4.tot
  omega
theorem Lim.of {R T : Nat} {t t' : Dk.St} (h : Lim R T t) (hf : t'.fs = t.fs) (hr : t'.room = t.room) : Lim R T t' := ⟨by rw [hf]; exact h.up, hr.trans h.room, by rw [hf]; exact h.tot⟩
theorem Cn.of {R T : Nat} {P : Lg → Prop} {c : Ct} {t t' : Dk.St} (h : Cn R T P c t) (hf : t'.fs = t.fs) (hr : t'.room = t.room) : Cn R T P c t' := by
  obtain ⟨Fs, f, c0, h1, h2, h3, h4⟩ := h
  exact ⟨Fs, f, c0, by rw [hf]; exact h1, h2, h3, h4.of hf hr⟩
theorem Cx.of {R T : Nat} {P : Lg → Prop} {t t' : Dk.St} (h : Cx R T P t) (hf : t'.fs = t.fs) (hr : t'.room = t.room) : Cx R T P t' := by
  obtain ⟨Fs, f, c0, h1, h3, h4⟩ := h
  exact ⟨Fs, f, c0, by rw [hf]; exact h1, h3, h4.of hf hr⟩
theorem arm_same (n : Int) (t : Dk.St) : (Dk.stArm n t).2.fs = t.fs ∧ (Dk.stArm n t).2.room = t.room := by
  unfold Dk.stArm
  split <;> exact ⟨rfl, rfl⟩
/-- what a method leaves -/
def Aft (R T : Nat) (P : Lg → Prop) (l : Lg) (q : Int × Ct × Dk.St) : Prop := Cx R T P q.2.2 ∧ (q.1 = 0 → q.2.1.lg = l ∧ Cn R T P q.2.1 q.2.2)
theorem Aft.mk' {R T : Nat} {P : Lg → Prop} {l : Lg} {q : Int × Ct × Dk.St} (h : Res q P) (hl : Lim R T q.2.2) (hg : q.1 = 0 → q.2.1.lg = l) : Aft R T P l q := by
  obtain ⟨Fs, f, c0, h1, h2, h3⟩ := h
  exact ⟨⟨Fs, f, c0, h1, h2, hl⟩, fun h0 => ⟨hg h0, Fs, f, c0, h1, h3 h0, h2, hl⟩⟩
theorem Cn.app {R T : Nat} {P : Lg → Prop} {c : Ct} {t : Dk.St} (h : Cn R T P c t) (lim : Nat) (es : List E) (hl : c.lg.last ≤ MI) (ho : ∀ e ∈ es, e.Ok) (hs : Seq c.lg.last es) :
    Aft R (T + cost es) (fun g => P g ∨ ∃ i, i ≤ es.length ∧ g = addAll c.lg (es.take i)) (addAll c.lg es) (spApp lim es c t) := by
  obtain ⟨Fs, f, c0, h1, rfl, h3, h4⟩ := h
  obtain ⟨k1, k2⟩ := res_app lim es Fs f c0 t h1 hl ho hs
  exact Aft.mk' (k1.mono fun g hg => hg.imp (h3 g) id) (lim_app lim es T Fs f c0 t h1 h4 hl ho hs) k2
theorem Cn.cut {R T : Nat} {P : Lg → Prop} {c : Ct} {t : Dk.St} (h : Cn R T P c t) (hl : c.lg.last ≤ MI) (i : Nat) (h1 : 1 ≤ i) (h2 : i ≤ c.lg.last) :
    Aft R (T + 35) (fun g => P g ∨ g = c.lg.cut i) (c.lg.cut i) (spCut i c t) := by
  obtain ⟨Fs, f, c0, k1, rfl, k3, k4⟩ := h
  obtain ⟨q1, q2⟩ := res_cut k1 hl i h1 h2
  refine Aft.mk' (q1.mono fun g hg => hg.imp (k3 g) id) (lim_rec k4 _ _ _ ?_) q2
  have h := enc_len [2, i] (by unfold MI at hl; simp; omega)
  have e : (chC (.cut i)).length = (enc [2, i]).length := rfl
  rw [recd_len, e]
  simp only [List.length_cons, List.length_nil] at h
  omega
theorem Cn.reset {R T : Nat} {P : Lg → Prop} {c : Ct} {t : Dk.St} (h : Cn R T P c t) (i : Nat) (h1 : 1 ≤ i) (h2 : i ≤ MI) :
    Aft R (T + 35) (fun g => P g ∨ g = Lg.restart i) (Lg.restart i) (spReset i c t) := by
  obtain ⟨Fs, f, c0, k1, rfl, k3, k4⟩ := h
  obtain ⟨q1, q2⟩ := res_reset k1 i h1 h2
  refine Aft.mk' (q1.mono fun g hg => hg.imp (k3 g) id) (lim_rec k4 _ _ _ ?_) q2
  have h := enc_len [3, i] (by unfold MI at h2; simp; omega)
  have e : (chC (.reset i)).length = (enc [3, i]).length := rfl
  rw [recd_len, e]
  simp only [List.length_cons, List.length_nil] at h
  omega
theorem Cn.syn {R T : Nat} {P : Lg → Prop} {c : Ct} {t : Dk.St} (h : Cn R T P c t) :
    Cx R T P (spSync c t).2.2 ∧ ((spSync c t).1 = 0 → (spSync c t).2.1 = c ∧ Cn R T (fun g => g = c.lg) (spSync c t).2.1 (spSync c t).2.2) := by
  obtain ⟨Fs, f, c0, h1, rfl, h3, h4⟩ := h
  obtain ⟨⟨Fs1, f1, c1, k1, k2, k3⟩, k4⟩ := res_syn h1
  have hl := lim_syn h4 (ctOf f c0)
  refine ⟨⟨Fs1, f1, c1, k1, fun g hg => h3 g (k2 g hg), hl⟩, fun h0 => ?_⟩
  obtain ⟨q1, Fs2, f2, c2, q2, q3, q4⟩ := k4 h0
  exact ⟨q1, Fs2, f2, c2, q2, q4 h0, q3, hl⟩
/-- behind a crash the log is opened -/
theorem Cx.crash {R T : Nat} {P : Lg → Prop} {t : Dk.St} (h : Cx R T P t) (hr : 2 * T + 35 ≤ R) (hP : ∀ g, P g → g.last ≤ MI) (ks : List Int) (c' : Ct) :
    (Dk.stCrash ks t).off = false ∧ (Dk.stCrash ks t).fs.length = t.fs.length ∧ (spOpen c' (Dk.stCrash ks t)).1 = 0 ∧ P (spOpen c' (Dk.stCrash ks t)).2.1.lg := by
  obtain ⟨Fs, f, c0, h1, h3, h4⟩ := h
  obtain ⟨E, e1, e2, e3⟩ := crash_fs h1 ks
  have e3' : (Dk.stCrash ks t).fs = Fs.map Fl.fil ++ [(segN f.n, (recs f.rs).take E, E)] := e3
  obtain ⟨k1, k2, k3, k4⟩ := crash_cr (R := R) (T := T) (t := { t with off := false, fail := none, arm := none }) h1 ⟨⟨rfl, rfl, rfl⟩, h4.room, h4.tot⟩ ks
  have hst : Dk.stCrash ks { t with off := false, fail := none, arm := none } = Dk.stCrash ks t := rfl
  rw [hst] at k1 k2 k3 k4
  have hp := h3 _ (crash_poss h1 ks)
  have ht := k1.tot
  have hroom := k1.room
  obtain ⟨q1, q2⟩ := open_calm c' k1.calm k2 k3 (by omega) (hP _ hp)
  exact ⟨k1.calm.off, k4, q1, by rw [q2]; exact hp⟩
end Go.Proofs.YtnppomiggajhnaaGreatDoor.Wl

namespace Go.Proofs.YtnppomiggajhnaaGreatDoor.Wl
open Go.RowKit Go.Proofs.YtnppomiggajhnaaGreatDoor.Fld
set_option linter.unusedVariables false

theorem RdX.fr {F : List Nat} {w w' : World} {A : Option Addr} {n : Nat} {l : List XE} (h : RdX w A n l) (hy : ∀ y ∈ l, y.At w') (hf : Dk.Fr F w w') (hA : 0 < n → ∀ a, A = some a → a.block ∉ F) : RdX w' A n l := by
  refine ⟨h.1, h.2.1, fun hp => ?_, hy⟩
  obtain ⟨b, off, hAb, hc⟩ := h.2.2.1 hp
  refine ⟨b, off, hAb, fun i hi j hj => ?_⟩
  have h1 := hc i hi j hj
  obtain ⟨v, hv⟩ : ∃ v, l[i].cells[j]? = some v := by
    have : j < l[i].cells.length := hj
    exact ⟨_, List.getElem?_eq_getElem this⟩
  rw [hv] at h1 ⊢
  exact hf.cell h1 (show b ∉ F from hA hp ⟨b, off, none⟩ hAb)
theorem RdX.blk {w : World} {A : Option Addr} {n : Nat} {l : List XE} (h : RdX w A n l) : 0 < n → ∀ a, A = some a → a.block < w.heap.size := by
  intro hp a ha
  obtain ⟨b, off, hA, hc⟩ := h.2.2.1 hp
  rw [hA] at ha
  cases ha
  have h0 : 0 < l.length := by have := h.1; omega
  exact lt_of_cell (hc 0 h0 0 (by omega))
/-- a log of the law's that lies beside a footprint -/
structure LogOk (w0 : World) (F : List Nat) (w : World) (mv : Value) (z : LX) : Prop where
  at' : z.At w
  ys : ∀ y ∈ z.ls, y.At w0
  foot : 0 < z.n → ∀ a, z.A = some a → a.block ∉ F
  apart : 0 < z.n → ∀ a, z.A = some a → mv.ownBlock ≠ some a.block
  b0 : 0 ≤ z.base
  b1 : z.base + (z.n : Int) ≤ 1099511627776
theorem LogOk.fr {w0 : World} {F F' : List Nat} {w w' : World} {mv : Value} {z : LX} (h : LogOk w0 F w mv z) (hf : Dk.Fr F w w') (hb : Below w0.heap.size w0 w') (hs : ∀ i ∈ F', i ∈ F ∨ w.heap.size ≤ i) : LogOk w0 F' w' mv z := by
  refine ⟨⟨h.at'.rd.fr (fun y hy => (h.ys y hy).below hb) hf h.foot, h.at'.le, h.at'.most, h.at'.nil⟩, h.ys, fun hp a ha hm => ?_, h.apart, h.b0, h.b1⟩
  have h1 := h.at'.rd.blk hp a ha
  rcases hs _ hm with h2 | h2
  · exact h.foot hp a ha h2
  · omega
/-- the law's list of logs -/
structure MayOk (w0 : World) (F : List Nat) (w : World) (mv : Value) (mays : List LX) : Prop where
  row : w.ownsRow w0.heap.size 52 2 mv mays.length (rowL mays)
  rb : ∀ k, mv.ownBlock = some k → k ∉ F
  logs : ∀ z ∈ mays, LogOk w0 F w mv z
  ne : mays ≠ []
theorem MayOk.fr {w0 : World} {F F' : List Nat} {w w' : World} {mv : Value} {mays : List LX} (h : MayOk w0 F w mv mays) (hf : Dk.Fr F w w') (hb : Below w0.heap.size w0 w') (hs : ∀ i ∈ F', i ∈ F ∨ w.heap.size ≤ i) : MayOk w0 F' w' mv mays := by
  refine ⟨row_of h.row (fun k hk => hf.block k (row_lo h.row k hk).2 (h.rb k hk)), fun k hk hm => ?_, fun z hz => (h.logs z hz).fr hf hb hs, h.ne⟩
  have h1 := (row_lo h.row k hk).2
  rcases hs _ hm with h2 | h2
  · exact h.rb k hk h2
  · omega
theorem MayOk.below {w0 : World} {F : List Nat} {w w' : World} {mv : Value} {mays : List LX} (h : MayOk w0 F w mv mays) (hw : Below w0.heap.size w0 w) (hb : Below w.heap.size w w') (hF : ∀ i ∈ F, i < w.heap.size) : MayOk w0 F w' mv mays := by
  have hbw := hw.trans (hb.mono hw.size)
  refine ⟨row_of h.row (fun k hk => hb.block k (row_lo h.row k hk).2), h.rb, fun z hz => ?_, h.ne⟩
  have h1 := h.logs z hz
  exact ⟨h1.at'.below hb, h1.ys, h1.foot, h1.apart, h1.b0, h1.b1⟩
theorem row_cells2 {w : World} {lo n : Nat} {ety : TypeId} {A : Option Addr} {cap : Nat} {xs : List Value} (h : w.ownsRow lo ety 2 (.slice A n cap) n xs) (ad : Addr) (ha : A = some ad) : ∀ j v, xs[j]? = some v → w.cell? (ad.add j) = some v := by
  intro j v hj
  rcases h.2 with ⟨h, _⟩ | ⟨g, cap', cur, he, hg, hh, h4, h5, h6, h7⟩
  · cases h; cases ha
  · injection he with e1 e2 e3
    rw [e1] at ha
    cases ha
    rw [add_atB, Nat.zero_add, cell_of_row w g j cur _ (0, 0) hh]
    rw [← h7, List.getElem?_take] at hj
    split at hj
    · rw [Array.getElem?_toList] at hj; exact hj
    · cases hj
/-- append of logs onto a row of logs -/
theorem run_append_rowO (w : World) (ty : TypeId) (lo lo' : Nat) (v : Value) (n : Nat) (xs : List Value) (hown : w.ownsRow lo 52 2 v n xs) (u : Value) (ys : List LX) (hr : w.ownsRow lo' 52 2 u ys.length (rowL ys)) (hb : n + ys.length ≤ 2000000) (hlo : lo ≤ w.heap.size) :
    ∃ v' w', (Builtin.append_ #[53, 53] ty #[v, u]).run Tryz.prog w = .ok v' w' ∧ w'.ownsRow lo 52 2 v' (n + ys.length) (xs ++ rowL ys) ∧ w.grownBy w' v.ownBlock ∧ (v'.ownBlock = v.ownBlock ∨ v'.ownBlock = some w.heap.size) := by
  obtain ⟨A, cap, rfl, hA, h1, h2, h3⟩ := row_slice hr
  cases A with
  | none =>
    obtain ⟨e1, e2⟩ := h3 rfl
    obtain rfl : ys = [] := List.eq_nil_of_length_eq_zero e2
    obtain rfl := e1
    obtain ⟨inf, i1, i2, i3, i4⟩ := log_info
    refine ⟨v, w, run_append_owned_none (P := Tryz.prog) (w := w) lo 53 ty 52 inf 2 Tryz.underlying53 i1 v n xs hown, ?_, ⟨rfl, rfl, rfl, Nat.le_refl _, fun _ _ _ => rfl⟩, .inl rfl⟩
    rw [show rowL [] = [] from rfl, List.append_nil]
    exact hown
  | some ad => exact run_append_rowL w ty lo v n xs hown ad ys.length cap ys rfl (row_cells2 hr ad rfl) hb hlo
theorem wpList_append_rowO {w : World} {ops : Array Oper} {rest : List Oper} {o : Oper} {a : Act} {Q : Exit → Act → World → Prop} (hgd : o.guard = none) (s x : Operand)
    (ho : o.op = .call { callee := .builtin .append, args := #[s, x], argTypes := #[53, 53] })
    (lo lo' : Nat) (v : Value) (n : Nat) (xs : List Value) (hs : a.eval s = v) (hown : w.ownsRow lo 52 2 v n xs)
    (u : Value) (ys : List LX) (hx : a.eval x = u) (hr : w.ownsRow lo' 52 2 u ys.length (rowL ys)) (hb : n + ys.length ≤ 2000000) (hlo : lo ≤ w.heap.size)
    (h : ∀ v' w', w'.ownsRow lo 52 2 v' (n + ys.length) (xs ++ rowL ys) → w.grownBy w' v.ownBlock → (v'.ownBlock = v.ownBlock ∨ v'.ownBlock = some w.heap.size) → wpList Tryz.prog ops Q rest (a.put o.dst v') w') : wpList Tryz.prog ops Q (o :: rest) a w := by
  refine wpList_plain hgd fun K hK => ?_
  obtain ⟨v', w', hrun, h1, h2, h3⟩ := run_append_rowO w o.type lo lo' v n xs hown u ys hr hb hlo
  unfold Oper.wp execOp
  simp only [ho, resolve, invoke, builtin, Sem.run_bind, Sem.run_pure, Result.andThen_ok, List.map_toArray, List.map_cons, List.map_nil, hs, hx, hrun]
  exact hK _ _ (h v' w' h1 h2 h3)
/-- more logs behind the list -/
theorem MayOk.more {w0 w w1 w' : World} {F : List Nat} {mv mv' : Value} {mays out : List LX} {g : LX} (h : MayOk w0 F w mv mays) (hF : ∀ i ∈ F, i < w.heap.size) (hw : Below w0.heap.size w0 w) (h1 : Below w.heap.size w w1)
    (hg : g ∈ mays) (ho : ∀ z ∈ out, LX.At w1 z ∧ (0 < z.n → ∀ a, z.A = some a → w.heap.size ≤ a.block ∨ (g.A = some a ∧ 0 < g.n)) ∧ ∀ y ∈ z.ls, y ∈ g.ls ∨ y.At w0) (hbd : ∀ z ∈ out, 0 ≤ z.base ∧ z.base + (z.n : Int) ≤ 1099511627776)
    (hr : w'.ownsRow w0.heap.size 52 2 mv' (mays.length + out.length) (rowL mays ++ rowL out)) (hgr : w1.grownBy w' mv.ownBlock) (hat : mv'.ownBlock = mv.ownBlock ∨ mv'.ownBlock = some w1.heap.size) :
    MayOk w0 F w' mv' (mays ++ out) ∧ Below w0.heap.size w0 w' := by
  have hM := h.below hw h1 hF
  have hw1 := hw.trans (h1.mono hw.size)
  have hb' : Below w0.heap.size w0 w' := hw1.grown hgr hw1.size (fun k hk => (row_lo h.row k hk).1)
  have hfr : Dk.Fr mv.ownBlock.toList w1 w' := (Dk.Fr.refl _ _).grown hgr (fun k hk => .inl (by rw [hk]; simp))
  have hap : ∀ z, LX.At w1 z → (0 < z.n → ∀ a, z.A = some a → mv.ownBlock ≠ some a.block) → 0 < z.n → ∀ a, z.A = some a → mv'.ownBlock ≠ some a.block := fun z hz hq hp a ha hm => by
    rcases hat with h2 | h2
    · exact hq hp a ha (h2.symm.trans hm)
    · have := hz.rd.blk hp a ha
      rw [h2] at hm
      have := Option.some.inj hm
      omega
  have hkeep : ∀ z, LX.At w1 z → (∀ y ∈ z.ls, y.At w0) → (0 < z.n → ∀ a, z.A = some a → mv.ownBlock ≠ some a.block) → LX.At w' z := fun z hz hy hq =>
    ⟨hz.rd.fr (fun y hyy => (hy y hyy).below hb') hfr (fun hp a ha hm => hq hp a ha (by simpa using hm)), hz.le, hz.most, hz.nil⟩
  have hgl := hM.logs g hg
  refine ⟨⟨by rw [List.length_append, rowL_append]; exact hr, fun k hk hm => ?_, fun z hz => ?_, by simp [h.ne]⟩, hb'⟩
  · rcases hat with h2 | h2
    · exact h.rb k (h2.symm.trans hk) hm
    · have h3 := h2.symm.trans hk
      have := Option.some.inj h3
      have := hF k hm
      have := h1.size
      omega
  · rcases List.mem_append.1 hz with hz | hz
    · have q := hM.logs z hz
      exact ⟨hkeep z q.at' q.ys q.apart, q.ys, q.foot, hap z q.at' q.apart, q.b0, q.b1⟩
    · obtain ⟨q1, q2, q3⟩ := ho z hz
      have hys : ∀ y ∈ z.ls, y.At w0 := fun y hy => (q3 y hy).elim (hgl.ys y) id
      have hq : 0 < z.n → ∀ a, z.A = some a → mv.ownBlock ≠ some a.block := fun hp a ha hm => by
        rcases q2 hp a ha with h2 | ⟨h2, h3⟩
        · have := (row_lo h.row _ hm).2
          omega
        · exact hgl.apart h3 a h2 hm
      refine ⟨hkeep z q1 hys hq, hys, fun hp a ha hm => ?_, hap z q1 hq, (hbd z hz).1, (hbd z hz).2⟩
      rcases q2 hp a ha with h2 | ⟨h2, h3⟩
      · have := hF _ hm
        omega
      · exact hgl.foot h3 a h2 hm
end Go.Proofs.YtnppomiggajhnaaGreatDoor.Wl

namespace Go.Proofs.YtnppomiggajhnaaGreatDoor.Wl
open Go.RowKit Go.Proofs.YtnppomiggajhnaaGreatDoor.Fld
set_option linter.unusedVariables false

/-- the answers of a disk that is asked for a log's files -/
def Nice (z : Int) : Prop := z = 0 ∨ (2 ≤ z ∧ z ≤ 5)
theorem nice_app (n : Nat) (b : List Int) (t : Dk.St) : Nice (Dk.stAppend (segN n) b t).1 := by
  unfold Nice Dk.stAppend Dk.doing Dk.app1 Dk.chg
  rw [okN_segN]
  simp only [if_true]
  repeat' split
  all_goals simp_all
theorem nice_sync (n : Nat) (t : Dk.St) : Nice (Dk.stSync (segN n) t).1 := by
  unfold Nice Dk.stSync Dk.doing Dk.sync1 Dk.chg
  rw [okN_segN]
  simp only [if_true]
  repeat' split
  all_goals simp_all
theorem nice_run : ∀ (l : List Sp), (∀ s ∈ l, ∀ c t, Nice (s c t).1) → ∀ c t, Nice (spRun l c t).1
  | [], _, c, t => .inl rfl
  | s :: r, h, c, t => by
    by_cases h0 : (s c t).1 = 0
    · rw [spRun_ok h0]; exact nice_run r (fun x hx => h x (by simp [hx])) _ _
    · rw [spRun_no h0]; exact h s (by simp) c t
theorem nice_write (b : List Int) (c : Ct) (t : Dk.St) : Nice (spWrite b c t).1 := nice_app _ b t
theorem nice_syn (c : Ct) (t : Dk.St) : Nice (spSync c t).1 := nice_sync _ t
theorem nice_log (F : Lg → Lg) (c : Ct) (t : Dk.St) : Nice (spLog F c t).1 := .inl rfl
theorem nice_create (n : Nat) (c : Ct) (t : Dk.St) : Nice (spCreate n c t).1 := nice_run _ (by
  intro s hs c t
  simp only [List.mem_cons, List.not_mem_nil, or_false] at hs
  rcases hs with rfl | rfl
  · exact nice_write _ c t
  · exact nice_syn c t) _ _
theorem nice_room (lim : Nat) (c : Ct) (t : Dk.St) : Nice (spRoom lim c t).1 := by
  unfold spRoom
  split
  · exact .inl rfl
  · split
    · exact .inl rfl
    · refine nice_run _ ?_ _ _
      intro s hs c t
      simp only [List.mem_cons, List.not_mem_nil, or_false] at hs
      rcases hs with rfl | rfl
      · exact nice_syn c t
      · exact nice_create _ c t
theorem nice_add (lim : Nat) (e : E) (c : Ct) (t : Dk.St) : Nice (spAdd lim e c t).1 := nice_run _ (by
  intro s hs c t
  simp only [List.mem_cons, List.not_mem_nil, or_false] at hs
  rcases hs with rfl | rfl | rfl
  · exact nice_room lim c t
  · exact nice_write _ c t
  · exact nice_log _ c t) _ _
theorem nice_apps (lim : Nat) (es : List E) (c : Ct) (t : Dk.St) : Nice (spApp lim es c t).1 := nice_run _ (by
  intro s hs c t
  obtain ⟨e, _, rfl⟩ := List.mem_map.1 hs
  exact nice_add lim e c t) _ _
theorem nice_rec (b : List Int) (F : Lg → Lg) (c : Ct) (t : Dk.St) : Nice (spRun [spWrite b, spLog F] c t).1 := nice_run _ (by
  intro s hs c t
  simp only [List.mem_cons, List.not_mem_nil, or_false] at hs
  rcases hs with rfl | rfl
  · exact nice_write _ c t
  · exact nice_log _ c t) _ _
/-- a Wal that goes on (its log is told), or a broken one -/
def LaSt (w0 : World) (W g b lim R T : Nat) (P : Lg → Prop) (cl : Option Lg) (F : List Nat) (w : World) : Prop :=
  (∃ c t, cl = some c.lg ∧ WmS w0.heap.size W g b lim F w c t ∧ Cn R T P c t) ∨ (cl = none ∧ ∃ m t, WmB w0.heap.size W g b m w t ∧ F = W :: g :: b :: Dk.blks m ∧ Cx R T P t)
theorem LaSt.mono {w0 w : World} {W g b lim R T T' : Nat} {P Q : Lg → Prop} {cl : Option Lg} {F : List Nat} (h : LaSt w0 W g b lim R T P cl F w) (hp : ∀ g, P g → Q g) (ht : T ≤ T') : LaSt w0 W g b lim R T' Q cl F w := by
  rcases h with ⟨c, t, h1, h2, h3⟩ | ⟨h1, m, t, h2, h3, h4⟩
  · exact .inl ⟨c, t, h1, h2, h3.mono hp ht⟩
  · exact .inr ⟨h1, m, t, h2, h3, h4.mono hp ht⟩
theorem WmS.below {lo W g b lim : Nat} {F : List Nat} {w w' : World} {c : Ct} {t : Dk.St} (h : WmS lo W g b lim F w c t) (hb : Below w.heap.size w w') : WmS lo W g b lim F w' c t := by
  obtain ⟨m, ve, vs, xs, hX, hF⟩ := h
  exact ⟨m, ve, vs, xs, hX.below hb, hF⟩
theorem LaSt.below {w0 w w' : World} {W g b lim R T : Nat} {P : Lg → Prop} {cl : Option Lg} {F : List Nat} (h : LaSt w0 W g b lim R T P cl F w) (hb : Below w.heap.size w w') : LaSt w0 W g b lim R T P cl F w' := by
  rcases h with ⟨c, t, h1, h2, h3⟩ | ⟨h1, m, t, h2, h3, h4⟩
  · exact .inl ⟨c, t, h1, h2.below hb, h3⟩
  · exact .inr ⟨h1, m, t, h2.below hb, h3, h4⟩
theorem LaSt.foot {w0 w : World} {W g b lim R T : Nat} {P : Lg → Prop} {cl : Option Lg} {F : List Nat} (h : LaSt w0 W g b lim R T P cl F w) : ∀ i ∈ F, w0.heap.size ≤ i ∧ i < w.heap.size := by
  rcases h with ⟨c, t, h1, ⟨m, ve, vs, xs, hX, hF⟩, h3⟩ | ⟨h1, m, t, h2, h3, h4⟩
  · subst hF
    exact fun i hi => ⟨hX.low i hi, hX.lt i hi⟩
  · subst h3
    intro i hi
    refine ⟨h2.low i hi, ?_⟩
    rcases List.mem_cons.1 hi with rfl | hi
    · exact h2.blk.lt
    · exact h2.im.lt i hi
/-- what an operation leaves beside its answer -/
def OpL (w0 : World) (F : List Nat) (w : World) (F' : List Nat) (w' : World) : Prop := Dk.Fr F w w' ∧ (∀ i ∈ F', i ∈ F ∨ w.heap.size ≤ i) ∧ Below w0.heap.size w0 w'
theorem OpL.stay {w0 w w' : World} {F : List Nat} (h0 : Below w0.heap.size w0 w) (h : Below w.heap.size w w') (hF : ∀ i ∈ F, i < w.heap.size) : OpL w0 F w F w' := ⟨Dk.Fr.below h, fun i hi => .inl hi, h0.trans (h.mono h0.size)⟩
section
variable {w0 w : World} {W g b lim R T : Nat} {P : Lg → Prop} {F : List Nat}
/-- a method's end -/
theorem la_take {q : Int × Ct × Dk.St} {l : Lg} {P' : Lg → Prop} {T' : Nat} {e : Ending} {w' : World} (hB : Below w0.heap.size w0 w) (hF : ∀ i ∈ F, w0.heap.size ≤ i) (ha : Aft R T' P' l q) (hq : TakeIs w0.heap.size W g b lim F w q e w') :
    e = .returned (.int .i64 q.1) ∧ ∃ cl' F', OpL w0 F w F' w' ∧ LaSt w0 W g b lim R T' P' cl' F' w' ∧ (cl' = some l ∨ cl' = none) := by
  obtain ⟨he, hq⟩ := hq
  refine ⟨he, ?_⟩
  rcases hq with ⟨h0, F', hS, hf, hs⟩ | ⟨h0, m', hM, hf, hs⟩
  · obtain ⟨k1, k2⟩ := ha.2 h0
    exact ⟨some l, F', ⟨hf, hs, hf.to_below hB hF⟩, .inl ⟨_, _, by rw [k1], hS, k2⟩, .inl rfl⟩
  · exact ⟨none, _, ⟨hf, hs, hf.to_below hB hF⟩, .inr ⟨rfl, m', _, hM, rfl, ha.1⟩, .inr rfl⟩
/-- Append -/
def AppL (w0 : World) (W g b lim R T : Nat) (P : Lg → Prop) (l : List XE) (cl : Option Lg) (F : List Nat) (w : World) (e : Ending) (w' : World) : Prop :=
  ∃ (z : Int) (F' : List Nat), e = .returned (.int .i64 z) ∧ OpL w0 F w F' w' ∧
    (((z = 1 ∨ z = 7 ∨ z = 8) ∧ LaSt w0 W g b lim R T P cl F' w') ∨
     (Nice z ∧ ∃ lg cl', cl = some lg ∧ (∀ x ∈ l, okX x = true) ∧ Seq lg.last (l.map XE.e) ∧ LaSt w0 W g b lim R (T + cost (l.map XE.e)) (fun g => P g ∨ ∃ i, i ≤ l.length ∧ g = addAll lg ((l.map XE.e).take i)) cl' F' w' ∧ (cl' = some (addAll lg (l.map XE.e)) ∨ cl' = none)))
theorem app_la {cl : Option Lg} (h : LaSt w0 W g b lim R T P cl F w) (hB : Below w0.heap.size w0 w) (hT : T ≤ 400000) (hes : ∀ lg, cl = some lg → lg.es.length ≤ 1000000) (A : Option Addr) (n cap : Nat) (l : List XE) (hr : RdX w A n l) (hn : n ≤ 100000) (hlow : ∀ x ∈ l, 0 < x.d.length → ∀ a, x.A = some a → a.block < w0.heap.size) :
    Calls Tryz.prog 21 #[.pointer (some ⟨W, 0, none⟩), .slice A n cap] w (AppL w0 W g b lim R T P l cl F w) := by
  have hft := h.foot
  rcases h with ⟨c, t, h1, ⟨m, ve, vs, xs, hX, hF⟩, h3⟩ | ⟨h1, m, t, h2, h3, h4⟩
  · subst hF
    obtain ⟨k1, L, S, k2, k3, k4⟩ := h3.few
    refine (wappend_any hX k2 (by omega) (by omega) (by omega) (hes _ h1) A n cap l hr hn (fun x hx hp a ha hm => by have := hlow x hx hp a ha; have := hX.low _ hm; omega)).mono ?_
    rintro e w' (⟨_, rfl, hb⟩ | ⟨_, _, rfl, hb⟩ | ⟨hok, hseq, hq⟩)
    · exact ⟨1, _, rfl, OpL.stay hB hb (fun i hi => (hft i hi).2), .inl ⟨.inl rfl, .inl ⟨c, t, h1, ⟨m, ve, vs, xs, hX.below hb, rfl⟩, h3⟩⟩⟩
    · exact ⟨7, _, rfl, OpL.stay hB hb (fun i hi => (hft i hi).2), .inl ⟨.inr (.inl rfl), .inl ⟨c, t, h1, ⟨m, ve, vs, xs, hX.below hb, rfl⟩, h3⟩⟩⟩
    · have hEO : ∀ e ∈ l.map XE.e, e.Ok := by
        intro e he
        obtain ⟨x, hx, rfl⟩ := List.mem_map.1 he
        exact XE.e_ok (hok x hx) (hr.2.2.2 x hx).1.2.2.1
      have ha := h3.app lim (l.map XE.e) hX.ct.ok.1.1 hEO hseq
      obtain ⟨he, cl', F', h5, h6, h7⟩ := la_take hB (fun i hi => (hft i hi).1) ha hq
      refine ⟨_, F', he, h5, .inr ⟨nice_apps _ _ _ _, c.lg, cl', h1, hok, hseq, ?_, h7⟩⟩
      simpa using h6
  · refine (wappend_brk h2 A n cap).mono ?_
    rintro e w' ⟨rfl, hb⟩
    exact ⟨8, F, rfl, OpL.stay hB hb (fun i hi => (hft i hi).2), .inl ⟨.inr (.inr rfl), .inr ⟨h1, m, t, h2.below hb, h3, h4⟩⟩⟩
/-- Cut -/
def CutL (w0 : World) (W g b lim R T : Nat) (P : Lg → Prop) (i : Int) (cl : Option Lg) (F : List Nat) (w : World) (e : Ending) (w' : World) : Prop :=
  ∃ (z : Int) (F' : List Nat), e = .returned (.int .i64 z) ∧ OpL w0 F w F' w' ∧
    (((z = 1 ∨ z = 7 ∨ z = 8) ∧ LaSt w0 W g b lim R T P cl F' w') ∨
     (z = 0 ∧ ∃ lg, cl = some lg ∧ i = (lg.last : Int) + 1 ∧ LaSt w0 W g b lim R T P cl F' w') ∨
     (Nice z ∧ ∃ lg cl', cl = some lg ∧ (lg.base : Int) < i ∧ i ≤ (lg.last : Int) ∧ LaSt w0 W g b lim R (T + 35) (fun g => P g ∨ g = lg.cut i.toNat) cl' F' w' ∧ (cl' = some (lg.cut i.toNat) ∨ cl' = none)))
theorem cut_la {cl : Option Lg} (h : LaSt w0 W g b lim R T P cl F w) (hB : Below w0.heap.size w0 w) (hT : T ≤ 400000) (i : Int) :
    Calls Tryz.prog 22 #[.pointer (some ⟨W, 0, none⟩), .int .i64 i] w (CutL w0 W g b lim R T P i cl F w) := by
  have hft := h.foot
  rcases h with ⟨c, t, h1, ⟨m, ve, vs, xs, hX, hF⟩, h3⟩ | ⟨h1, m, t, h2, h3, h4⟩
  · subst hF
    obtain ⟨k1, L, S, k2, k3, k4⟩ := h3.few
    refine (wcut_any hX k2 (by omega) (by omega) (by omega) i).mono ?_
    rintro e w' (⟨_, rfl, hb⟩ | ⟨hi, rfl, hb⟩ | ⟨⟨i1, i2⟩, hq⟩)
    · exact ⟨7, _, rfl, OpL.stay hB hb (fun i hi => (hft i hi).2), .inl ⟨.inr (.inl rfl), .inl ⟨c, t, h1, ⟨m, ve, vs, xs, hX.below hb, rfl⟩, h3⟩⟩⟩
    · exact ⟨0, _, rfl, OpL.stay hB hb (fun i hi => (hft i hi).2), .inr (.inl ⟨rfl, c.lg, h1, hi, .inl ⟨c, t, h1, ⟨m, ve, vs, xs, hX.below hb, rfl⟩, h3⟩⟩)⟩
    · have ha := h3.cut hX.ct.ok.1.1 i.toNat (by omega) (by omega)
      obtain ⟨he, cl', F', h5, h6, h7⟩ := la_take hB (fun i hi => (hft i hi).1) ha hq
      exact ⟨_, F', he, h5, .inr (.inr ⟨nice_rec _ _ _ _, c.lg, cl', h1, i1, i2, h6, h7⟩)⟩
  · refine (wcut_brk h2 i).mono ?_
    rintro e w' ⟨rfl, hb⟩
    exact ⟨8, F, rfl, OpL.stay hB hb (fun i hi => (hft i hi).2), .inl ⟨.inr (.inr rfl), .inr ⟨h1, m, t, h2.below hb, h3, h4⟩⟩⟩
/-- Reset -/
def ResL (w0 : World) (W g b lim R T : Nat) (P : Lg → Prop) (i : Int) (cl : Option Lg) (F : List Nat) (w : World) (e : Ending) (w' : World) : Prop :=
  ∃ (z : Int) (F' : List Nat), e = .returned (.int .i64 z) ∧ OpL w0 F w F' w' ∧
    (((z = 1 ∨ z = 7 ∨ z = 8) ∧ LaSt w0 W g b lim R T P cl F' w') ∨
     (Nice z ∧ ∃ cl', 1 ≤ i ∧ i ≤ (MI : Int) ∧ LaSt w0 W g b lim R (T + 35) (fun g => P g ∨ g = Lg.restart i.toNat) cl' F' w' ∧ (cl' = some (Lg.restart i.toNat) ∨ cl' = none)))
theorem reset_la {cl : Option Lg} (h : LaSt w0 W g b lim R T P cl F w) (hB : Below w0.heap.size w0 w) (hT : T ≤ 400000) (i : Int) :
    Calls Tryz.prog 23 #[.pointer (some ⟨W, 0, none⟩), .int .i64 i] w (ResL w0 W g b lim R T P i cl F w) := by
  have hft := h.foot
  rcases h with ⟨c, t, h1, ⟨m, ve, vs, xs, hX, hF⟩, h3⟩ | ⟨h1, m, t, h2, h3, h4⟩
  · subst hF
    obtain ⟨k1, L, S, k2, k3, k4⟩ := h3.few
    by_cases hi : 1 ≤ i ∧ i ≤ (MI : Int)
    · obtain ⟨k, rfl⟩ : ∃ k : Nat, i = (k : Int) := ⟨i.toNat, by omega⟩
      refine (wreset_any hX k2 (by omega) (by omega) (by omega) k (by omega) (by omega)).mono ?_
      intro e w' hq
      have ha := h3.reset k (by omega) (by omega)
      obtain ⟨he, cl', F', h5, h6, h7⟩ := la_take hB (fun i hi => (hft i hi).1) ha hq
      exact ⟨_, F', he, h5, .inr ⟨nice_rec _ _ _ _, cl', hi.1, hi.2, by rw [Int.toNat_natCast]; exact h6, by rw [Int.toNat_natCast]; exact h7⟩⟩
    · refine (wreset_bad hX i (by omega)).mono ?_
      rintro e w' ⟨rfl, hb⟩
      exact ⟨1, _, rfl, OpL.stay hB hb (fun i hi => (hft i hi).2), .inl ⟨.inl rfl, .inl ⟨c, t, h1, ⟨m, ve, vs, xs, hX.below hb, rfl⟩, h3⟩⟩⟩
  · refine (wreset_brk h2 i).mono ?_
    rintro e w' ⟨rfl, hb⟩
    exact ⟨8, F, rfl, OpL.stay hB hb (fun i hi => (hft i hi).2), .inl ⟨.inr (.inr rfl), .inr ⟨h1, m, t, h2.below hb, h3, h4⟩⟩⟩
/-- Sync -/
def SynL (w0 : World) (W g b lim R T : Nat) (P : Lg → Prop) (cl : Option Lg) (F : List Nat) (w : World) (e : Ending) (w' : World) : Prop :=
  ∃ (z : Int) (F' : List Nat), e = .returned (.int .i64 z) ∧ OpL w0 F w F' w' ∧
    ((z = 0 ∧ ∃ lg, cl = some lg ∧ LaSt w0 W g b lim R T (fun g => g = lg) cl F' w') ∨ (z ≠ 0 ∧ LaSt w0 W g b lim R T P none F' w'))
theorem syn_la {cl : Option Lg} (h : LaSt w0 W g b lim R T P cl F w) (hB : Below w0.heap.size w0 w) (hT : T ≤ 400000) :
    Calls Tryz.prog 24 #[.pointer (some ⟨W, 0, none⟩)] w (SynL w0 W g b lim R T P cl F w) := by
  have hft := h.foot
  rcases h with ⟨c, t, h1, ⟨m, ve, vs, xs, hX, hF⟩, h3⟩ | ⟨h1, m, t, h2, h3, h4⟩
  · subst hF
    obtain ⟨k1, L, S, k2, k3, k4⟩ := h3.few
    obtain ⟨q1, q2⟩ := h3.syn
    refine (waSync_any hX k2 (by omega) (by omega)).mono ?_
    rintro e w' ⟨he, hq⟩
    rcases hq with ⟨h0, F', hS, hf, hs⟩ | ⟨h0, m', hM, hf, hs⟩
    · obtain ⟨e1, e2⟩ := q2 h0
      rw [e1] at hS e2
      exact ⟨_, F', he, ⟨hf, hs, hf.to_below hB fun i hi => (hft i hi).1⟩, .inl ⟨h0, c.lg, h1, .inl ⟨c, _, h1, hS, e2⟩⟩⟩
    · exact ⟨_, _, he, ⟨hf, hs, hf.to_below hB fun i hi => (hft i hi).1⟩, .inr ⟨h0, .inr ⟨rfl, m', _, hM, rfl, q1⟩⟩⟩
  · refine (waSync_brk h2).mono ?_
    rintro e w' ⟨rfl, rfl⟩
    exact ⟨8, F, rfl, OpL.stay hB (Below.refl _ _) (fun i hi => (hft i hi).2), .inr ⟨by decide, .inr ⟨rfl, m, t, h2, h3, h4⟩⟩⟩
end
end Go.Proofs.YtnppomiggajhnaaGreatDoor.Wl
