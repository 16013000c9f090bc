/-
  Layer 10, the document's own: lead, down, says, all. Conditions: as each theorem states.
-/
import Derived.Test.YtjajgjpkiofhmaaElR0
namespace Go.Proofs.Ytjajgjpkiofhmaa.El
open Go.RowKit Go.Proofs.Ytjajgjpkiofhmaa.Qu Go.Proofs.Ytjajgjpkiofhmaa.Fld
set_option linter.unusedVariables false

theorem rlead_any {lo N : Nat} (q : Ql) (s : St) (w : World) (h : Rm lo N w q s) : Calls Try.prog 50 #[.pointer (some ⟨q.g, 0, none⟩)] w fun e w' => e = .returned (.tuple #[]) ∧ RD lo N w w' q q (leadS s) := by
  have h1 := h.rb.set 6 (.int .i64 3) (s' := { s with role := 3 }) rfl (by omega) rfl rfl (role_ok h.rb.ok (by omega))
  have h2 := h1.rb.set 7 (.int .i64 s.id) (s' := leadS s) rfl (by omega) rfl rfl (leadS_ok h.rb.ok)
  have HD := Lib.hid ((h1.then h2).rd h.hy h.hn)
  obtain ⟨c0, _, _, _, _, _, c6, c7, _, _, _, _⟩ := h.rb.cells
  have f6 := Blk.free h.rb.blk 6
  have f7 := Blk.free h1.rb.blk 7
  clear h h1 h2
  go_enter Try.func50, Try.ntmps50
  go_wp2
  go_end0
  exact ⟨rfl, HD.out⟩
set_option maxHeartbeats 1600000 in
theorem rdown_any {lo N : Nat} (q : Ql) (s : St) (t : Int) (w : World) (h : Rm lo N w q s) (ht : okTerm t = true) : Calls Try.prog 47 #[.pointer (some ⟨q.g, 0, none⟩), .int .i64 t] w fun e w' => e = .returned (.tuple #[]) ∧ ∃ q', RD lo N w w' q q' (down s t) ∧ q'.g = q.g := by
  have hok := h.rb.ok
  have h1 := h.rb.set 1 (.int .i64 t) (s' := { s with term := t, vote := s.vote }) rfl (by omega) rfl rfl ⟨hok.id1, by have := (okHard_iff _ _).1 hok.hard; exact (okHard_iff _ _).2 ⟨(okTerm_iff _).1 ht, this.2⟩, hok.grp, hok.pat1, hok.w0, hok.lm, hok.role, hok.lead, hok.am⟩
  have h2 := h1.rb.set 2 (.int .i64 0) (s' := { s with term := t, vote := 0 }) rfl (by omega) rfl rfl ⟨hok.id1, by have := (okHard_iff _ _).1 hok.hard; exact (okHard_iff _ _).2 ⟨(okTerm_iff _).1 ht, .inl rfl⟩, hok.grp, hok.pat1, hok.w0, hok.lm, hok.role, hok.lead, hok.am⟩
  have h3 := h2.rb.set 6 (.int .i64 0) (s' := { s with term := t, vote := 0, role := 0 }) rfl (by omega) rfl rfl (role_ok h2.rb.ok (by omega))
  have h4 := h3.rb.set 7 (.int .i64 0) (s' := { s with term := t, vote := 0, role := 0, lead := 0 }) rfl (by omega) rfl rfl ⟨h3.rb.ok.id1, h3.rb.ok.hard, h3.rb.ok.grp, h3.rb.ok.pat1, h3.rb.ok.w0, h3.rb.ok.lm, h3.rb.ok.role, by simp, h3.rb.ok.am⟩
  have h5 := h4.rb.noY
  have h6 := h5.rb.noN
  have h7 := (((((h1.then h2).then h3).then h4).then h5).then h6)
  have hd : RDb lo N w _ q _ (down s t) := ⟨⟨h7.rb.blk, h7.rb.ry, h7.rb.rn, h7.rb.yn, h7.rb.vs, h7.rb.ls, h7.rb.va, h7.rb.la, h7.rb.lg, h7.rb.ny, h7.rb.nn, down_ok hok ht⟩, h7.fr, h7.ft⟩
  have HD := Lib.hid (hd.rd none_y none_n)
  obtain ⟨c0, c1, c2, _, _, _, c6, c7, _, _, c10, c11⟩ := h.rb.cells
  have f1 := Blk.free h.rb.blk 1
  have f2 := Blk.free h1.rb.blk 2
  have f6 := Blk.free h2.rb.blk 6
  have f7 := Blk.free h3.rb.blk 7
  have f10 := Blk.free h4.rb.blk 10
  have f11 := Blk.free h5.rb.blk 11
  clear h hok h1 h2 h3 h4 h5 h6 h7 hd
  go_enter Try.func47, Try.ntmps47
  go_wp2
  go_end0
  exact ⟨rfl, _, HD.out, rfl⟩
theorem hasI_snoc (l : List Int) (k x : Int) : hasI (l ++ [k]) x = (hasI l x || (x == k)) := by
  rw [Bool.eq_iff_iff]
  unfold hasI
  simp
theorem rec_y {s : St} {b : Bal} (h0 : s.am b.frm = 0) (l : List Int) (h : ∀ x, hasI l x = (s.am x == 1)) (hy : b.yes = true) (x : Int) : hasI (l ++ [b.frm]) x = (recA s.am b x == 1) := by
  rw [hasI_snoc, h]
  unfold recA setA
  rw [if_pos h0, hy]
  by_cases e : x = b.frm
  · subst e; simp
  · simp [e]
theorem rec_y' {s : St} {b : Bal} (h0 : s.am b.frm = 0) (l : List Int) (h : ∀ x, hasI l x = (s.am x == 2)) (hy : b.yes = true) (x : Int) : hasI l x = (recA s.am b x == 2) := by
  rw [h]
  unfold recA setA
  rw [if_pos h0, hy]
  by_cases e : x = b.frm
  · subst e; simp [h0]
  · simp [e]
theorem rec_n {s : St} {b : Bal} (h0 : s.am b.frm = 0) (l : List Int) (h : ∀ x, hasI l x = (s.am x == 2)) (hy : b.yes = false) (x : Int) : hasI (l ++ [b.frm]) x = (recA s.am b x == 2) := by
  rw [hasI_snoc, h]
  unfold recA setA
  rw [if_pos h0, hy]
  by_cases e : x = b.frm
  · subst e; simp
  · simp [e]
theorem rec_n' {s : St} {b : Bal} (h0 : s.am b.frm = 0) (l : List Int) (h : ∀ x, hasI l x = (s.am x == 1)) (hy : b.yes = false) (x : Int) : hasI l x = (recA s.am b x == 1) := by
  rw [h]
  unfold recA setA
  rw [if_pos h0, hy]
  by_cases e : x = b.frm
  · subst e; simp [h0]
  · simp [e]
theorem ownsI_read {w : World} {lo : Nat} {v : Value} {l : List Int} (h : w.ownsRow lo 3 1 v l.length (vI l)) : ∃ A cap, v = .slice A l.length cap ∧ RdI w A l.length l := by
  obtain ⟨A, cap, rfl, _⟩ := row_slice h
  exact ⟨A, cap, rfl, row_rdI h⟩
/-- append of one number onto a row -/
theorem wpList_append_one {w : World} {ops : Array Oper} {rest : List Oper} {o : Oper} {a : Act} {Q : Exit → Act → World → Prop} (hgd : o.guard = none) (s x : Operand)
    (ho : o.op = .call { callee := .builtin .append, args := #[s, x], argTypes := #[24, 24] })
    (lo : Nat) (v : Value) (l : List Int) (hs : a.eval s = v) (hown : w.ownsRow lo 3 1 v l.length (vI l)) (b : Nat) (y : Int) (hx : a.eval x = .slice (some ⟨b, 0, none⟩) 1 1) (hc : w.cell? ⟨b, 0, none⟩ = some (.int .i64 y)) (hb : l.length + 1 ≤ 1000000) (hlo : lo ≤ w.heap.size)
    (h : ∀ v' w', w'.ownsRow lo 3 1 v' (l.length + 1) (vI (l ++ [y])) → w.grownBy w' v.ownBlock → (v'.ownBlock = v.ownBlock ∨ v'.ownBlock = some w.heap.size) → wpList Try.prog ops Q rest (a.put o.dst v') w') : wpList Try.prog ops Q (o :: rest) a w := by
  obtain ⟨i, hi, hz, hsz, hby⟩ := int_info
  refine wpList_append_own_at w hgd s x _ ho lo 3 i _ 1 8 Try.underlying24 hi hz hsz hby rfl (by omega) v _ _ hs hown ⟨b, 0, none⟩ 1 1 (vI [y]) hx (by simp [vI]) ?_ (vI_one [y]) (by unfold maxLen; omega) (by omega) hlo ?_
  · intro j u hu
    have hj : j = 0 := by
      rcases Nat.eq_zero_or_pos j with hj | hj
      · exact hj
      · rw [List.getElem?_eq_none (by simp [vI]; omega)] at hu; cases hu
    subst hj
    simp [vI] at hu
    rw [← hu]
    have : (⟨b, 0, none⟩ : Addr).add 0 = ⟨b, 0, none⟩ := by unfold Addr.add; split <;> simp_all
    rw [this]
    exact hc
  · intro v' w' hrow' hg _ hat
    refine h v' w' ?_ hg hat
    rw [vI_append]
    exact hrow'
set_option maxRecDepth 100000 in
set_option maxHeartbeats 1600000 in
theorem rsays_any {lo N : Nat} (q : Ql) (s : St) (b : Bal) (w : World) (h : Rm lo N w q s) (hb : okNode b.frm = true) (hN : N ≤ 100000) : Calls Try.prog 48 #[.pointer (some ⟨q.g, 0, none⟩), .int .i64 b.frm, .bool b.yes] w fun e w' => e = .returned (.tuple #[]) ∧ ∃ q', RD lo (N + 1) w w' q q' (recS s b) ∧ q'.g = q.g := by
  obtain ⟨YA, yc, hyv, hyr⟩ := ownsI_read h.rb.ry
  obtain ⟨NA, nc, hnv, hnr⟩ := ownsI_read h.rb.rn
  obtain ⟨_, _, _, _, _, _, _, _, _, _, c10, c11⟩ := h.rb.cells
  have f10 := Blk.free h.rb.blk 10
  have f11 := Blk.free h.rb.blk 11
  have HM := Lib.hid h
  have hny := h.rb.ny
  have hnn := h.rb.nn
  have hbl := Blk.lt h.rb.blk
  have hlg := h.rb.lg
  have HY := Lib.hid (has_any YA q.yl.length yc q.yl b.frm w hyr)
  have HNO := Lib.hid (has_any NA q.nl.length nc q.nl b.frm w hnr)
  have HRO := Lib.hid (recS_ok (b := b) h.rb.ok hb)
  rw [h.hy b.frm] at HY
  rw [h.hn b.frm] at HNO
  rw [hyv] at c10
  rw [hnv] at c11
  have HYV := Lib.hid hyv
  have HNV := Lib.hid hnv
  have hok := h.rb.ok.am b.frm
  clear h hyv hnv hyr hnr
  by_cases h0 : s.am b.frm = 0
  · have e1 : (s.am b.frm == 1) = false := by simp [h0]
    have e2 : (s.am b.frm == 2) = false := by simp [h0]
    rw [e1] at HY
    rw [e2] at HNO
    have H0 := Lib.hid h0
    clear hok e1 e2 h0
    cases hy : b.yes with
    | true =>
      have hrw : (w.alloc (.cells #[.int .i64 b.frm] 3)).ownsRow lo 3 1 (.slice YA q.yl.length yc) q.yl.length (vI q.yl) := by
        have := HM.out.rb.ry
        rw [HYV.out] at this
        exact row_of this fun i hi => (alloc_below w _).block i (row_lo this i hi).2
      have HRW := Lib.hid hrw
      have hcell : (w.alloc (.cells #[.int .i64 b.frm] 3)).cell? ⟨w.heap.size, 0, none⟩ = some (.int .i64 b.frm) := (Blk.new w #[.int .i64 b.frm] 3).cell 0 _ rfl
      have HCL := Lib.hid hcell
      have HY2 := Lib.hid (rec_y H0.out q.yl HM.out.hy hy)
      have HN2 := Lib.hid (rec_y' H0.out q.nl HM.out.hn hy)
      have HLO := Lib.hid (show lo ≤ (w.alloc (.cells #[.int .i64 b.frm] 3)).heap.size by have := (alloc_below w (.cells #[.int .i64 b.frm] 3)).size; omega)
      clear hrw hcell hy
      go_enter Try.func48, Try.ntmps48
      go_wp2_with fail
      refine HY.out.mono ?_
      rintro e w' ⟨rfl, rfl⟩
      go_wp2_with fail
      refine HNO.out.mono ?_
      rintro e w' ⟨rfl, rfl⟩
      go_wp2_with (at_builtin; refine wpList_append_one rfl _ _ rfl lo (.slice YA q.yl.length yc) q.yl rfl HRW.out w.heap.size b.frm rfl HCL.out (by omega) HLO.out ?_; intro v3 w3 hr3 hg3 ha3; have hgne := HM.out.rb.gne.1; rw [HYV.out] at hgne; have hBw : Blk w3 q.g (rnC q s) 51 := (hg3.block q.g (by have := (alloc_below w (.cells #[.int .i64 b.frm] 3)).size; omega) (fun e => hgne e.symm)).trans ((alloc_below w _).block q.g hbl |>.trans HM.out.rb.blk); have c10 := hBw.cell 10 q.yv rfl; rw [HYV.out] at c10; have f10 := Blk.free hBw 10; obtain ⟨VA3, vc3, hv3, _⟩ := row_slice hr3; subst hv3; have HR3 := Lib.hid hr3; have HG3 := Lib.hid hg3; have HA3 := Lib.hid ha3; clear hgne hBw hr3 hg3 ha3)
      go_end0
      have hs := HM.out.rb.setY (N' := N + 1) (.slice VA3 (q.yl.length + 1) vc3) (q.yl ++ [b.frm]) (((Dk.Fr.below (alloc_below w _)).grown HG3.out (fun i hi => .inl (by rw [HYV.out, hi]; simp)))) (by rw [List.length_append]; exact HR3.out) (by
        rcases HA3.out with h | h
        · exact .inl (by rw [HYV.out]; exact h)
        · refine .inr (.inr fun i hi => ?_)
          rw [h] at hi
          cases hi
          exact (alloc_below w (.cells #[.int .i64 b.frm] 3)).size) (Nat.le_succ _) (by simp; omega)
      refine ⟨rfl, _, (hs.am (s' := recS s b) rfl rfl rfl HRO.out).rd HY2.out HN2.out, rfl⟩
    | false =>
      have hrw : (w.alloc (.cells #[.int .i64 b.frm] 3)).ownsRow lo 3 1 (.slice NA q.nl.length nc) q.nl.length (vI q.nl) := by
        have := HM.out.rb.rn
        rw [HNV.out] at this
        exact row_of this fun i hi => (alloc_below w _).block i (row_lo this i hi).2
      have HRW := Lib.hid hrw
      have hcell : (w.alloc (.cells #[.int .i64 b.frm] 3)).cell? ⟨w.heap.size, 0, none⟩ = some (.int .i64 b.frm) := (Blk.new w #[.int .i64 b.frm] 3).cell 0 _ rfl
      have HCL := Lib.hid hcell
      have HY2 := Lib.hid (rec_n' H0.out q.yl HM.out.hy hy)
      have HN2 := Lib.hid (rec_n H0.out q.nl HM.out.hn hy)
      have HLO := Lib.hid (show lo ≤ (w.alloc (.cells #[.int .i64 b.frm] 3)).heap.size by have := (alloc_below w (.cells #[.int .i64 b.frm] 3)).size; omega)
      clear hrw hcell hy
      go_enter Try.func48, Try.ntmps48
      go_wp2_with fail
      refine HY.out.mono ?_
      rintro e w' ⟨rfl, rfl⟩
      go_wp2_with fail
      refine HNO.out.mono ?_
      rintro e w' ⟨rfl, rfl⟩
      go_wp2_with (at_builtin; refine wpList_append_one rfl _ _ rfl lo (.slice NA q.nl.length nc) q.nl rfl HRW.out w.heap.size b.frm rfl HCL.out (by omega) HLO.out ?_; intro v3 w3 hr3 hg3 ha3; have hgne := HM.out.rb.gne.2; rw [HNV.out] at hgne; have hBw : Blk w3 q.g (rnC q s) 51 := (hg3.block q.g (by have := (alloc_below w (.cells #[.int .i64 b.frm] 3)).size; omega) (fun e => hgne e.symm)).trans ((alloc_below w _).block q.g hbl |>.trans HM.out.rb.blk); have c11 := hBw.cell 11 q.nv rfl; rw [HNV.out] at c11; have f11 := Blk.free hBw 11; obtain ⟨VA3, vc3, hv3, _⟩ := row_slice hr3; subst hv3; have HR3 := Lib.hid hr3; have HG3 := Lib.hid hg3; have HA3 := Lib.hid ha3; clear hgne hBw hr3 hg3 ha3)
      go_end0
      have hs := HM.out.rb.setN (N' := N + 1) (.slice VA3 (q.nl.length + 1) vc3) (q.nl ++ [b.frm]) (((Dk.Fr.below (alloc_below w _)).grown HG3.out (fun i hi => .inl (by rw [HNV.out, hi]; simp)))) (by rw [List.length_append]; exact HR3.out) (by
        rcases HA3.out with h | h
        · exact .inl (by rw [HNV.out]; exact h)
        · refine .inr (.inr fun i hi => ?_)
          rw [h] at hi
          cases hi
          exact (alloc_below w (.cells #[.int .i64 b.frm] 3)).size) (Nat.le_succ _) (by simp; omega)
      refine ⟨rfl, _, (hs.am (s' := recS s b) rfl rfl rfl HRO.out).rd HY2.out HN2.out, rfl⟩
  · have HE := Lib.hid (show recS s b = s by unfold recS recA; rw [if_neg h0])
    rcases hok.resolve_left h0 with ⟨_, h1 | h1⟩
    · rw [show (s.am b.frm == 1) = true by simp [h1]] at HY
      rw [show (s.am b.frm == 2) = false by simp [h1]] at HNO
      clear hok h0 h1
      go_enter Try.func48, Try.ntmps48
      go_wp2_with fail
      refine HY.out.mono ?_
      rintro e w' ⟨rfl, rfl⟩
      go_wp2_with fail
      refine HNO.out.mono ?_
      rintro e w' ⟨rfl, rfl⟩
      go_wp2
      first | go_end0 | ((try simp only [Exit.inBlock, Exit.then]); refine bodyPost_ret (results_none rfl _ _ _) rfl ?_)
      exact ⟨rfl, q, by rw [HE.out]; exact RD.same (HM.out.mono (Nat.le_succ _)) (Below.refl _ _), rfl⟩
    · rw [show (s.am b.frm == 1) = false by simp [h1]] at HY
      rw [show (s.am b.frm == 2) = true by simp [h1]] at HNO
      clear hok h0 h1
      go_enter Try.func48, Try.ntmps48
      go_wp2_with fail
      refine HY.out.mono ?_
      rintro e w' ⟨rfl, rfl⟩
      go_wp2_with fail
      refine HNO.out.mono ?_
      rintro e w' ⟨rfl, rfl⟩
      go_wp2
      first | go_end0 | ((try simp only [Exit.inBlock, Exit.then]); refine bodyPost_ret (results_none rfl _ _ _) rfl ?_)
      exact ⟨rfl, q, by rw [HE.out]; exact RD.same (HM.out.mono (Nat.le_succ _)) (Below.refl _ _), rfl⟩
set_option maxRecDepth 100000 in
set_option maxHeartbeats 3200000 in
theorem rall_any {lo N : Nat} (q : Ql) (s : St) (kind term last lt : Int) (w : World) (h : Rb lo N w q s) : Calls Try.prog 39 #[.pointer (some ⟨q.g, 0, none⟩), .int .i64 kind, .int .i64 term, .int .i64 last, .int .i64 lt] w fun e w' => ∃ v, e = .returned v ∧ OwnB w w' v (askAll s kind term last lt) := by
  have HIM := Lib.hid h
  have hlen := (grp_len h.ok.grp).1
  have HT := Lib.hid (askL_take s kind term last lt s.vs)
  have HLE := Lib.hid (askL_len s kind term last lt)
  have HQ := Lib.hid (show askAll s kind term last lt = askL s kind term last lt s.vs from rfl)
  rw [HQ.out]
  generalize hvn : s.vs.length = vn at *
  have HVN := Lib.hid hvn
  generalize hva : q.VA = VA at *
  have HVA := Lib.hid hva
  clear h hvn hva
  go_enter Try.func39, Try.ntmps39
  go_wp2_with fail
  go_loopw [11, 12] (fun v i wr => ∃ k : Nat, k ≤ vn ∧ i = .int .i64 k ∧ OwnB w wr v (askL s kind term last lt (s.vs.take k))) (fun _ i _ => vn - (intOf i).toNat)
  case atStart => exact ⟨0, Nat.zero_le _, rfl, OwnB.nil _ _ (Below.refl _ _)⟩
  case round =>
    obtain ⟨k, hk, rfl, hO⟩ := hrel
    have HO := Lib.hid hO
    have HI := Lib.hid (HIM.out.below hO.1)
    clear hO
    have c0 := HI.out.cells.1
    have c3 := HI.out.cells.2.2.2.1
    rw [HVN.out, HVA.out] at c3
    by_cases hlt : k < vn
    · have hvs := HIM.out.vs
      rw [HVN.out, HVA.out] at hvs
      obtain ⟨b, off, rfl, hcell⟩ := hvs.2.2 (by omega)
      have hcw := hcell k hlt
      clear hcell
      have HCW := Lib.hid hcw
      have hc := (HO.out.1.cell (lt_of_cell hcw)).trans hcw
      have HT1 := Lib.hid (HT.out k hlt)
      have hle := Nat.le_trans (HLE.out (s.vs.take k)) (show (s.vs.take k).length ≤ vn by rw [List.length_take, HVN.out]; omega)
      clear hcw
      generalize s.vs.getD k 0 = y at *
      generalize hrr : askL s kind term last lt (s.vs.take k) = rr at *
      have j1 : (k : Int) < (vn : Int) := by omega
      have j0 : (0 : Int) ≤ (k : Int) := by omega
      clear hvs
      by_cases hxy : y = s.id
      · have q1 : (y != s.id) = false := by simpa using hxy
        have HT2 := Lib.hid (show askL s kind term last lt (s.vs.take (k + 1)) = rr by rw [HT1.out, if_pos hxy]; simp)
        clear hxy
        go_wp2_with fail
        go_quiet (fail)
        go_wp2_with fail
        go_roundw
        case rel => exact ⟨k + 1, by omega, by go_num, by rw [HT2.out]; exact HO.out.below (below_dr _ _)⟩
        case measure => simp [intOf]; omega
      · have q1 : (y != s.id) = true := by simpa using hxy
        have HT2 := Lib.hid (show askL s kind term last lt (s.vs.take (k + 1)) = rr ++ [askB s kind term last lt y] by rw [HT1.out, if_neg hxy])
        obtain ⟨RA, rc, rfl, _, _, _, hrn⟩ := row_slice HO.out.2
        clear hxy
        go_wp2_with fail
        go_region
        go_wp2_with fail
        go_region_held3 (fun w' => w'.cell? ⟨q.g, 0, none⟩ = some (.int .i64 s.id) ∧ w'.cell? ⟨q.g, 3, none⟩ = some (.slice (some ⟨b, off, none⟩) vn q.vc) ∧ w'.cell? ⟨b, off + k, none⟩ = some (.int .i64 y)) (first | exact ⟨by assumption, by assumption, by assumption⟩ | go_keep) (first
          | (refine step_append_rowB rfl _ _ rfl w.heap.size (.slice RA rr.length rc) rr.length (rowB rr) rfl (by exact (HO.out.below ((below_d1 wr).trans (alloc_below wr.drew _).drew)).2) (some ⟨wr.heap.size, 0, none⟩) 1 1 [askB s kind term last lt y] rfl (by exact rdB_one (Blk.new wr (ballC (askB s kind term last lt y)) 40)) (fun h => by cases h) (by omega) (by have := HO.out.1.size; simp at *; omega) ?_; intro v3 w3 hr3 hg3 ha3; have HO3 := Lib.hid (HO.out.push (ys := [askB s kind term last lt y]) (show Below wr.heap.size wr _ from (alloc_below wr (.cells (ballC (askB s kind term last lt y)) 40)).drew.drew) hg3 hr3); have HI3 := Lib.hid (HIM.out.below HO3.out.1); have d0 := HI3.out.cells.1; have d3 := HI3.out.cells.2.2.2.1; rw [HVN.out, HVA.out] at d3; have dvs := (HO3.out.1.cell (lt_of_cell HCW.out)).trans HCW.out; clear hr3 hg3 ha3))
        all_goals
          go_wp2_with fail
          go_roundw
          case rel => exact ⟨k + 1, by omega, by go_num, by rw [HT2.out]; exact HO3.out⟩
          case measure => simp [intOf]; omega
    · obtain rfl : k = vn := by omega
      have HF := Lib.hid (show s.vs.take k = s.vs by rw [← HVN.out, List.take_length])
      rw [HF.out] at HO
      go_wp2
      go_ret
      exact ⟨_, rfl, HO.out⟩
end Go.Proofs.Ytjajgjpkiofhmaa.El
