/-
  Several texts in one: Layer 12, a node that is alone: a read is put behind those that are done; settled, ask, Read. Conditions: the node lies in memory. Layer 12, a node that is alone: settled, ask, Read. Conditions: the node lies in memory, leads, and the entry at Committed has its term.
-/
import Derived.Test.YtjadfpcipicckaaGreatJRfE
import Derived.Deep.RegionLaw
namespace Go.Proofs.YtjadfpcipicckaaGreat.Rf
open Go.RowKit Go.Shelf Go.Proofs.YtjadfpcipicckaaGreat.Fld
open Go.Proofs.YtjadfpcipicckaaGreat.Qu (RdI)
set_option linter.unusedVariables false

theorem add0 (q j : Nat) : (⟨q, 0, none⟩ : Addr).add j = ⟨q, j, none⟩ := by
  unfold Addr.add
  split <;> simp_all
structure Ety (t e : TypeId) (size : Nat) : Prop where
  und : Tryz.prog.underlying t = some (.slice e)
  inf : ∃ (i : TypeInfo) (z : Value), Tryz.prog.info? e = some i ∧ i.zero = some z ∧ i.size = size ∧ z.cells.size = size ∧ i.bytes ≤ 64
  pos : 0 < size
theorem eread : Ety 46 82 2 := by
  refine ⟨Tryz.underlying46, ?_, by omega⟩
  have h : (Tryz.prog.info? 82).map (fun i => (i.zero, i.size, i.bytes)) = some (some (.agg #[.int .i64 0, .int .i64 0]), 2, 16) := by kernel_rfl
  cases hq : Tryz.prog.info? 82 with
  | none => simp [hq] at h
  | some i => simp [hq] at h; exact ⟨i, _, rfl, h.1, h.2.1, rfl, by omega⟩
theorem run_append1 {t e : TypeId} {size : Nat} (hE : Ety t e size) (w : World) (ty : TypeId) (lo : Nat) (v : Value) (n : Nat) (xs : List Value) (hown : w.ownsRow lo e size v n xs) (q : Nat) (c : Nat) (ys : List Value) (hl : ys.length = size) (hc : Rg.Blk w q ys.toArray e) (h1 : ∀ u ∈ ys, u.oneCell' = true) (hb : n ≤ 2000000) (hlo : lo ≤ w.heap.size) :
    ∃ v' w', (Builtin.append_ #[t, t] ty #[v, .slice (some ⟨q, 0, none⟩) 1 c]).run Tryz.prog w = .ok v' w' ∧ w'.ownsRow lo e size v' (n + 1) (xs ++ ys) ∧ w.grownBy w' v.ownBlock ∧ (v'.ownBlock = v.ownBlock ∨ v'.ownBlock = some w.heap.size) := by
  obtain ⟨i, z, i1, i2, i3, i4, i5⟩ := hE.inf
  obtain ⟨v', w', hrun, hrow, hg, _, hat⟩ := run_append_own_at (P := Tryz.prog) w lo t ty e i z size i.bytes hE.und i1 i2 i3 rfl i4 hE.pos v n xs hown ⟨q, 0, none⟩ 1 c ys (by omega) (by
    intro j u hu
    rw [add0]
    exact Rg.Blk.cell hc j u (by simpa using hu)) h1 (by unfold maxLen; omega) (by
      have : (n + 1) * i.bytes ≤ (2000000 + 1) * 64 := Nat.mul_le_mul (by omega) i5
      omega) hlo
  exact ⟨v', w', hrun, hrow, hg, hat⟩
theorem wpList_append1 {t e : TypeId} {size : Nat} (hE : Ety t e size) {w : World} {ops : Array Oper} {rest : List Oper} {o : Oper} {a : Act} {Q : Exit → Act → World → Prop} (hgd : o.guard = none) (s x : Operand)
    (ho : o.op = .call { callee := .builtin .append, args := #[s, x], argTypes := #[t, t] })
    (lo : Nat) (v : Value) (n : Nat) (xs : List Value) (hs : a.eval s = v) (hown : w.ownsRow lo e size v n xs)
    (q : Nat) (c : Nat) (ys : List Value) (hx : a.eval x = .slice (some ⟨q, 0, none⟩) 1 c) (hl : ys.length = size) (hc : Rg.Blk w q ys.toArray e) (h1 : ∀ u ∈ ys, u.oneCell' = true) (hb : n ≤ 2000000) (hlo : lo ≤ w.heap.size)
    (h : ∀ v' w', w'.ownsRow lo e size v' (n + 1) (xs ++ ys) → w.grownBy w' v.ownBlock → (v'.ownBlock = v.ownBlock ∨ v'.ownBlock = some w.heap.size) → wpList Tryz.prog ops Q rest (a.put o.dst v') w') : wpList Tryz.prog ops Q (o :: rest) a w := by
  obtain ⟨v', w', hrun, k1, k2, k3⟩ := run_append1 hE w o.type lo v n xs hown q c ys hl hc h1 hb hlo
  refine wpList_plain hgd fun K' hK' => ?_
  unfold Oper.wp execOp
  simp only [ho, resolve, invoke, builtin, Sem.run_bind, Sem.run_pure, Result.andThen_ok, List.map_toArray, List.map_cons, List.map_nil, hs, hx, hrun]
  exact hK' _ _ (h v' w' k1 k2 k3)
theorem step_append1 {t e : TypeId} {size : Nat} (hE : Ety t e size) {w : World} {ops : Array Oper} {o : Oper} {a : Act} {K : Act → World → Prop} {Q : Exit → Act → World → Prop} {E : Prop} (hgd : o.guard = none) (s x : Operand)
    (ho : o.op = .call { callee := .builtin .append, args := #[s, x], argTypes := #[t, t] })
    (lo : Nat) (v : Value) (n : Nat) (xs : List Value) (hs : a.eval s = v) (hown : w.ownsRow lo e size v n xs)
    (q : Nat) (c : Nat) (ys : List Value) (hx : a.eval x = .slice (some ⟨q, 0, none⟩) 1 c) (hl : ys.length = size) (hc : Rg.Blk w q ys.toArray e) (h1 : ∀ u ∈ ys, u.oneCell' = true) (hb : n ≤ 2000000) (hlo : lo ≤ w.heap.size)
    (h : ∀ v' w', w'.ownsRow lo e size v' (n + 1) (xs ++ ys) → w.grownBy w' v.ownBlock → (v'.ownBlock = v.ownBlock ∨ v'.ownBlock = some w.heap.size) → K (a.put o.dst v') w') :
    if Region.wanted o (yielded ops a.tmps) = true then Oper.wp Tryz.prog o a w K Q else E := by
  have hw : Region.wanted o (yielded ops a.tmps) = true := by simp [Region.wanted, hgd]
  rw [if_pos hw]
  obtain ⟨v', w', hrun, k1, k2, k3⟩ := run_append1 hE w o.type lo v n xs hown q c ys hl hc h1 hb hlo
  unfold Oper.wp execOp
  simp only [ho, resolve, invoke, builtin, Sem.run_bind, Sem.run_pure, Result.andThen_ok, List.map_toArray, List.map_cons, List.map_nil, hs, hx, hrun]
  exact h v' w' k1 k2 k3


theorem ndR_rv (b : PB) (s : AS) (v : Value) (l : List (Int × Int)) : (ndR b s).setIfInBounds 23 v = ndR { b with rv := v } { s with rd := l } := rfl
/-- one more read is done -/
theorem Al.read {lo : Nat} {w w6 : World} {b : PB} {s : AS} {v' : Value} {tok idx : Int} (h : Al lo w b s) (hg : w.grownBy w6 b.rv.ownBlock) (hr6 : w6.ownsRow lo 82 2 v' (s.rd.length + 1) (rowP s.rd ++ [.int .i64 tok, .int .i64 idx])) (hat : v'.ownBlock = b.rv.ownBlock ∨ v'.ownBlock = some w.heap.size) :
    Aft lo w (w6.setCell ⟨b.nb, 23, none⟩ v') b { b with rv := v' } { s with rd := s.rd ++ [(tok, idx)] } := by
  obtain ⟨n1, n2, n3, n4, n5, n6⟩ := h.nb_ne
  obtain ⟨m1, m2, m3, m4, m5, m6, m7⟩ := h.el_ne
  obtain ⟨l1, l2, l3, l4, l5, l6⟩ := h.lg_ne
  have hf6 : Dk.Fr b.rv.ownBlock.toList w w6 := (Dk.Fr.refl _ _).grown hg (fun i hi => .inl (by simp [hi]))
  have hlt := h.foot_lt
  have hlo0 : lo ≤ w.heap.size := Nat.le_trans (h.lo b.nb (mem_foot.2 (by simp))) (Nat.le_of_lt h.blk.lt)
  have kb : Rg.Blk w6 b.nb (ndR b s) 60 := (hf6.block _ h.blk.lt (by simpa using n5)).trans h.blk
  have hf : Dk.Fr (b.nb :: b.rv.ownBlock.toList) w (w6.setCell ⟨b.nb, 23, none⟩ v') := (hf6.mono (fun i hi => by simp [hi])).setCell _ (.inl (by simp)) _
  have nin : ∀ i, i ≠ b.nb → b.rv.ownBlock ≠ some i → i ∉ b.nb :: b.rv.ownBlock.toList := fun i h1 h2 hm => by
    simp only [List.mem_cons, Option.mem_toList] at hm
    exact hm.elim h1 h2
  have nro : ∀ i ∈ b.ro, i ∉ b.nb :: b.rv.ownBlock.toList := fun i hi => nin i (fun e => h.ro i hi (mem_foot.2 (.inl e))) (fun e => h.ro i hi (mem_foot.2 (by simp [e])))
  have h8 : Rg.Not8 w (b.nb :: b.rv.ownBlock.toList) := by
    intro i hi cs hb
    simp only [List.mem_cons, Option.mem_toList] at hi
    rcases hi with rfl | hi
    · exact Rg.Blk.ne h.blk hb (by decide) rfl
    · exact Rg.row_ne h.rv hb (by decide) hi
  have hfo : ∀ i, i ∈ ({ b with rv := v' } : PB).foot → i ∈ b.foot ∨ w.heap.size ≤ i := by
    intro i hi
    rcases mem_foot.1 hi with h1 | h1 | h1 | h1 | h1 | h1 | h1
    · exact .inl (mem_foot.2 (by simp [show i = b.nb from h1]))
    · exact .inl (mem_foot.2 (by simp [show i = b.p.g from h1]))
    · exact .inl (mem_foot.2 (by simp [show i = b.p.b from h1]))
    · exact .inl (mem_foot.2 (by simp [show i = b.g from h1]))
    · exact .inl (mem_foot.2 (by simp [show b.v.ownBlock = some i from h1]))
    · rcases hat with h2 | h2
      · exact .inl (mem_foot.2 (by simp [show b.rv.ownBlock = some i by rw [← h2]; exact h1]))
      · have : some w.heap.size = some i := h2.symm.trans h1
        exact .inr (by cases this; omega)
    · exact .inl (mem_foot.2 (by simp [show b.pm = some i from h1]))
  have hrn : v'.ownBlock ≠ some b.nb := Rg.row_ne hr6 kb (by decide)
  refine ⟨⟨?_, h.el.fr hf (fun i hi => ?_), h.lg.fr hf (fun i hi => ?_) h8, El.rdI_fr h.sv hf (fun a ha => nro _ (mem_ro.2 (.inr (.inr ⟨a, ha, rfl⟩)))), ?_, fun m hm => (h.pm m hm).of (hf.block m (hlt m (mem_foot.2 (by simp [show b.pm = some m from hm]))) (nin _ (fun e => n6 (by rw [← e]; exact hm)) (fun e => l6 m e hm))), h.pmb, ?_, ?_, h.vs, h.ls, fun i hi => Nat.lt_of_lt_of_le (h.rl i hi) hf.size, h.kind, h.win, h.sI, h.slz, h.few⟩, hf.mono (fun i hi => ?_), hfo, fun i hi => .inl hi, rfl⟩
  · rw [← ndR_rv b s v' (s.rd ++ [(tok, idx)])]
    exact Rg.Blk.set kb 23 v' (by show 23 < 27; omega)
  · simp only [El.Pl.all, List.mem_cons, List.mem_append, Option.mem_toList, Option.map_eq_some_iff] at hi
    rcases hi with (rfl | rfl | ⟨a, ha, rfl⟩) | ⟨a, ha, rfl⟩
    · exact nin _ (Ne.symm n1) m3
    · exact nin _ (Ne.symm n2) m7
    · exact nro _ (mem_ro.2 (.inl ⟨a, ha, rfl⟩))
    · exact nro _ (mem_ro.2 (.inr (.inl ⟨a, ha, rfl⟩)))
  · simp only [List.mem_cons, Option.mem_toList] at hi
    rcases hi with rfl | hi
    · exact nin _ (Ne.symm n3) l2
    · exact nin _ (fun e => n4 (by rw [← e]; exact hi)) (l4 _ hi)
  · have e1 : (s.rd ++ [(tok, idx)]).length = s.rd.length + 1 := by simp
    have e2 : rowP (s.rd ++ [(tok, idx)]) = rowP s.rd ++ [.int .i64 tok, .int .i64 idx] := by rw [rowP_append]; rfl
    show (w6.setCell ⟨b.nb, 23, none⟩ v').ownsRow lo 82 2 v' (s.rd ++ [(tok, idx)]).length (rowP (s.rd ++ [(tok, idx)]))
    rw [e1, e2]
    exact Rg.row_of hr6 (fun i hi => Below.heap_setCell _ _ _ _ (fun e => hrn (by rw [hi]; exact congrArg some e)))
  · intro i hi
    rcases hfo i hi with h1 | h1
    · exact h.lo i h1
    · omega
  · intro i hi hm
    have hi' : i ∈ b.ro := hi
    rcases hfo i hm with h1 | h1
    · exact h.ro i hi' h1
    · have := h.rl i hi'; omega
  · simp only [List.mem_cons, Option.mem_toList] at hi
    rcases hi with rfl | hi
    · exact mem_foot.2 (by simp)
    · exact mem_foot.2 (by simp [hi])
end Go.Proofs.YtjadfpcipicckaaGreat.Rf

namespace Go.Proofs.YtjadfpcipicckaaGreat.Rf
open Go.RowKit Go.Shelf Go.Proofs.YtjadfpcipicckaaGreat.Fld
open Go.Proofs.YtjadfpcipicckaaGreat.Qu (RdI)
set_option linter.unusedVariables false

set_option maxHeartbeats 1600000 in
theorem settled_any {lo : Nat} {w : World} {b : PB} {s : AS} (h : Al lo w b s) (ht : Rg.termV s.g s.g.com = s.e.term) : Calls Tryz.prog 26 #[.pointer (some ⟨b.nb, 0, none⟩)] w fun e w' => e = .returned (.bool true) ∧ Below w.heap.size w w' := by
  have c3 := h.c3
  have c0 := h.c0
  have HCO := Lib.hid (fun W (hW : Below w.heap.size w W) => h.com W hW)
  have HT := Lib.hid (fun W (hW : Below w.heap.size w W) => h.term s.g.com W hW)
  rw [ht] at HT
  have HH := Lib.hid (fun W (hW : Below w.heap.size w W) => El.hard_any b.p s.e W (h.el.below hW))
  have qf := fun W => field_hard s.e.term s.e.vote W
  have q2 : (s.e.term == s.e.term) = true := by simp
  have HBd := Lib.hid (Below.refl w.heap.size w).drew
  clear h ht
  go_enter Tryz.func26, Tryz.ntmps26
  go_wp2_with fail
  go_region_held3 (fun w' => w'.cell? ⟨b.nb, 3, none⟩ = some (.pointer (some ⟨b.g, 0, none⟩))) (first | exact (by assumption) | go_keep) (first
    | (go_at_call 30; refine (HCO.out _ (by exact HBd.out)).mono ?_; rintro e w' ⟨rfl, rfl⟩)
    | (go_at_call 61; refine (HT.out _ (by exact HBd.out)).mono ?_; rintro e w' ⟨rfl, k, rfl⟩; have c3 : (w.drewN (1 + k)).cell? ⟨b.nb, 3, none⟩ = _ := c3))
  all_goals
    have HB1 := Lib.hid (Qu.below_dr w (1 + k))
    have c0 : (w.drewN (1 + k)).cell? ⟨b.nb, 0, none⟩ = _ := c0
    go_wp2_with fail
    refine (HH.out _ HB1.out).mono ?_
    rintro e w2 ⟨rfl, hb2⟩
    have HB2 := Lib.hid (HB1.out.trans (hb2.mono HB1.out.size))
    clear hb2
    go_wp2
    go_ret
    exact ⟨rfl, HB2.out⟩
theorem wins_alone {lo : Nat} {w : World} {b : PB} {s : AS} (h : Al lo w b s) : Qu.winsG [s.e.id] [] [s.e.id] = true := by
  have hg : Qu.grpOk [s.e.id] [] = true := by have := h.el.ok.grp; rw [h.vs, h.ls] at this; exact this
  unfold Qu.winsG
  rw [hg, Bool.true_and]
  simp [Qu.need, Qu.cnt, Qu.hasI]
theorem read_blk {lo : Nat} {w w6 : World} {b : PB} {s : AS} (h : Al lo w b s) (hg : w.grownBy w6 b.rv.ownBlock) : Rg.Blk w6 b.nb (ndR b s) 60 :=
  (hg.block _ h.blk.lt (fun e => h.nb_ne.2.2.2.2.1 e.symm)).trans h.blk
set_option maxRecDepth 100000 in
set_option maxHeartbeats 800000 in
theorem ask_any {lo : Nat} {w : World} {b : PB} {s : AS} (tok idx : Int) (h : Al lo w b s) (hn : s.rd.length ≤ 1000000) : Calls Tryz.prog 29 #[.pointer (some ⟨b.nb, 0, none⟩), .agg #[.int .i64 tok, .int .i64 idx]] w fun e w' => e = .returned (.tuple #[]) ∧ ∃ v', Aft lo w w' b { b with rv := v' } { s with rd := s.rd ++ [(tok, idx)] } := by
  have hal := Rg.alloc_below' w (.cells #[.int .i64 tok, .int .i64 idx] 82)
  have HK := Lib.hid (Rg.Blk.new w #[.int .i64 tok, .int .i64 idx] 82)
  have hh := h.below hal
  have HS := Lib.hid h
  have HAL := Lib.hid hal
  have c1 := hh.c1
  have HW := Lib.hid (wins_alone h)
  obtain ⟨RA, rc, hrv, _⟩ := Rg.row_slice h.rv
  have HRV := Lib.hid hrv
  have HN := Lib.hid hn
  clear h hal hh hrv hn
  go_enter Tryz.func29, Tryz.ntmps29
  go_wp2_with fail
  generalize hw1 : w.alloc (.cells #[.int .i64 tok, .int .i64 idx] 82) = w1 at *
  have hsz : w1.heap.size = w.heap.size + 1 := by rw [← hw1]; simp
  have hb2 := HAL.out.alloc HAL.out.size (.cells #[.int .i64 s.e.id] 3)
  have HB2 := Lib.hid hb2
  have HK2 := Lib.hid (HK.out.below (Rg.alloc_below' w1 (.cells #[.int .i64 s.e.id] 3)))
  have HRI := Lib.hid (Qu.rdI_one w1 s.e.id)
  generalize hw2 : w1.alloc (.cells #[.int .i64 s.e.id] 3) = w2 at *
  have HG := Lib.hid (HS.out.group w2 HB2.out)
  have HWN := Lib.hid (fun W (hW : Below w2.heap.size w2 W) => show Calls Tryz.prog 66 #[grp1 b, .slice (some ⟨w1.heap.size, 0, none⟩) 1 1] W _ from Qu.wins_any b.SV 1 b.svc [s.e.id] b.SL 0 b.slc [] (some ⟨w1.heap.size, 0, none⟩) 1 1 [s.e.id] W (HS.out.sv.below (HB2.out.trans (hW.mono HB2.out.size))) (Qu.RdI.nil _ _) (HRI.out.below hW))
  rw [HW.out, hsz] at HWN
  clear hsz
  clear hb2
  go_wp2_with fail
  refine HG.out.mono ?_
  rintro e w3 ⟨rfl, hb3⟩
  have HB3 := Lib.hid hb3
  clear hb3
  go_wp2_with fail
  refine (HWN.out w3 HB3.out).mono ?_
  rintro e w4 ⟨rfl, hb4⟩
  have HB4 := Lib.hid (HB3.out.trans (hb4.mono HB3.out.size))
  have HB5 := Lib.hid (HB2.out.trans (HB4.out.mono HB2.out.size))
  have HS4 := Lib.hid (HS.out.below HB5.out)
  have HK4 := Lib.hid (HK2.out.below HB4.out)
  clear hb4 c1 hw1 hw2
  have d23 := HS4.out.c23
  rw [HRV.out] at d23
  have k0 := HK4.out.cell 0 (.int .i64 tok) rfl
  have k1 := HK4.out.cell 1 (.int .i64 idx) rfl
  have f23 := HS4.out.free 23
  have HS5 := Lib.hid (show Al lo (w4.alloc (.cells #[.int .i64 tok, .int .i64 idx] 82)).drew b s from HS4.out.below ((Rg.alloc_below' w4 (.cells #[.int .i64 tok, .int .i64 idx] 82)).drew))
  have HRW := Lib.hid HS5.out.rv
  have HLO := Lib.hid (show lo ≤ w4.heap.size from Nat.le_trans (HS4.out.lo b.nb (mem_foot.2 (by simp))) (Nat.le_of_lt HS4.out.blk.lt))
  rw [HRV.out] at HRW
  obtain ⟨n, hn⟩ : ∃ n, s.rd.length = n := ⟨_, rfl⟩
  have HNN := Lib.hid hn
  rw [hn] at d23 HRW HN HRV
  clear hn
  have HB6 := Lib.hid (HB5.out.trans (((Rg.alloc_below' w4 (.cells #[.int .i64 tok, .int .i64 idx] 82)).drew).mono HB5.out.size))
  have e23 := ((Rg.alloc_below' w4 (.cells #[.int .i64 tok, .int .i64 idx] 82)).cell (p := ⟨b.nb, 23, none⟩) (lt_of_cell d23)).trans d23
  have ef := HS5.out.free 23
  go_upto_region 3 with fail
  go_region_law ((refine step_append1 eread rfl _ _ rfl lo (.slice RA n rc) n (rowP s.rd) rfl (by exact HRW.out) w4.heap.size 1 [.int .i64 tok, .int .i64 idx] rfl rfl (by exact Rg.Blk.new w4 _ _) (by simp [Value.oneCell']) (by have := HN.out; omega) (by simp; have := HLO.out; omega) ?_; intro v6 w6 hr6 hg6 ha6; obtain ⟨A6, c6, hv6, _⟩ := Rg.row_slice hr6; subst hv6; have HR6 := Lib.hid hr6; have HG6 := Lib.hid hg6; have HA6 := Lib.hid ha6; have kb := read_blk HS5.out (w6 := w6) (by rw [HRV.out]; exact hg6); have x23 : w6.cell? ⟨b.nb, 23, none⟩ = some (.slice RA n rc) := (by rw [← HRV.out]; exact kb.cell 23 _ rfl); have f23 := kb.free 23; clear hr6 hg6 ha6 kb))
  all_goals
    go_wp2
    refine bodyPost_ret (results_none rfl _ _ _) rfl ?_
    refine ⟨rfl, _, Aft.past HS.out HB6.out (HS5.out.read (tok := tok) (idx := idx) (by rw [HRV.out]; exact HG6.out) (by rw [HNN.out]; exact HR6.out) (by rw [HRV.out]; exact HA6.out))⟩
set_option maxHeartbeats 1600000 in
theorem read_any {lo : Nat} {w : World} {b : PB} {s : AS} (tok : Int) (h : Al lo w b s) (hn : s.rd.length ≤ 1000000) (h3 : s.e.role = 3) (ht : Rg.termV s.g s.g.com = s.e.term) : Calls Tryz.prog 10 #[.pointer (some ⟨b.nb, 0, none⟩), .int .i64 tok] w fun e w' => e = .returned (.int .i64 0) ∧ ∃ v', Aft lo w w' b { b with rv := v' } { s with rd := s.rd ++ [(tok, s.g.com)] } := by
  have c0 := h.c0
  have HRO := Lib.hid (El.role_any b.p s.e w h.el)
  rw [h3] at HRO
  have HST := Lib.hid (settled_any h ht)
  have HS := Lib.hid h
  have HCO := Lib.hid (fun W (hW : Below w.heap.size w W) => h.com W hW)
  have HASK := Lib.hid (fun W (hW : Below w.heap.size w W) => ask_any tok s.g.com (h.below hW) hn)
  clear h h3 ht hn
  go_enter Tryz.func10, Tryz.ntmps10
  go_wp2_with fail
  refine HRO.out.mono ?_
  rintro e w' ⟨rfl, rfl⟩
  go_wp2_with fail
  refine HST.out.mono ?_
  rintro e w1 ⟨rfl, hb1⟩
  have HB1 := Lib.hid hb1
  have HS1 := Lib.hid (HS.out.below hb1)
  have c25 := HS1.out.c25
  have c3 := HS1.out.c3
  clear hb1 c0
  go_wp2_with fail
  refine (HCO.out w1 HB1.out).mono ?_
  rintro e w' ⟨rfl, rfl⟩
  go_wp2_with fail
  refine (HASK.out w1 HB1.out).mono ?_
  rintro e w2 ⟨rfl, v', hA⟩
  have HA := Lib.hid (Aft.past HS.out HB1.out hA)
  clear hA
  go_wp2
  go_ret
  exact ⟨rfl, v', HA.out⟩
end Go.Proofs.YtjadfpcipicckaaGreat.Rf
