/-
  Several texts in one: Layer 6: content.accept in the program, ninth part: an ENTRY that is taken. Conditions: the content lies in memory (Cont), the record's content can be read. Layer 6: content.accept in the program, whole: it does what acc says. Conditions: the content lies in memory (ContX), the record's content can be read; behind a HEAD there is a segment. Layer 6: a Wal in memory, with its disk: what a call leaves of it. Conditions: as each theorem states. Layer 6: the closure of syncing in the program: the last segment's file is synced. Conditions: the Wal and its disk lie in memory (WmX), it has a segment, and the closure's variable holds the Wal. Layer 6: the closure of writing in the program: bytes are put behind the last segment's file. Conditions: the Wal and its disk lie in memory (WmX), it has a segment, the closure's variables hold the Wal and the bytes.
-/
import Derived.Test.YtgmpdifggaggdaaGreatDoorJWalAccE
import Derived.Test.YtgmpdifggaggdaaGreatDoorJWalLog
import Derived.Test.YtgmpdifggaggdaaGreatDoorJWalNm
import Derived.Test.YtgmpdifggaggdaaGreatDoorKeepA
import Derived.Deep.RegionHeld3
import Derived.StillTailTactics
namespace Go.Proofs.YtgmpdifggaggdaaGreatDoor.Wl
open Go.RowKit Go.Proofs.YtgmpdifggaggdaaGreatDoor.Fld
set_option linter.unusedVariables false

theorem Cont.added {lo B o : Nat} {cs : Array Value} {ty : TypeId} {w : World} {ve vs : Value} {xs : List EA} {c : Ct} (h : Cont lo B o cs ty w ve vs xs c) {w' : World} {v' : Value} {y : EA} {lo' : Nat} (hlo : lo ≤ lo') (hb : Blk w' B (cs.setIfInBounds (o + 1) v') ty)
    (hr : w'.ownsRow lo 49 4 v' (xs.length + 1) (rowE (xs ++ [y]))) (hd : DatAt lo' w' y) (hf : Dk.Fr (B :: ve.ownBlock.toList) w w') (hok : (c.lg.add y.e).Ok) : Cont lo B o (cs.setIfInBounds (o + 1) v') ty w' v' vs (xs ++ [y]) ⟨c.lg.add y.e, c.segs⟩ := by
  have hne : ∀ i, (∃ sz n ys et, et ≠ 49 ∧ et ≠ ty ∧ ∃ v, w.ownsRow lo et sz v n ys ∧ v.ownBlock = some i) → w'.heap[i]? = w.heap[i]? := by
    rintro i ⟨sz, n, ys, et, h1, h2, v, hrow, hv⟩
    refine hf.block i (row_lo hrow i hv).2 ?_
    intro hm
    rcases List.mem_cons.1 hm with rfl | hm
    · exact row_ne hrow h.blk h2 hv
    · rw [Option.mem_toList] at hm
      exact rows_ne hrow h.rE h1 i hv hm
  have hl : (xs ++ [y]).length = xs.length + 1 := by simp
  refine ⟨hb, by rw [Array.getElem?_setIfInBounds_ne (by omega)]; exact h.c0, Array.getElem?_setIfInBounds_self_of_lt (lt_of_at' h.c1), by rw [Array.getElem?_setIfInBounds_ne (by omega)]; exact h.c2, by show c.lg.es ++ [y.e] = _; rw [h.es]; simp, by rw [hl]; exact hr, row_of h.rS (fun i hi => hne i ⟨_, _, _, _, by decide, h.t2, _, h.rS, hi⟩), fun x hx => ?_, ⟨hok, h.ok.2⟩, h.t1, h.t2, h.t3⟩
  rcases List.mem_append.1 hx with hx | hx
  · exact (h.dat x hx).of (fun i hi => hne i ⟨_, _, _, _, by decide, h.t3, _, (h.dat x hx).2, hi⟩)
  · simp at hx
    subst hx
    exact ⟨hd.1, row_lower hd.2 hlo⟩
set_option maxRecDepth 100000 in
set_option maxHeartbeats 6400000 in
theorem acc_entry {lo B o : Nat} {ty : TypeId} {FT : List Nat} {c : Ct} (num : Nat) (A : Option Addr) (n cap : Nat) (b : List Int) (w : World) (e : E) (h : ContS lo B o ty FT w c) (hlo : lo ≤ w.heap.size) (hr : Rd w A n b) (hA : A = none → cap = 0) (hn : n ≤ 65536) (hd : dec b = some (.entry e)) (hie : e.idx = c.lg.last + 1) (L : List Sg) (S : Sg) (hs : c.segs = L ++ [S]) (hLl : L.length ≤ 2000000) (hz : S.size ≤ 1099511627776) (hx : c.lg.es.length ≤ 2000000) :
    Calls Tryz.prog 66 #[.pointer (some ⟨B, o, none⟩), .int .i64 (num : Int), .bool false, .slice A n cap] w (Accd lo B o ty FT w ⟨c.lg.add e, addSz (8 + n) c.segs⟩) := by
  have HS := Lib.hid hs
  have HEOK := Lib.hid (dec_ok hr.2.2.1 hd)
  have HIE := Lib.hid hie
  clear hs
  have HD := Lib.hid (decode_any A n cap b w hr hA (by omega))
  have hok := dec_ok hr.2.2.1 hd
  clear hr hA
  have hloB := h.1
  obtain ⟨ei, et, ek, d⟩ := e
  obtain ⟨k1, k2, k3, k4, k5, k6⟩ := hok
  simp only at k1 k2 k3 k4 k5 k6 hie
  unfold MI at k2 k3
  unfold Accd
  have HI2 := Lib.hid hie
  clear hie
  go_enter Tryz.func66, Tryz.ntmps66
  go_wp2_with fail
  refine HD.out.mono ?_
  rintro e w1 ⟨v, A2, cap2, rfl, _, h0, hb⟩
  obtain ⟨hv, hrd, hA2⟩ := h0 _ hd
  subst hv
  rw [hd]
  simp only [Option.isSome_some]
  unfold chV
  simp only [dataOf] at hrd
  obtain ⟨dl, hdl⟩ : ∃ dl, d.length = dl := ⟨_, rfl⟩
  have HDL := Lib.hid hdl
  simp only
  rw [hdl] at hrd ⊢
  have HB := Lib.hid (hb.trans ((alloc_below' w1 (.cells #[.int .i64 1, .int .i64 0, .int .i64 0, .int .i64 (ei : Int), .int .i64 (et : Int), .int .i64 (ek : Int), .slice A2 dl cap2] 124)).mono hb.size))
  have HC := Lib.hid ((h.below hb).below (alloc_below' w1 (.cells #[.int .i64 1, .int .i64 0, .int .i64 0, .int .i64 (ei : Int), .int .i64 (et : Int), .int .i64 (ek : Int), .slice A2 dl cap2] 124)))
  have HH := Lib.hid (Blk.new w1 #[.int .i64 1, .int .i64 0, .int .i64 0, .int .i64 (ei : Int), .int .i64 (et : Int), .int .i64 (ek : Int), .slice A2 dl cap2] 124)
  have HRD := Lib.hid (hrd.below (alloc_below' w1 (.cells #[.int .i64 1, .int .i64 0, .int .i64 0, .int .i64 (ei : Int), .int .i64 (et : Int), .int .i64 (ek : Int), .slice A2 dl cap2] 124)))
  have HA2 := Lib.hid hA2
  clear h0 hb hd h hrd hA2 hdl
  obtain ⟨_, cs, ve, vs3, xs, hct, hFT⟩ := HC.out
  subst hFT
  have HCT := Lib.hid hct
  clear hct
  go_wp2_with fail
  obtain ⟨wa, hwa⟩ : ∃ wa, w1.alloc (.cells #[.int .i64 1, .int .i64 0, .int .i64 0, .int .i64 (ei : Int), .int .i64 (et : Int), .int .i64 (ek : Int), .slice A2 dl cap2] 124) = wa := ⟨_, rfl⟩
  rw [hwa] at HB HCT HH HRD ⊢
  have d3 := HH.out.cell 3 _ rfl
  have d4 := HH.out.cell 4 _ rfl
  have d5 := HH.out.cell 5 _ rfl
  have d6 := HH.out.cell 6 _ rfl
  obtain ⟨VA, vcap, hve, _⟩ := row_slice HCT.out.rE
  have hlast : c.lg.last = c.lg.base + xs.length := by unfold Lg.last; rw [HCT.out.es]; simp
  have hbb : c.lg.base + xs.length ≤ 4611686018427387904 := by have := HCT.out.ok.1.1; unfold MI at this; omega
  have HL := Lib.hid (show ∀ k, Calls Tryz.prog 24 #[.pointer (some ⟨B, o, none⟩)] (wa.drewN k) fun e w'' => e = .returned (.int .i64 ((c.lg.last : Nat) : Int)) ∧ ∃ m, w'' = wa.drewN m from fun k => by
    rw [hlast]
    exact (last_dr B o cs ty c.lg.base xs.length vcap VA _ (HCT.out.blk.drewN k) HCT.out.c0 (by rw [HCT.out.c1, hve]) hbb).mono fun _ _ ⟨he, m, hw⟩ => ⟨he, k + m, by rw [hw, World.drewN_drewN]⟩)
  have hLM : c.lg.last ≤ 4611686018427387904 := by rw [hlast]; exact hbb
  clear hve hlast hbb hwa
  have hie := HI2.out
  obtain ⟨LL, hLL⟩ : ∃ LL, c.lg.last = LL := ⟨_, rfl⟩
  rw [hLL] at HL hLM hie
  have HLL := Lib.hid hLL
  clear hLL
  have e2 : IntKind.i64.wrap ((LL : Int) + 1) = (LL : Int) + 1 := wrap_in' _ (by omega) (by omega)
  have j1 : ((ei : Int) == (LL : Int) + 1) = true := by rw [beq_iff_eq]; omega
  clear hie
  have hxl : xs.length ≤ 2000000 := by
    have : c.lg.es.length = xs.length := by rw [HCT.out.es]; simp
    omega
  have HADD := Lib.hid (show ∀ wq : World, wq.heap = wa.heap → wq.os = wa.os → wq.tape = wa.tape → wq.output = wa.output → Calls Tryz.prog 54 #[.pointer (some ⟨B, o, none⟩), .agg #[.int .i64 (ei : Int), .int .i64 (et : Int), .int .i64 (ek : Int), .slice A2 dl cap2]] wq fun e w' => e = .returned (.tuple #[]) ∧ ∃ v' y, y.e = ⟨ei, et, ek, d⟩ ∧ Blk w' B (cs.setIfInBounds (o + 1) v') ty ∧ w'.ownsRow lo 49 4 v' (xs.length + 1) (rowE (xs ++ [y])) ∧ DatAt wa.heap.size w' y ∧ Dk.Fr (B :: ve.ownBlock.toList) wa w' ∧ (v'.ownBlock = ve.ownBlock ∨ ∃ j, v'.ownBlock = some j ∧ wa.heap.size ≤ j) from fun wq q1 q2 q3 q4 => by
    have hrq : Rd wq A2 d.length d := by
      rw [HDL.out]
      exact HRD.out.of_same fun a _ _ => World.cell?_of_block (w := wa) (by rw [q1])
    have := add_any B o cs ty lo ve xs ⟨⟨ei, et, ek, d⟩, A2, cap2⟩ wq (by unfold Blk; rw [q1]; exact HCT.out.blk) HCT.out.c1 HCT.out.t1 HCT.out.t3 (row_of HCT.out.rE (w' := wq) (fun j _ => by rw [q1])) (by rw [q1]; have := HB.out.size; omega) hrq HA2.out k5 hxl
    unfold entV at this
    simp only at this
    rw [HDL.out] at this
    exact this.mono fun _ _ ⟨he, v', y, y1, y2, y3, y4, y5, y6⟩ => ⟨he, v', y, y1, y2, y3, by rw [← q1]; exact y4, ⟨y5.os.trans q2, y5.tape.trans q3, y5.output.trans q4, by rw [← q1]; exact y5.size, fun k hk hn => by rw [y5.block k (by rw [q1]; exact hk) hn, q1]⟩, by rw [← q1]; exact y6⟩)
  clear hxl
  go_quiet ((go_at_call 24; exact HL.out _))
  go_wp2_with fail
  go_region_with ((go_at_call 54; refine (HADD.out _ (by exact rfl) (by exact rfl) (by exact rfl) (by exact rfl)).mono ?_; rintro e w3 ⟨rfl, v', y, y1, y2, y3, y4, y5, y6⟩; have Y6 := Lib.hid y6; have Y1 := Lib.hid y1; have Y2 := Lib.hid y2; have Y3 := Lib.hid y3; have Y4 := Lib.hid y4; have Y5 := Lib.hid y5; clear y1 y2 y3 y4 y5 y6))
  all_goals
    have HC3 := Lib.hid (HCT.out.added (by have := HB.out.size; omega) Y2.out Y3.out Y4.out Y5.out (by rw [Y1.out]; exact HCT.out.ok.1.add HEOK.out HIE.out))
    have HBL := Lib.hid (show Dk.Fr (CtF B ve vs3) w w3 from (Dk.Fr.below HB.out).trans Y5.out (fun j hj => .inl (ctf_e j hj)))
    have HSUB := Lib.hid (show ∀ j ∈ CtF B v' vs3, j ∈ CtF B ve vs3 ∨ w.heap.size ≤ j from ctf_sub (own_new Y6.out HB.out.size) (fun _ h => .inl h))
    clear d3 d4 d5 d6 j1 e2
    obtain ⟨c3, hc3⟩ : ∃ c3 : Ct, Ct.mk (c.lg.add y.e) c.segs = c3 := ⟨_, rfl⟩
    rw [hc3] at HC3
    obtain ⟨SZ, hSZ0⟩ : ∃ SZ : Nat, S.size = SZ := ⟨_, rfl⟩
    have hz0 : SZ ≤ 1099511627776 := by rw [← hSZ0]; exact hz
    have HS3 := Lib.hid (show c3.segs = L ++ [S] by rw [← hc3]; exact HS.out)
    have HSZ0 := Lib.hid hSZ0
    have HRES := Lib.hid (show (Ct.mk c3.lg (addSz (8 + n) c3.segs)) = ⟨c.lg.add ⟨ei, et, ek, d⟩, addSz (8 + n) c.segs⟩ by rw [← hc3, Y1.out])
    clear hc3 hSZ0
    obtain ⟨q, cp, hvq⟩ := HC3.out.seg_form HS3.out
    have HRS := Lib.hid HC3.out.rS
    obtain ⟨m, hm⟩ : ∃ m, L.length + 1 = m := ⟨_, rfl⟩
    rw [hm] at hvq
    obtain ⟨pp, hpp⟩ : ∃ pp, (m - 1) * 3 = pp := ⟨_, rfl⟩
    have HLS := Lib.hid (lastSeg_any B o q m cp _ ty w3 HC3.out.blk (by rw [HC3.out.c2, hvq]) (by omega) (by omega))
    rw [hpp] at HLS
    have HQ := Lib.hid (show vs3.ownBlock = some q by rw [hvq]; rfl)
    have HRW := Lib.hid (show w3.ownsRow lo 69 3 (.slice (some ⟨q, 0, none⟩) m cp) m (rowS (L ++ [S])) from by
      have := HC3.out.rS
      rw [HS3.out, hvq] at this
      have hlen : (L ++ [S]).length = m := by simp; omega
      rwa [hlen] at this)
    have HSZ := Lib.hid ((HC3.out.sized HS3.out hvq hm.symm (8 + n)))
    have HM := Lib.hid hm
    have HQL := Lib.hid (show lo ≤ q from (row_lo HC3.out.rS q HQ.out).1)
    have HFIN := Lib.hid (show ∀ w4 : World, Still w3 w4 → ∃ S', ContS lo B o ty S' (w4.setCell ⟨q, pp + 2, none⟩ (.int .i64 (((SZ : Nat) : Int) + (8 + (n : Int))))) ⟨c3.lg, addSz (8 + n) c3.segs⟩ ∧ Dk.Fr (CtF B ve vs3) w (w4.setCell ⟨q, pp + 2, none⟩ (.int .i64 (((SZ : Nat) : Int) + (8 + (n : Int))))) ∧ ∀ j ∈ S', j ∈ CtF B ve vs3 ∨ w.heap.size ≤ j from fun w4 hst => by
      rw [← hpp]
      have hc4 := HC3.out.of (w' := w4) (fun i _ => by rw [hst.1])
      have h4 := hc4.sized HS3.out hvq hm.symm (8 + n)
      have ez : ((S.size + (8 + n) : Nat) : Int) = ((SZ : Nat) : Int) + (8 + (n : Int)) := by rw [HSZ0.out]; omega
      rw [ez] at h4
      exact ⟨_, ⟨hloB, _, _, _, _, h4, rfl⟩, (HBL.out.same (fr_still hst)).setCell _ (HSUB.out q (by simp [CtF, HQ.out])) _, HSUB.out⟩)
    have s2 := Lib.hid (show ∀ w4 : World, Still w3 w4 → w4.cell? ⟨q, pp + 2, none⟩ = some (.int .i64 ((SZ : Nat) : Int)) from fun w4 hst => by
      rw [← hpp]
      have := seg_cell (row_of HRW.out (w' := w4) (fun i _ => by rw [hst.1])) hm.symm 2 _ rfl
      rw [HSZ0.out] at this
      exact this)
    have f2 := Lib.hid (show ∀ w4 : World, Still w3 w4 → w4.frozen? ⟨q, pp + 2, none⟩ = false from fun w4 hst => by rw [← hpp]; exact row_free (row_of HRW.out (w' := w4) (fun i _ => by rw [hst.1])) rfl _)
    clear hm hvq hpp
    go_wp2_with (go_at_call 38; refine HLS.out.mono ?_; rintro e w4 ⟨rfl, hst⟩; have y1 := s2.out w4 hst; have y2 := f2.out w4 hst; have HST := Lib.hid hst; clear hst)
    go_ret
    exact ⟨rfl, by rw [← HRES.out]; exact HFIN.out _ HST.out⟩
end Go.Proofs.YtgmpdifggaggdaaGreatDoor.Wl

namespace Go.Proofs.YtgmpdifggaggdaaGreatDoor.Wl
open Go.RowKit Go.Proofs.YtgmpdifggaggdaaGreatDoor.Fld
set_option linter.unusedVariables false

def AccIs (lo B o : Nat) (ty : TypeId) (FT : List Nat) (w : World) (c : Ct) (r : Option Ct) (e : Ending) (w' : World) : Prop :=
  match r with
  | none => e = .returned (.bool false) ∧ ContS lo B o ty FT w' c ∧ Below w.heap.size w w'
  | some c' => Accd lo B o ty FT w c' e w'
theorem accIs_no {lo B o : Nat} {ty : TypeId} {FT : List Nat} {w : World} {c : Ct} (h : ContS lo B o ty FT w c) {e : Ending} {w' : World} (hh : e = .returned (.bool false) ∧ Below w.heap.size w w') : AccIs lo B o ty FT w c none e w' := ⟨hh.1, h.below hh.2, hh.2⟩
theorem accept_any {lo B o : Nat} {ty : TypeId} {FT : List Nat} {c : Ct} (num : Nat) (first : Bool) (A : Option Addr) (n cap : Nat) (b : List Int) (w : World) (h : ContS lo B o ty FT w c) (hlo : lo ≤ w.heap.size) (hr : Rd w A n b) (hA : A = none → cap = 0) (hn : n ≤ 65536) (hseg : first = false → c.segs ≠ []) (hx : c.lg.es.length ≤ 2000000) (hl : c.segs.length ≤ 2000000) (hz : ∀ s ∈ c.segs, s.size ≤ 1099511627776) :
    Calls Tryz.prog 66 #[.pointer (some ⟨B, o, none⟩), .int .i64 (num : Int), .bool first, .slice A n cap] w (AccIs lo B o ty FT w c (acc num first c b)) := by
  have hbn : b.length = n := hr.1
  cases hd : dec b with
  | none =>
    have : acc num first c b = none := by unfold acc; rw [hd]
    rw [this]
    exact (acc_no num first A n cap b w h.x hr hA hn hd).mono fun _ _ hh => accIs_no h hh
  | some ch =>
    by_cases hm : first = isHead ch
    · cases ch with
      | head n' i =>
        obtain rfl : first = true := hm
        by_cases hf : n' = num ∧ follows c n' i
        · obtain ⟨rfl, hfo⟩ := hf
          have : acc n' true c b = some ⟨if c.segs = [] then Lg.restart i else c.lg, c.segs ++ [⟨n', i, 8 + n⟩]⟩ := by
            unfold acc
            rw [hd]
            simp only
            rw [if_pos ⟨trivial, trivial, hfo⟩, hbn]
          rw [this]
          by_cases hs : c.segs = []
          · rw [if_pos hs]
            exact acc_head_first n' A n cap b w i h hlo hr hA hn hd hs hx hl
          · rw [if_neg hs]
            exact acc_head_more n' A n cap b w i h hlo hr hA hn hd hfo hs hx hl
        · have : acc num true c b = none := by
            unfold acc
            rw [hd]
            simp only
            rw [if_neg (fun hh => hf hh.2)]
          rw [this]
          refine (acc_head num A n cap b w n' i h.x hlo hr hA hn hd ?_ hx hl).mono fun _ _ hh => accIs_no h hh
          by_cases hne : n' = num
          · exact .inr fun hh => hf ⟨hne, hh⟩
          · exact .inl hne
      | entry e =>
        obtain rfl : first = false := hm
        obtain ⟨l, s, hls⟩ := snoc_of c.segs (hseg rfl)
        have hll : l.length ≤ 2000000 := by rw [hls] at hl; simp at hl; omega
        by_cases hi : e.idx = c.lg.last + 1
        · have : acc num false c b = some ⟨c.lg.add e, addSz (8 + n) c.segs⟩ := by
            unfold acc
            rw [hd]
            simp only
            rw [if_pos ⟨trivial, hi⟩, hbn]
          rw [this]
          exact acc_entry num A n cap b w e h hlo hr hA hn hd hi l s hls hll (hz s (by rw [hls]; simp)) hx
        · have : acc num false c b = none := by
            unfold acc
            rw [hd]
            simp only
            rw [if_neg (fun hh => hi hh.2)]
          rw [this]
          exact (acc_entry_no num A n cap b w e h.x hlo hr hA hn hd hi).mono fun _ _ hh => accIs_no h hh
      | cut i =>
        obtain rfl : first = false := hm
        obtain ⟨l, s, hls⟩ := snoc_of c.segs (hseg rfl)
        have hll : l.length ≤ 2000000 := by rw [hls] at hl; simp at hl; omega
        have : acc num false c b = some ⟨c.lg.cut i, addSz (8 + n) c.segs⟩ := by
          unfold acc
          rw [hd]
          simp only
          rw [if_pos trivial, hbn]
        rw [this]
        by_cases h1 : i ≤ c.lg.base
        · have hc : c.lg.cut i = Lg.restart i := by unfold Lg.cut Lg.restart; rw [if_pos h1]
          rw [hc]
          exact acc_cut_low num A n cap b w i h hlo hr hA hn hd h1 l s hls hll (hz s (by rw [hls]; simp))
        · by_cases h2 : i ≤ c.lg.last
          · exact acc_cut_mid num A n cap b w i h hlo hr hA hn hd (by omega) h2 l s hls hll (hz s (by rw [hls]; simp))
          · have hc : c.lg.cut i = c.lg := by
              unfold Lg.last at h2
              unfold Lg.cut
              rw [if_neg h1, List.take_of_length_le (by omega)]
            rw [hc]
            exact acc_cut_high num A n cap b w i h hlo hr hA hn hd (by omega) l s hls hll (hz s (by rw [hls]; simp))
      | reset i =>
        obtain rfl : first = false := hm
        obtain ⟨l, s, hls⟩ := snoc_of c.segs (hseg rfl)
        have hll : l.length ≤ 2000000 := by rw [hls] at hl; simp at hl; omega
        have : acc num false c b = some ⟨Lg.restart i, addSz (8 + n) c.segs⟩ := by
          unfold acc
          rw [hd]
          simp only
          rw [if_pos trivial, hbn]
        rw [this]
        exact acc_reset num A n cap b w i h hlo hr hA hn hd l s hls hll (hz s (by rw [hls]; simp))
    · have : acc num first c b = none := by
        unfold acc
        rw [hd]
        cases ch <;> cases first <;> simp [isHead] at hm ⊢
      rw [this]
      exact (acc_mis B o num first A n cap b w ch hr hA hn hd hm).mono fun _ _ hh => accIs_no h hh
end Go.Proofs.YtgmpdifggaggdaaGreatDoor.Wl

namespace Go.Proofs.YtgmpdifggaggdaaGreatDoor.Wl
open Go.RowKit Go.Proofs.YtgmpdifggaggdaaGreatDoor.Fld
set_option linter.unusedVariables false

def wcs (g lim : Nat) (c : Ct) (ve vs : Value) : Array Value := #[.pointer (some ⟨g, 0, none⟩), .int .i64 (lim : Int), .bool false, .int .i64 (c.lg.base : Int), ve, vs]
/-- the blocks that a Wal's calls may change -/
def WFt (W g b : Nat) (m : List Dk.Ent) (ve vs : Value) : List Nat := g :: b :: (Dk.blks m ++ CtF W ve vs)
structure WmX (lo W g b lim : Nat) (m : List Dk.Ent) (ve vs : Value) (xs : List EA) (w : World) (c : Ct) (t : Dk.St) : Prop where
  im : Dk.Im w g b m t
  ct : Cont lo W 3 (wcs g lim c ve vs) 61 w ve vs xs c
  apart : ∀ i, InFoot W ve vs xs i → i ∉ g :: b :: Dk.blks m
  base : Base w
  low : ∀ i ∈ WFt W g b m ve vs, lo ≤ i
  glo : 0 < lo ∧ 2 < lo
  lim1 : 32 ≤ lim
  lim2 : lim ≤ 65536
def WmS (lo W g b lim : Nat) (F : List Nat) (w : World) (c : Ct) (t : Dk.St) : Prop := ∃ m ve vs xs, WmX lo W g b lim m ve vs xs w c t ∧ F = WFt W g b m ve vs
/-- what a part of a method answers and leaves -/
def StpI (lo W g b lim : Nat) (F : List Nat) (w : World) (q : Int × Ct × Dk.St) (e : Ending) (w' : World) : Prop :=
  e = .returned (.int .i64 q.1) ∧ ∃ F', WmS lo W g b lim F' w' q.2.1 q.2.2 ∧ Dk.Fr F w w' ∧ ∀ i ∈ F', i ∈ F ∨ w.heap.size ≤ i
theorem WmX.size {lo W g b lim : Nat} {m : List Dk.Ent} {ve vs : Value} {xs : List EA} {w : World} {c : Ct} {t : Dk.St} (h : WmX lo W g b lim m ve vs xs w c t) : lo ≤ w.heap.size := by
  have h1 := h.low W (by simp [WFt, CtF])
  have h2 := h.ct.blk.lt
  omega
theorem WmX.below {lo W g b lim : Nat} {m : List Dk.Ent} {ve vs : Value} {xs : List EA} {w w' : World} {c : Ct} {t : Dk.St} (h : WmX lo W g b lim m ve vs xs w c t) (hb : Below w.heap.size w w') : WmX lo W g b lim m ve vs xs w' c t :=
  ⟨h.im.below hb, h.ct.below hb, h.apart, h.base.below hb, h.low, h.glo, h.lim1, h.lim2⟩
theorem WmX.base_fr {lo W g b lim : Nat} {m : List Dk.Ent} {ve vs : Value} {xs : List EA} {w w' : World} {c : Ct} {t : Dk.St} (h : WmX lo W g b lim m ve vs xs w c t) {S : List Nat} (hf : Dk.Fr S w w') (hS : ∀ i ∈ S, lo ≤ i) : Base w' := by
  have h1 := h.size
  have h2 := h.glo
  exact h.base.of_blocks (hf.block _ (by omega) (fun hm => by have := hS _ hm; omega)) (hf.block _ (by omega) (fun hm => by have := hS _ hm; omega))
/-- the disk has changed, the content has not -/
theorem WmX.after {lo W g b lim : Nat} {m m' : List Dk.Ent} {ve vs : Value} {xs : List EA} {w w' : World} {c : Ct} {t t' : Dk.St} (h : WmX lo W g b lim m ve vs xs w c t) (hI : Dk.Im w' g b m' t') (hL : Kp.LeftM w g b m m' w') :
    WmX lo W g b lim m' ve vs xs w' c t' ∧ Dk.Fr (WFt W g b m ve vs) w w' ∧ ∀ i ∈ WFt W g b m' ve vs, i ∈ WFt W g b m ve vs ∨ w.heap.size ≤ i := by
  have hsz := h.size
  have hsub : ∀ i ∈ WFt W g b m' ve vs, i ∈ WFt W g b m ve vs ∨ w.heap.size ≤ i := by
    intro i hi
    unfold WFt at hi ⊢
    simp only [List.mem_cons, List.mem_append] at hi ⊢
    rcases hi with h1 | h1 | h1 | h1
    · exact .inl (.inl h1)
    · exact .inl (.inr (.inl h1))
    · rcases hL.2 i h1 with h2 | h2
      · exact .inl (.inr (.inr (.inl h2)))
      · exact .inr h2
    · exact .inl (.inr (.inr (.inr h1)))
  have hlow : ∀ i ∈ WFt W g b m' ve vs, lo ≤ i := by
    intro i hi
    rcases hsub i hi with h1 | h1
    · exact h.low i h1
    · omega
  refine ⟨⟨hI, h.ct.of (fun i hi => hL.1.block i (h.ct.lt i hi) (h.apart i hi)), ?_, ?_, hlow, h.glo, h.lim1, h.lim2⟩, ?_, hsub⟩
  · intro i hi hm
    have h1 := h.apart i hi
    have h2 := h.ct.lt i hi
    simp only [List.mem_cons, not_or] at h1 hm
    rcases hm with hm | hm | hm
    · exact h1.1 hm
    · exact h1.2.1 hm
    · rcases hL.2 i hm with h3 | h3
      · exact h1.2.2 h3
      · omega
  · refine h.base_fr hL.1 fun i hi => h.low i ?_
    unfold WFt
    simp only [List.mem_cons, List.mem_append] at hi ⊢
    rcases hi with h1 | h1 | h1
    · exact .inl h1
    · exact .inr (.inl h1)
    · exact .inr (.inr (.inl h1))
  · refine hL.1.mono fun i hi => ?_
    unfold WFt
    simp only [List.mem_cons, List.mem_append] at hi ⊢
    rcases hi with h1 | h1 | h1
    · exact .inl h1
    · exact .inr (.inl h1)
    · exact .inr (.inr (.inl h1))
theorem StpI.same {lo W g b lim : Nat} {m : List Dk.Ent} {ve vs : Value} {xs : List EA} {w w' : World} {c : Ct} {t : Dk.St} (h : WmX lo W g b lim m ve vs xs w c t) (hb : Below w.heap.size w w') (r : Int) : StpI lo W g b lim (WFt W g b m ve vs) w (r, c, t) (.returned (.int .i64 r)) w' :=
  ⟨rfl, _, ⟨m, ve, vs, xs, h.below hb, rfl⟩, Dk.Fr.below hb, fun _ hi => .inl hi⟩
theorem StpI.disk {lo W g b lim : Nat} {m m' : List Dk.Ent} {ve vs : Value} {xs : List EA} {w w' : World} {c : Ct} {t t' : Dk.St} (h : WmX lo W g b lim m ve vs xs w c t) (hI : Dk.Im w' g b m' t') (hL : Kp.LeftM w g b m m' w') (r : Int) : StpI lo W g b lim (WFt W g b m ve vs) w (r, c, t') (.returned (.int .i64 r)) w' :=
  have h1 := h.after hI hL
  ⟨rfl, _, ⟨m', ve, vs, xs, h1.1, rfl⟩, h1.2.1, h1.2.2⟩
/-- behind a part that was carried out -/
theorem StpI.then {lo W g b lim : Nat} {F F1 : List Nat} {w w1 w2 : World} {q : Int × Ct × Dk.St} {e : Ending} (hf : Dk.Fr F w w1) (hs : ∀ i ∈ F1, i ∈ F ∨ w.heap.size ≤ i) (h : StpI lo W g b lim F1 w1 q e w2) : StpI lo W g b lim F w q e w2 := by
  obtain ⟨h1, F2, h2, h3, h4⟩ := h
  refine ⟨h1, F2, h2, hf.trans h3 hs, fun i hi => ?_⟩
  rcases h4 i hi with h5 | h5
  · exact hs i h5
  · exact .inr (Nat.le_trans hf.size h5)
end Go.Proofs.YtgmpdifggaggdaaGreatDoor.Wl

namespace Go.Proofs.YtgmpdifggaggdaaGreatDoor.Wl
open Go.RowKit Go.Proofs.YtgmpdifggaggdaaGreatDoor.Fld
set_option linter.unusedVariables false

theorem still_below {w w' : World} (h : Still w w') : Below w.heap.size w w' := Dk.Fr.to_below (S := []) (Below.refl _ _) (fr_still h) (fun _ hi => by simp at hi)
theorem lastN_snoc {c : Ct} {L : List Sg} {S : Sg} (h : c.segs = L ++ [S]) : lastN c = S.num := by unfold lastN; rw [h, List.getLast?_append]; rfl
/-- the last segment in memory -/
theorem WmX.lastq {lo W g b lim : Nat} {m : List Dk.Ent} {ve vs : Value} {xs : List EA} {w : World} {c : Ct} {t : Dk.St} (h : WmX lo W g b lim m ve vs xs w c t) {L : List Sg} {S : Sg} (hs : c.segs = L ++ [S]) :
    ∃ q cp, vs = .slice (some ⟨q, 0, none⟩) (L.length + 1) cp ∧ ∀ k v, S.cells[k]? = some v → w.cell? ⟨q, L.length * 3 + k, none⟩ = some v := by
  obtain ⟨q, cp, hv⟩ := h.ct.seg_form hs
  refine ⟨q, cp, hv, fun k v hk => ?_⟩
  have h1 := h.ct.rS
  have hl : c.segs.length = L.length + 1 := by rw [hs]; simp
  rw [hl, hs, hv] at h1
  exact seg_cell h1 rfl k v hk
theorem WmX.W_off {lo W g b lim : Nat} {m : List Dk.Ent} {ve vs : Value} {xs : List EA} {w : World} {c : Ct} {t : Dk.St} (h : WmX lo W g b lim m ve vs xs w c t) : W ∉ g :: b :: Dk.blks m := h.apart W (.inl rfl)
theorem wft_disk {W g b : Nat} {m : List Dk.Ent} {ve vs : Value} : ∀ i ∈ g :: b :: Dk.blks m, i ∈ WFt W g b m ve vs := fun i hi => by
  unfold WFt
  simp only [List.mem_cons, List.mem_append] at hi ⊢
  rcases hi with h1 | h1 | h1
  · exact .inl h1
  · exact .inr (.inl h1)
  · exact .inr (.inr (.inl h1))
set_option maxRecDepth 100000 in
set_option maxHeartbeats 3200000 in
theorem sync1_any {lo W g b lim : Nat} {m : List Dk.Ent} {ve vs : Value} {xs : List EA} {w : World} {c : Ct} {t : Dk.St} (h : WmX lo W g b lim m ve vs xs w c t) {L : List Sg} {S : Sg} (hs : c.segs = L ++ [S]) (hl : L.length ≤ 900000) (hm : t.fs.length ≤ 900000) (bw : Nat) (hw : w.cell? ⟨bw, 0, none⟩ = some (.pointer (some ⟨W, 0, none⟩))) (hbF : bw ∉ WFt W g b m ve vs) :
    Calls Tryz.prog 101 #[.pointer (some ⟨bw, 0, none⟩)] w (StpI lo W g b lim (WFt W g b m ve vs) w (spSync c t)) := by
  have HX := Lib.hid h
  have c0 := h.ct.blk.cell 0 (.pointer (some ⟨g, 0, none⟩)) rfl
  have HR := Lib.hid (show spSync c t = spDisk (Dk.stSync (segN S.num)) c t by unfold spSync; rw [lastN_snoc hs])
  have hno := (h.ct.ok.2 S (by rw [hs]; simp)).2.1
  obtain ⟨q, cp, hv, hc⟩ := h.lastq hs
  have HLS := Lib.hid (fun (w' : World) (hb : Below w.heap.size w w') => show Calls Tryz.prog 38 #[.pointer (some ⟨W, 3, none⟩)] w' (fun e w2 => e = .returned (.pointer (some ⟨q, L.length * 3, none⟩)) ∧ Still w' w2) from (lastSeg_any W 3 q (L.length + 1) cp _ _ w' (h.below hb).ct.blk (show (wcs g lim c ve vs)[3 + 2]? = some (.slice (some ⟨q, 0, none⟩) (L.length + 1) cp) from by rw [← hv]; rfl) (by omega) (by omega)))
  have HCS := Lib.hid (show w.cell? ⟨q, L.length * 3, none⟩ = some (.int .i64 (S.num : Int)) ∧ w.cell? ⟨q, L.length * 3 + 1, none⟩ = some (.int .i64 (S.next : Int)) ∧ w.cell? ⟨q, L.length * 3 + 2, none⟩ = some (.int .i64 (S.size : Int)) from ⟨hc 0 _ rfl, hc 1 _ rfl, hc 2 _ rfl⟩)
  have HNM := Lib.hid (fun (w' : World) (hb : Below w.heap.size w w') => segname_any S.num (.int .i64 (S.next : Int)) (.int .i64 (S.size : Int)) hno w' (h.below hb).base)
  have HU := Lib.hid (fun (w' : World) (hb : Below w.heap.size w w') => show Calls Tryz.prog 43 #[.pointer (some ⟨g, 0, none⟩), .string (str (segN S.num))] w' (Dk.Did w' g b m (Dk.stSync (segN S.num) t)) from by
    have := Dk.sync_did g b m t (str (segN S.num)) w' (h.im.below hb) (by omega)
    rwa [str_data] at this)
  have HO1 := Lib.hid (show bw ∉ g :: b :: Dk.blks m from fun hm => hbF (wft_disk _ hm))
  have HO2 := Lib.hid h.W_off
  have HO3 := Lib.hid (show q ∉ g :: b :: Dk.blks m from h.apart q (.inr (.inr (.inl (by rw [hv]; rfl)))))
  obtain ⟨p, hp⟩ : ∃ p, L.length * 3 = p := ⟨_, rfl⟩
  rw [hp] at HLS HCS
  clear h hs hv hc hp hbF
  generalize spSync c t = R at *
  go_enter Tryz.func101, Tryz.ntmps101
  go_wp2_with fail
  have z2 := HCS.out.1
  have z3 := HCS.out.2.1
  have z4 := HCS.out.2.2
  go_region_held3 (fun w' => w'.cell? ⟨bw, 0, none⟩ = some (.pointer (some ⟨W, 0, none⟩)) ∧ w'.cell? ⟨W, 0, none⟩ = some (.pointer (some ⟨g, 0, none⟩)) ∧ w'.cell? ⟨q, p, none⟩ = some (.int .i64 (S.num : Int)) ∧ w'.cell? ⟨q, p + 1, none⟩ = some (.int .i64 (S.next : Int)) ∧ w'.cell? ⟨q, p + 2, none⟩ = some (.int .i64 (S.size : Int))) (first | exact ⟨by assumption, by assumption, by assumption, by assumption, by assumption⟩ | go_keep) (first
    | (go_at_call 38; refine (HLS.out _ (by first | exact Below.refl _ _ | exact (Below.refl _ _).drew)).mono ?_; rintro e w1 ⟨rfl, hst⟩; have HB1 := Lib.hid (show Below w.heap.size w w1 from (by first | exact still_below hst | exact (Below.refl _ _).drew.trans (still_below hst))); have x0 := (HB1.out.cell (lt_of_cell HCS.out.1)).trans HCS.out.1; have x1 := (HB1.out.cell (lt_of_cell HCS.out.2.1)).trans HCS.out.2.1; have x2 := (HB1.out.cell (lt_of_cell HCS.out.2.2)).trans HCS.out.2.2; have p0 := (HB1.out.cell (lt_of_cell hw)).trans hw; have p1 := (HB1.out.cell (lt_of_cell c0)).trans c0; clear hst)
    | (go_at_call 29; refine (HNM.out _ (by first | exact HB1.out | exact HB1.out.drew)).mono ?_; rintro e w2 ⟨rfl, hb2⟩; have HB2 := Lib.hid (show Below w.heap.size w w2 from (by first | exact HB1.out.trans (hb2.mono HB1.out.size) | exact HB1.out.drew.trans (hb2.mono HB1.out.size))); have q0 := (HB2.out.cell (lt_of_cell hw)).trans hw; have q1 := (HB2.out.cell (lt_of_cell c0)).trans c0; have q2 := (HB2.out.cell (lt_of_cell HCS.out.1)).trans HCS.out.1; have q3 := (HB2.out.cell (lt_of_cell HCS.out.2.1)).trans HCS.out.2.1; have q4 := (HB2.out.cell (lt_of_cell HCS.out.2.2)).trans HCS.out.2.2; clear hb2)
    | (go_at_call 43; refine (HU.out _ (by first | exact HB2.out | exact HB2.out.drew)).mono ?_; rintro e w3 ⟨rfl, m3, hL3⟩; have HLM := Lib.hid (show Kp.LeftM w g b m m3 w3 from (by first | exact (Kp.LeftM.below HB2.out).trans ⟨hL3.2.1, hL3.2.2⟩ | exact (Kp.LeftM.below HB2.out.drew).trans ⟨hL3.2.1, hL3.2.2⟩)); have HF := Lib.hid (StpI.disk HX.out hL3.1 HLM.out (Dk.stSync (segN S.num) t).1); have r0 := HLM.out.1.cell hw HO1.out; have r1 := HLM.out.1.cell c0 HO2.out; have r2 := HLM.out.1.cell HCS.out.1 HO3.out; have r3 := HLM.out.1.cell HCS.out.2.1 HO3.out; have r4 := HLM.out.1.cell HCS.out.2.2 HO3.out; clear hL3))
  go_wp2
  go_ret
  rw [HR.out]
  exact HF.out
end Go.Proofs.YtgmpdifggaggdaaGreatDoor.Wl

namespace Go.Proofs.YtgmpdifggaggdaaGreatDoor.Wl
open Go.RowKit Go.Proofs.YtgmpdifggaggdaaGreatDoor.Fld
set_option linter.unusedVariables false

theorem WmX.sized {lo W g b lim : Nat} {m : List Dk.Ent} {ve vs : Value} {xs : List EA} {w : World} {c : Ct} {t : Dk.St} (h : WmX lo W g b lim m ve vs xs w c t) {L : List Sg} {S : Sg} (hs : c.segs = L ++ [S]) {q cp : Nat} (hv : vs = .slice (some ⟨q, 0, none⟩) (L.length + 1) cp) (k : Nat) :
    WmX lo W g b lim m ve vs xs (w.setCell ⟨q, L.length * 3 + 2, none⟩ (.int .i64 ((S.size + k : Nat) : Int))) ⟨c.lg, addSz k c.segs⟩ t ∧ Dk.Fr (WFt W g b m ve vs) w (w.setCell ⟨q, L.length * 3 + 2, none⟩ (.int .i64 ((S.size + k : Nat) : Int))) := by
  have h1 := h.ct.sized hs hv rfl k
  rw [Nat.add_sub_cancel] at h1
  have hq : vs.ownBlock = some q := by rw [hv]; rfl
  have hqd := h.apart q (.inr (.inr (.inl hq)))
  have hfr : Dk.Fr (WFt W g b m ve vs) w (w.setCell ⟨q, L.length * 3 + 2, none⟩ (.int .i64 ((S.size + k : Nat) : Int))) := (Dk.Fr.refl _ _).setCell ⟨q, L.length * 3 + 2, none⟩ (.inl (by simp [WFt, CtF, hq])) _
  refine ⟨⟨h.im.of_blocks fun i hi => ?_, h1, h.apart, h.base_fr hfr h.low, h.low, h.glo, h.lim1, h.lim2⟩, hfr⟩
  exact Below.heap_setCell _ _ _ _ (by simp only; rintro rfl; exact hqd hi)
set_option maxRecDepth 100000 in
set_option maxHeartbeats 3200000 in
theorem write1_any {lo W g b lim : Nat} {m : List Dk.Ent} {ve vs : Value} {xs : List EA} {w : World} {c : Ct} {t : Dk.St} (h : WmX lo W g b lim m ve vs xs w c t) {L : List Sg} {S : Sg} (hs : c.segs = L ++ [S]) (hl : L.length ≤ 900000) (hz : S.size ≤ 1099511627776) (hm : t.fs.length ≤ 900000) (bw bb : Nat) (hw : w.cell? ⟨bw, 0, none⟩ = some (.pointer (some ⟨W, 0, none⟩))) (A : Option Addr) (n cap : Nat) (ys : List Int) (hb : w.cell? ⟨bb, 0, none⟩ = some (.slice A n cap)) (hr : Rd w A n ys) (hA : A = none → cap = 0) (hn : n ≤ 65536) (hbF : bw ∉ WFt W g b m ve vs) (hbF2 : bb ∉ WFt W g b m ve vs) :
    Calls Tryz.prog 77 #[.pointer (some ⟨bw, 0, none⟩), .pointer (some ⟨bb, 0, none⟩)] w (StpI lo W g b lim (WFt W g b m ve vs) w (spWrite ys c t)) := by
  have HX := Lib.hid h
  have c0 := h.ct.blk.cell 0 (.pointer (some ⟨g, 0, none⟩)) rfl
  have HR := Lib.hid (show spWrite ys c t = ((Dk.stAppend (segN S.num) ys t).1, if (Dk.stAppend (segN S.num) ys t).1 = 0 then ⟨c.lg, addSz n c.segs⟩ else c, (Dk.stAppend (segN S.num) ys t).2) by unfold spWrite; rw [lastN_snoc hs, hr.1])
  have hno := (h.ct.ok.2 S (by rw [hs]; simp)).2.1
  obtain ⟨q, cp, hv, hc⟩ := h.lastq hs
  have HLS := Lib.hid (fun (w' : World) (hb : Below w.heap.size w w') => show Calls Tryz.prog 38 #[.pointer (some ⟨W, 3, none⟩)] w' (fun e w2 => e = .returned (.pointer (some ⟨q, L.length * 3, none⟩)) ∧ Still w' w2) from (lastSeg_any W 3 q (L.length + 1) cp _ _ w' (h.below hb).ct.blk (show (wcs g lim c ve vs)[3 + 2]? = some (.slice (some ⟨q, 0, none⟩) (L.length + 1) cp) from by rw [← hv]; rfl) (by omega) (by omega)))
  have HCS := Lib.hid (show w.cell? ⟨q, L.length * 3, none⟩ = some (.int .i64 (S.num : Int)) ∧ w.cell? ⟨q, L.length * 3 + 1, none⟩ = some (.int .i64 (S.next : Int)) ∧ w.cell? ⟨q, L.length * 3 + 2, none⟩ = some (.int .i64 (S.size : Int)) from ⟨hc 0 _ rfl, hc 1 _ rfl, hc 2 _ rfl⟩)
  have HNM := Lib.hid (fun (w' : World) (hb : Below w.heap.size w w') => segname_any S.num (.int .i64 (S.next : Int)) (.int .i64 (S.size : Int)) hno w' (h.below hb).base)
  have HU := Lib.hid (fun (w' : World) (hb : Below w.heap.size w w') => show Calls Tryz.prog 41 #[.pointer (some ⟨g, 0, none⟩), .string (str (segN S.num)), .slice A n cap] w' (Dk.Did w' g b m (Dk.stAppend (segN S.num) ys t)) from by
    have := Dk.app_did g b m t (str (segN S.num)) A n cap ys w' (h.im.below hb) (by omega) (hr.below hb) hA (by omega)
    rwa [str_data] at this)
  have HSZ := Lib.hid (fun (m' : List Dk.Ent) (w' : World) (t' : Dk.St) (h' : WmX lo W g b lim m' ve vs xs w' c t') => And.intro (h'.sized hs hv n) (show w'.frozen? ⟨q, L.length * 3 + 2, none⟩ = false from by
      have h1 := h'.ct.rS
      have hl : c.segs.length = L.length + 1 := by rw [hs]; simp
      rw [hl, hs, hv] at h1
      exact row_free h1 rfl _))
  have HO1 := Lib.hid (show bw ∉ g :: b :: Dk.blks m from fun hm => hbF (wft_disk _ hm))
  have HO2 := Lib.hid h.W_off
  have HO3 := Lib.hid (show q ∉ g :: b :: Dk.blks m from h.apart q (.inr (.inr (.inl (by rw [hv]; rfl)))))
  have HO4 := Lib.hid (show bb ∉ g :: b :: Dk.blks m from fun hm => hbF2 (wft_disk _ hm))
  obtain ⟨p, hp⟩ : ∃ p, L.length * 3 = p := ⟨_, rfl⟩
  rw [hp] at HLS HCS HSZ
  clear h hs hv hc hp hbF hbF2 hr
  generalize spWrite ys c t = R at *
  go_enter Tryz.func77, Tryz.ntmps77
  go_wp2_with (go_at_call 38; refine (HLS.out _ (by first | exact Below.refl _ _ | exact (Below.refl _ _).drew)).mono ?_; rintro e w1 ⟨rfl, hst⟩; have HB1 := Lib.hid (show Below w.heap.size w w1 from (by first | exact still_below hst | exact (Below.refl _ _).drew.trans (still_below hst))); have x0 := (HB1.out.cell (lt_of_cell HCS.out.1)).trans HCS.out.1; have x1 := (HB1.out.cell (lt_of_cell HCS.out.2.1)).trans HCS.out.2.1; have x2 := (HB1.out.cell (lt_of_cell HCS.out.2.2)).trans HCS.out.2.2; have p0 := (HB1.out.cell (lt_of_cell hw)).trans hw; have p1 := (HB1.out.cell (lt_of_cell c0)).trans c0; have p2 := (HB1.out.cell (lt_of_cell hb)).trans hb; clear hst)
  go_region_held3 (fun w' => w'.cell? ⟨bw, 0, none⟩ = some (.pointer (some ⟨W, 0, none⟩)) ∧ w'.cell? ⟨W, 0, none⟩ = some (.pointer (some ⟨g, 0, none⟩)) ∧ w'.cell? ⟨q, p, none⟩ = some (.int .i64 (S.num : Int)) ∧ w'.cell? ⟨q, p + 1, none⟩ = some (.int .i64 (S.next : Int)) ∧ w'.cell? ⟨q, p + 2, none⟩ = some (.int .i64 (S.size : Int)) ∧ w'.cell? ⟨bb, 0, none⟩ = some (.slice A n cap)) (first | exact ⟨by assumption, by assumption, by assumption, by assumption, by assumption, by assumption⟩ | go_keep) (first
    | (go_at_call 29; refine (HNM.out _ (by first | exact HB1.out | exact HB1.out.drew)).mono ?_; rintro e w2 ⟨rfl, hb2⟩; have HB2 := Lib.hid (show Below w.heap.size w w2 from (by first | exact HB1.out.trans (hb2.mono HB1.out.size) | exact HB1.out.drew.trans (hb2.mono HB1.out.size))); have q0 := (HB2.out.cell (lt_of_cell hw)).trans hw; have q1 := (HB2.out.cell (lt_of_cell c0)).trans c0; have q2 := (HB2.out.cell (lt_of_cell HCS.out.1)).trans HCS.out.1; have q3 := (HB2.out.cell (lt_of_cell HCS.out.2.1)).trans HCS.out.2.1; have q4 := (HB2.out.cell (lt_of_cell HCS.out.2.2)).trans HCS.out.2.2; have q5 := (HB2.out.cell (lt_of_cell hb)).trans hb; clear hb2)
    | (go_at_call 41; refine (HU.out _ (by first | exact HB2.out | exact HB2.out.drew)).mono ?_; rintro e w3 ⟨rfl, m3, hL3⟩; have HLM := Lib.hid (show Kp.LeftM w g b m m3 w3 from (by first | exact (Kp.LeftM.below HB2.out).trans ⟨hL3.2.1, hL3.2.2⟩ | exact (Kp.LeftM.below HB2.out.drew).trans ⟨hL3.2.1, hL3.2.2⟩)); have HI3 := Lib.hid hL3.1; have r0 := HLM.out.1.cell hw HO1.out; have r1 := HLM.out.1.cell c0 HO2.out; have r2 := HLM.out.1.cell HCS.out.1 HO3.out; have r3 := HLM.out.1.cell HCS.out.2.1 HO3.out; have r4 := HLM.out.1.cell HCS.out.2.2 HO3.out; have r5 := HLM.out.1.cell hb HO4.out; clear hL3))
  have HA3 := Lib.hid (HX.out.after HI3.out HLM.out)
  generalize Dk.stAppend (segN S.num) ys t = r9 at *
  obtain ⟨r, t3⟩ := r9
  try simp only at HI3 HR HA3 ⊢
  by_cases hr0 : r = 0
  · subst hr0
    rw [if_pos rfl] at HR
    have HZ4 := Lib.hid (HSZ.out m3 w3.drew t3 (HA3.out.1.below (Below.refl _ _).drew))
    have f2 := HZ4.out.2
    have s2 : w3.drew.cell? ⟨q, p + 2, none⟩ = some (.int .i64 (S.size : Int)) := r4
    have e0 : ((S.size + n : Nat) : Int) = (S.size : Int) + (n : Int) := by omega
    have e1 : IntKind.i64.wrap ((S.size : Int) + (n : Int)) = (S.size : Int) + (n : Int) := wrap_in _ (by omega) (by omega)
    rw [e0] at HZ4
    have HF := Lib.hid (show StpI lo W g b lim (WFt W g b m ve vs) w (0, ⟨c.lg, addSz n c.segs⟩, t3) (.returned (.int .i64 0)) _ from ⟨rfl, _, ⟨m3, ve, vs, xs, HZ4.out.1.1, rfl⟩, HA3.out.2.1.drew.trans HZ4.out.1.2 HA3.out.2.2, HA3.out.2.2⟩)
    clear e0
    go_wp2
    go_still_tail 9, (by kernel_rfl)
    change wpList _ _ _ _ _ w3.drew
    generalize w3.drew = w4 at *
    go_wp2
    go_ret
    rw [HR.out]
    exact HF.out
  · rw [if_neg hr0] at HR
    have HF := Lib.hid (StpI.disk HX.out HI3.out HLM.out r)
    have j1 : decide (r = 0) = false := decide_eq_false hr0
    go_wp2
    go_ret
    rw [HR.out]
    exact HF.out
end Go.Proofs.YtgmpdifggaggdaaGreatDoor.Wl
