/-
  The document's own disk: Read. Conditions: it lies in memory as it was made (Rf).
-/
import Derived.Test.YthdpdhjhpbkhaaaDiskRefU
namespace Go.Proofs.Ythdpdhjhpbkhaaa.Dk
open Go.RowKit Go.Proofs.Ythdpdhjhpbkhaaa.Fld

set_option maxRecDepth 100000 in
set_option maxHeartbeats 3200000 in
theorem rread_any (r : Nat) (lv : Value) (m : List Ent) (t : St) (s : ByteArray) (w : World) (h : Rf w r lv m t) (hm : t.fs.length ≤ 1000000) (hs : s.size ≤ maxLen) : Calls Try.prog 30 #[.pointer (some ⟨r, 0, none⟩), .string s] w (ReadIs w (stRead s.data.toList t)) := by
  have HN := Lib.hid (isname_any s w hs)
  have HP := Lib.hid (place_any r lv m t s w h hm)
  have hml : m.length ≤ 1000000 := by rw [h.len]; exact hm
  have HI := Lib.hid h
  obtain ⟨A, cap, hlv, hd, hcap⟩ := h.form
  obtain ⟨c0, c1, c2, c3, c4⟩ := hd.cells
  have hst : stRead s.data.toList t = if t.off then ((5 : Int), []) else if okN s.data.toList then (match found m s with | some e => ((0 : Int), e.zs) | none => (2, [])) else (1, []) := by
    unfold stRead
    rw [h.get]
    cases found m s <;> rfl
  rw [hst]
  have HUP := Lib.hid h.up
  clear h hst hd
  cases hoff : t.off with
  | true =>
    rw [hoff] at c4
    rw [if_pos rfl]
    generalize okN s.data.toList = ok at *
    go_enter Try.func30, Try.ntmps30
    go_wp2_with (go_at_call 52; refine HN.out.mono ?_; rintro e w' ⟨rfl, rfl⟩)
    go_ret2
    exact ⟨none, 0, 0, rfl, Sl.nil w, by omega, Below.refl _ _⟩
  | false =>
    rw [hoff] at c4
    rw [if_neg (by simp)]
    cases hok : okN s.data.toList with
    | false =>
      rw [hok] at HN
      rw [if_neg (by simp)]
      go_enter Try.func30, Try.ntmps30
      go_wp2_with (go_at_call 52; refine HN.out.mono ?_; rintro e w' ⟨rfl, rfl⟩)
      go_ret2
      exact ⟨none, 0, 0, rfl, Sl.nil _, by omega, Below.refl _ _⟩
    | true =>
      rw [hok] at HN
      rw [if_pos rfl]
      cases hf : found m s with
      | none =>
        rw [plc_lost hf] at HP
        simp only
        go_enter Try.func30, Try.ntmps30
        go_wp2_with (first | (go_at_call 52; refine HN.out.mono ?_; rintro e w' ⟨rfl, rfl⟩) | (go_at_call 46; refine HP.out.mono ?_; rintro e w' ⟨rfl, rfl⟩))
        go_ret2
        exact ⟨none, 0, 0, rfl, Sl.nil _, by omega, Below.refl _ _⟩
      | some e =>
        obtain ⟨k, hk, hpl, hke⟩ := plc_found HUP.out hf
        rw [hpl] at HP
        simp only
        obtain ⟨q, cap2, hv, hc1, hc2, k0, k1, k2, _⟩ := HI.out.cell k hk
        rw [hv] at hlv
        cases hlv
        obtain ⟨BA, bc, hbv, hsl⟩ := HI.out.byt m[k] (List.getElem_mem hk)
        rw [hke] at hbv hsl
        rw [hke, hbv] at k1
        have hl : e.zs.length ≤ 16777216 := by
          have h1 := total_del (f := e.fil) HI.out.good.up (x := s.data.toList) (by rw [HI.out.get, hf]; rfl)
          have h2 := HI.out.good.fits
          have h3 := HI.out.good.room2
          have h4 : e.fil.2.1.length = e.zs.length := rfl
          omega
        have p1 := fun o => cell_past c1 o
        have q1 := fun o => cell_past k1 o
        have HO := Lib.hid (Own.made w w (Below.refl _ _))
        have HR := Lib.hid (hsl.1.below HO.out.1)
        have HA := Lib.hid hsl.2.2.2.1
        unfold noneBlk at HO HR
        clear hsl hbv hpl hv
        generalize hn : e.zs.length = n at *
        have HL := Lib.hid hn
        clear hn
        go_enter Try.func30, Try.ntmps30
        go_wp2_with (first | (go_at_call 52; refine HN.out.mono ?_; rintro e w' ⟨rfl, rfl⟩) | (go_at_call 46; refine HP.out.mono ?_; rintro e w' ⟨rfl, rfl⟩) | (at_builtin; refine wpList_append_rd rfl _ _ rfl w _ [] rfl HO.out BA n bc e.zs rfl HA.out HR.out (by simp; omega) ?_; intro v2 w2 hO2 _ _; rw [List.nil_append] at hO2; have HO2 := Lib.hid hO2; clear hO2))
        go_ret2
        obtain ⟨A2, cap2, hv2, hs2, _⟩ := HO2.out.sl n HL.out
        subst hv2
        exact ⟨A2, n, cap2, rfl, hs2, hl, HO2.out.1⟩
end Go.Proofs.Ythdpdhjhpbkhaaa.Dk
