/-
  Bytes that a call has made itself, and what append does to them; that the laws CrcParts and CrcOwn answer true and leave memory as it was. Conditions: as each theorem states.
-/
import Derived.Test.YtoaejlljicfkhaaCrcJoin
import Derived.Maps.AppendAt
import Derived.Laws.AppendOwnNone
namespace Go.Proofs.Ytoaejlljicfkhaa.Crc
open Go.RowKit

def by8 (zs : List Int) : List Value := zs.map (fun c => .int .u8 c)
theorem by8_length (zs : List Int) : (by8 zs).length = zs.length := by simp [by8]
theorem by8_append (xs ys : List Int) : by8 (xs ++ ys) = by8 xs ++ by8 ys := by simp [by8]
theorem by8_at (zs : List Int) (i : Nat) (h : i < zs.length) : (by8 zs)[i]? = some (.int .u8 (zs.getD i 0)) := by simp [by8, h]
theorem by8_one (zs : List Int) : ∀ u ∈ by8 zs, u.oneCell' = true := by
  intro u hu
  simp only [by8, List.mem_map] at hu
  obtain ⟨c, _, rfl⟩ := hu
  rfl
theorem byte_info : ∃ i, Try.prog.info? 5 = some i ∧ i.zero = some (.int .u8 0) ∧ i.size = 1 ∧ i.bytes = 1 := by
  have h : (Try.prog.info? 5).map (fun i => (i.zero, i.size, i.bytes)) = some (some (.int .u8 0), 1, 1) := by kernel_rfl
  cases hq : Try.prog.info? 5 with
  | none => simp [hq] at h
  | some i => simp [hq] at h; exact ⟨i, rfl, h⟩

/-- v is a slice of bytes zs, in memory that was made behind w0; what was there at w0 is as it was -/
def Own (w0 w : World) (v : Value) (zs : List Int) : Prop := Below w0.heap.size w0 w ∧ Bytes zs ∧ w.ownsRow w0.heap.size 5 1 v zs.length (by8 zs)

theorem Own.form {w0 w : World} {v : Value} {zs : List Int} (h : Own w0 w v zs) (n : Nat) (hn : zs.length = n) (hl : n ≤ maxLen) : ∃ A cap, v = .slice A n cap ∧ Rd w A n zs := by
  subst hn
  obtain ⟨hb, hby, hlen, h⟩ := h
  rcases h with ⟨rfl, h0⟩ | ⟨g, cap, cur, rfl, hg, hh, hnc, hcm, hcs, hcu⟩
  · exact ⟨none, 0, by rw [h0], rfl, hl, hby, fun h => by omega⟩
  · refine ⟨_, _, rfl, rfl, hl, hby, fun hp => ⟨g, 0, rfl, fun i hi => ?_⟩⟩
    rw [Nat.zero_add, cell_of_row w g i cur _ (0, 0) hh, ← by8_at zs i hi, ← hcu]
    rw [List.getElem?_take, if_pos (by omega), Array.getElem?_toList]

theorem bytes_append {xs ys : List Int} (hx : Bytes xs) (hy : Bytes ys) : Bytes (xs ++ ys) := by
  intro c hc
  rw [List.mem_append] at hc
  rcases hc with h | h
  · exact hx c h
  · exact hy c h

theorem wpList_append_rd {w : World} {ops : Array Oper} {rest : List Oper} {o : Oper} {a : Act} {Q : Exit → Act → World → Prop} (hgd : o.guard = none) (s x : Operand)
    (ho : o.op = .call { callee := .builtin .append, args := #[s, x], argTypes := #[22, 22] })
    (w0 : World) (v : Value) (zs : List Int) (hs : a.eval s = v) (hown : Own w0 w v zs)
    (A : Option Addr) (n c : Nat) (ys : List Int) (hx : a.eval x = .slice A n c) (hA : A = none → c = 0) (hr : Rd w A n ys) (hb : zs.length + n ≤ 10000000)
    (h : ∀ v' w', Own w0 w' v' (zs ++ ys) → wpList Try.prog ops Q rest (a.put o.dst v') w') : wpList Try.prog ops Q (o :: rest) a w := by
  obtain ⟨i, hi, hz, hsz, hby⟩ := byte_info
  obtain ⟨hb1, hby1, hrow⟩ := hown
  obtain ⟨hl, hm, hby2, hc⟩ := hr
  have hcat := bytes_append hby1 hby2
  rcases A with _ | ad
  · have hn : n = 0 := by
      rcases Nat.eq_zero_or_pos n with h0 | h0
      · exact h0
      · obtain ⟨b, off, he, _⟩ := hc h0; cases he
    subst hn
    obtain rfl : ys = [] := List.eq_nil_of_length_eq_zero hl
    obtain rfl := hA rfl
    refine wpList_append_own_none hgd s x _ ho w0.heap.size 5 i 1 Try.underlying22 hi v _ _ hs hrow hx ?_
    exact h v w (by rw [List.append_nil]; exact ⟨hb1, hby1, hrow⟩)
  · refine wpList_append_own_at w hgd s x _ ho w0.heap.size 5 i _ 1 1 Try.underlying22 hi hz hsz hby rfl (by omega) v _ _ hs hrow ad n c (by8 ys) hx (by rw [by8_length]; omega) ?_ (by8_one ys) (by unfold maxLen; omega) (by omega) hb1.size ?_
    · intro j u hu
      have hj : j < ys.length := by
        rcases Nat.lt_or_ge j ys.length with hj | hj
        · exact hj
        · rw [List.getElem?_eq_none (by rw [by8_length]; exact hj)] at hu; cases hu
      rw [by8_at ys j hj] at hu
      obtain ⟨b, off, he, hcell⟩ := hc (by omega)
      injection he with he
      subst he
      have := hcell j (by omega)
      rw [← hu, ← this]
      congr 1
      unfold Addr.add
      split <;> simp_all
    · intro v' w' hrow' hg _ _
      refine h v' w' ⟨hb1.grown hg hb1.size ?_, hcat, ?_⟩
      · intro k hk
        rcases hrow.2 with ⟨rfl, _⟩ | ⟨g, cap, cur, rfl, hg, _⟩
        · simp [Value.ownBlock] at hk
        · simp [Value.ownBlock] at hk; omega
      · rw [List.length_append, hl, by8_append]; exact hrow'

def noneBlk : Obj := .cells #[] 5
theorem Own.made (w0 w : World) (hb : Below w0.heap.size w0 w) : Own w0 (w.alloc noneBlk) (.slice (some ⟨w.heap.size, 0, none⟩) 0 0) [] :=
  ⟨hb.alloc hb.size _, fun c hc => by simp at hc, rfl, .inr ⟨w.heap.size, 0, #[], rfl, hb.size, heap_alloc_new w _, Nat.le_refl _, by unfold maxLen; omega, rfl, rfl⟩⟩

set_option maxHeartbeats 800000 in
theorem parts_walk (A : Option Addr) (n cap : Nat) (xs : List Int) (B : Option Addr) (m cbp : Nat) (ys : List Int) (w : World) (hx : Rd w A n xs) (hA : A = none → cap = 0) (hy : Rd w B m ys) (hB : B = none → cbp = 0) :
    Calls Try.prog 6 #[.slice A n cap, .slice B m cbp] w fun e w' => e = .returned (.bool true) ∧ Below w.heap.size w w' := by
  have kc := fun (w : World) (C : Array Value) (n c : Nat) => Lib.run_convert_bytes_const (P := Try.prog) w 22 5 C n c Try.underlying22 Try.underlying5
  have hm1 := hx.2.1
  have hm2 := hy.2.1
  unfold maxLen at hm1 hm2
  have HX := Lib.hid hx
  have HY := Lib.hid hy
  have HA := Lib.hid hA
  have HBn := Lib.hid hB
  clear hx hy hA hB
  by_cases h1 : 1000000 < n
  · go_enter Try.func6, Try.ntmps6
    go_wp2
    go_ret
    exact ⟨rfl, Below.refl _ _⟩
  · by_cases h2 : 1000000 < m
    · go_enter Try.func6, Try.ntmps6
      go_wp2
      go_ret
      exact ⟨rfl, Below.refl _ _⟩
    · have HO := Lib.hid (Own.made w w (Below.refl _ _))
      have HX1 := Lib.hid (HX.out.below HO.out.1)
      have hl1 := Lib.hid HX.out.1
      have hl2 := Lib.hid HY.out.1
      unfold noneBlk at HO HX1
      go_enter Try.func6, Try.ntmps6
      go_wp2_with (refine wpList_append_rd rfl _ _ rfl w _ [] rfl HO.out A n cap xs rfl HA.out HX1.out (by simp; omega) ?_)
      intro v1 w1 hO1
      have HO1 := Lib.hid hO1
      have HY1 := Lib.hid (HY.out.below hO1.1)
      clear hO1
      go_wp2_with (refine wpList_append_rd rfl _ _ rfl w _ xs rfl HO1.out B m cbp ys rfl HBn.out HY1.out (by rw [hl1.out]; omega) ?_)
      intro v2 w2 hO2
      obtain ⟨C, cc, hv, hrd⟩ := hO2.form (n + m) (by rw [List.length_append, hl1.out, hl2.out]) (by unfold maxLen; omega)
      subst hv
      have HR2 := Lib.hid hrd
      have HO2 := Lib.hid hO2
      have HX2 := Lib.hid (HX.out.below hO2.1)
      have HY2 := Lib.hid (HY.out.below hO2.1)
      clear hrd hO2
      go_wp2_with fail
      refine (sum_any _ _ _ _ _ HR2.out).mono ?_
      rintro e w3 ⟨rfl, rfl⟩
      go_wp2_with fail
      refine (sum_any _ _ _ _ _ HX2.out).mono ?_
      rintro e w3 ⟨rfl, rfl⟩
      go_wp2_with fail
      refine (sum_any _ _ _ _ _ HY2.out).mono ?_
      rintro e w3 ⟨rfl, rfl⟩
      go_wp2_with fail
      refine (join_ok _ _ m (by omega) _).mono ?_
      rintro e w3 ⟨rfl, hb3⟩
      have hb : Below w2.heap.size w2 (w3.alloc nineBlk) := hb3.alloc hb3.size _
      have HB := Lib.hid (HO2.out.1.trans (hb.mono HO2.out.1.size))
      have HY3 := Lib.hid (HY2.out.below hb)
      have H1 := Lib.hid (sum_any _ 9 9 _ _ (Rd.nine w3))
      rw [nine_sum] at H1
      have HE := Lib.hid (sumS_append xs ys)
      have HJ := Lib.hid (sumS_join xs ys)
      rw [hl2.out] at HJ
      unfold nineBlk at H1 HB HY3
      clear hb hb3
      go_wp2_with fail
      refine H1.out.mono ?_
      rintro e w4 ⟨rfl, rfl⟩
      rw [← HJ.out]
      go_wp2_with fail
      refine (add_any _ _ _ _ _ _ HY3.out).mono ?_
      rintro e w4 ⟨rfl, rfl⟩
      rw [← HE.out]
      go_wp2
      go_ret
      exact ⟨rfl, HB.out⟩
end Go.Proofs.Ytoaejlljicfkhaa.Crc
