/-
  Both readers side by side: each reading of package field's reader and of the document's, as one function of what is left to read. Conditions: the readers lie in memory as they were made.
-/
import Derived.Test.YtiegihopjhbliaaFieldStays
import Derived.Test.YtiegihopjhbliaaFieldDocU
namespace Go.Proofs.Ytiegihopjhbliaa.Fld
open Go.RowKit

def numR (rest : List Int) (bad : Bool) (most : Int) : Int × List Int × Bool :=
  if bad = true then (0, rest, true) else
  match cutNum rest with
  | some (v, r) => if (v : Int) ≤ most then ((v : Int), r, false) else (0, rest, true)
  | none => (0, rest, true)
def intR (rest : List Int) (bad : Bool) (low high : Int) : Int × List Int × Bool :=
  if bad = true then (0, rest, true) else
  match cutInt rest with
  | some (v, r) => if low ≤ v ∧ v ≤ high then (v, r, false) else (0, rest, true)
  | none => (0, rest, true)
def textR (rest : List Int) (bad : Bool) (most : Int) : List Int × List Int × Bool :=
  if bad = true then ([], rest, true) else
  match cutText rest with
  | some (t, r) => if (t.length : Int) ≤ most then (t, r, false) else ([], rest, true)
  | none => ([], rest, true)

theorem num_all (g h : Nat) (rest : List Int) (bad : Bool) (most : Int) : ∃ q : Int × List Int × Bool,
    (∀ w, Rdr w g rest bad → Calls Try.prog 20 #[.pointer (some ⟨g, 0, none⟩), .int .u64 most] w (Got g w (.int .u64 q.1) q.2.1 q.2.2)) ∧
    (∀ w, DocR w h rest bad → Calls Try.prog 21 #[.pointer (some ⟨h, 0, none⟩), .int .u64 most] w (DGot h w (.int .u64 q.1) q.2.1 q.2.2)) := by
  refine ⟨numR rest bad most, ?_⟩
  unfold numR
  cases bad with
  | true =>
    rw [if_pos rfl]
    exact ⟨fun w hr => num_bad g rest w true hr most (.inl rfl), fun w hr => dnum_bad h rest true w hr most (.inl rfl)⟩
  | false =>
    rw [if_neg (by simp)]
    cases hc : cutNum rest with
    | none => exact ⟨fun w hr => num_bad g rest w false hr most (.inr (.inl hc)), fun w hr => dnum_bad h rest false w hr most (.inr (.inl hc))⟩
    | some q =>
      obtain ⟨v, r⟩ := q
      simp only
      by_cases hm : (v : Int) ≤ most
      · rw [if_pos hm]
        exact ⟨fun w hr => num_ok g rest w hr v r hc most hm, fun w hr => dnum_ok h rest w hr v r hc most hm⟩
      · rw [if_neg hm]
        exact ⟨fun w hr => num_bad g rest w false hr most (.inr (.inr ⟨v, r, hc, by omega⟩)), fun w hr => dnum_bad h rest false w hr most (.inr (.inr ⟨v, r, hc, by omega⟩))⟩
theorem int_all (g h : Nat) (rest : List Int) (bad : Bool) (low high : Int) : ∃ q : Int × List Int × Bool,
    (∀ w, Rdr w g rest bad → Calls Try.prog 22 #[.pointer (some ⟨g, 0, none⟩), .int .i64 low, .int .i64 high] w (Got g w (.int .i64 q.1) q.2.1 q.2.2)) ∧
    (∀ w, DocR w h rest bad → Calls Try.prog 23 #[.pointer (some ⟨h, 0, none⟩), .int .i64 low, .int .i64 high] w (DGot h w (.int .i64 q.1) q.2.1 q.2.2)) := by
  refine ⟨intR rest bad low high, ?_⟩
  unfold intR
  cases bad with
  | true =>
    rw [if_pos rfl]
    exact ⟨fun w hr => rint_bad g rest w true hr low high (.inl rfl), fun w hr => dint_bad h rest true w hr low high (.inl rfl)⟩
  | false =>
    rw [if_neg (by simp)]
    cases hc : cutInt rest with
    | none => exact ⟨fun w hr => rint_bad g rest w false hr low high (.inr (.inl hc)), fun w hr => dint_bad h rest false w hr low high (.inr (.inl hc))⟩
    | some q =>
      obtain ⟨v, r⟩ := q
      simp only
      by_cases hm : low ≤ v ∧ v ≤ high
      · rw [if_pos hm]
        exact ⟨fun w hr => rint_ok g rest w hr v r hc low high hm.1 hm.2, fun w hr => dint_ok h rest w hr v r hc low high hm.1 hm.2⟩
      · rw [if_neg hm]
        exact ⟨fun w hr => rint_bad g rest w false hr low high (.inr (.inr ⟨v, r, hc, by omega⟩)), fun w hr => dint_bad h rest false w hr low high (.inr (.inr ⟨v, r, hc, by omega⟩))⟩
theorem Got.text {g : Nat} {w : World} {rest : List Int} {e : Ending} {w' : World} (h : Got g w (.slice none 0 0) rest true e w') : GotT g w [] rest true e w' := ⟨none, 0, 0, h.1, Sl.nil w', h.2⟩
theorem DGot.text {h : Nat} {w : World} {rest : List Int} {e : Ending} {w' : World} (d : DGot h w (.slice none 0 0) rest true e w') : DGotT h w [] rest true e w' := ⟨none, 0, 0, d.1, Rd.nil w', d.2⟩
theorem text_all (g h : Nat) (rest : List Int) (bad : Bool) (most : Int) (hm0 : -9223372036854775808 ≤ most) (hm1 : most ≤ 9223372036854775807) : ∃ q : List Int × List Int × Bool,
    (∀ w, Rdr w g rest bad → Calls Try.prog 24 #[.pointer (some ⟨g, 0, none⟩), .int .i64 most] w (GotT g w q.1 q.2.1 q.2.2)) ∧
    (∀ w, DocR w h rest bad → Calls Try.prog 25 #[.pointer (some ⟨h, 0, none⟩), .int .i64 most] w (DGotT h w q.1 q.2.1 q.2.2)) := by
  refine ⟨textR rest bad most, ?_⟩
  unfold textR
  cases bad with
  | true =>
    rw [if_pos rfl]
    exact ⟨fun w hr => (rtext_bad g rest w true hr most (.inl rfl)).mono fun _ _ d => d.text, fun w hr => (dtext_bad h rest true w hr most hm0 hm1 (.inl rfl)).mono fun _ _ d => d.text⟩
  | false =>
    rw [if_neg (by simp)]
    cases hc : cutText rest with
    | none => exact ⟨fun w hr => (rtext_bad g rest w false hr most (.inr (.inl hc))).mono fun _ _ d => d.text, fun w hr => (dtext_bad h rest false w hr most hm0 hm1 (.inr (.inl hc))).mono fun _ _ d => d.text⟩
    | some q =>
      obtain ⟨t, r⟩ := q
      simp only
      by_cases hm : (t.length : Int) ≤ most
      · rw [if_pos hm]
        exact ⟨fun w hr => rtext_ok g rest w hr t r hc most hm, fun w hr => dtext_ok h rest w hr t r hc most hm hm1⟩
      · rw [if_neg hm]
        exact ⟨fun w hr => (rtext_bad g rest w false hr most (.inr (.inr ⟨t, r, hc, by omega⟩))).mono fun _ _ d => d.text, fun w hr => (dtext_bad h rest false w hr most hm0 hm1 (.inr (.inr ⟨t, r, hc, by omega⟩))).mono fun _ _ d => d.text⟩

/-! ### each beside the other -/
theorem Rd.chg2 {w w' : World} {g : Nat} {A : Option Addr} {n : Nat} {zs : List Int} (h : Rd w A n zs) (hc : Chg g w w') {A' : Option Addr} {n' cap' : Nat} {bad : Bool} (ht : Two w g A' n' cap' bad) : Rd w' A n zs := by
  refine h.of_same fun a c ha => ?_
  have hlt := lt_of_cell ha
  have hne : a.block ≠ g := by
    rintro rfl
    unfold World.cell? at ha
    rw [ht] at ha
    obtain ⟨b, off, sp⟩ := a
    rcases off with _ | _ | off
    · cases sp <;> simp at ha
    · cases sp <;> simp at ha
    · cases sp <;> simp at ha
  exact World.cell?_of_block (w := w) (hc.block _ hlt hne)
theorem DocR.chg {w w' : World} {g h : Nat} {rest zs : List Int} {bad bad' : Bool} (d : DocR w h rest bad) (hc : Chg g w w') (hg : h ≠ g) (hr : Rdr w g zs bad') : DocR w' h rest bad := by
  obtain ⟨A, n, cap, p, z, ⟨t, r, h1, h2, h3⟩, e⟩ := d
  obtain ⟨A', n', cap', ht, _⟩ := hr
  exact ⟨A, n, cap, p, z, ⟨t.of_block (hc.block h t.lt hg), r.chg2 hc ht, h1, h2, h3⟩, e⟩
theorem Rdr.doc {w w' : World} {g h : Nat} {rest zs : List Int} {bad bad' : Bool} (hr : Rdr w g zs bad) (hc : Chg h w w') (hg : g ≠ h) (d : DocR w h rest bad') : Rdr w' g zs bad := by
  obtain ⟨A, n, cap, p, z, ⟨t, _⟩, _⟩ := d
  obtain ⟨A', n', cap', ht, hs, hn⟩ := hr
  exact ⟨A', n', cap', ht.of_block (hc.block g ht.lt hg), ⟨hs.1.chg3 hc t, hs.2⟩, hn⟩
theorem Sl.doc {w w' : World} {h : Nat} {A : Option Addr} {n cap : Nat} {zs rest : List Int} {bad : Bool} (hs : Sl w A n cap zs) (hc : Chg h w w') (d : DocR w h rest bad) : Sl w' A n cap zs := by
  obtain ⟨_, _, _, _, _, ⟨t, _⟩, _⟩ := d
  exact ⟨hs.1.chg3 hc t, hs.2⟩
theorem DocR.below {w w' : World} {h : Nat} {rest : List Int} {bad : Bool} (d : DocR w h rest bad) (hb : Below w.heap.size w w') : DocR w' h rest bad := by
  obtain ⟨A, n, cap, p, z, ⟨t, r, h1⟩, e⟩ := d
  exact ⟨A, n, cap, p, z, ⟨t.of_block (hb.block h t.lt), r.below hb, h1⟩, e⟩
theorem below_drewN (w : World) (k : Nat) : Below w.heap.size w (w.drewN k) := ⟨rfl, rfl, rfl, Nat.le_refl _, fun _ _ => rfl⟩
theorem below_drew (w : World) : Below w.heap.size w w.drew := ⟨rfl, rfl, rfl, Nat.le_refl _, fun _ _ => rfl⟩
theorem bad_quiet2 (g : Nat) (zs : List Int) (bad : Bool) (w : World) (n : Nat) (h : Rdr w g zs bad) : Calls Try.prog 26 #[.pointer (some ⟨g, 0, none⟩)] (w.drewN n) fun e w'' => e = .returned (.bool bad) ∧ ∃ m, w'' = w.drewN m :=
  (bad_any g zs bad (w.drewN n) (h.below (below_drewN w n))).mono fun _ _ ⟨he, hw⟩ => ⟨he, n, hw.symm⟩
theorem whole_quiet (g : Nat) (zs : List Int) (bad : Bool) (w : World) (n : Nat) (h : Rdr w g zs bad) : Calls Try.prog 27 #[.pointer (some ⟨g, 0, none⟩)] (w.drewN n) fun e w'' => e = .returned (.bool (wholeB zs bad)) ∧ ∃ m, w'' = w.drewN m :=
  (whole_any g zs bad (w.drewN n) (h.below (below_drewN w n))).mono fun _ _ ⟨he, hw⟩ => ⟨he, n, hw.symm⟩
theorem dwhole_quiet (h : Nat) (rest : List Int) (bad : Bool) (w : World) (n : Nat) (d : DocR w h rest bad) : Calls Try.prog 28 #[.pointer (some ⟨h, 0, none⟩)] (w.drewN n) fun e w'' => e = .returned (.bool (wholeB rest bad)) ∧ ∃ m, w'' = w.drewN m :=
  (dwhole_any h rest bad (w.drewN n) (d.below (below_drewN w n))).mono fun _ _ ⟨he, k, hw⟩ => ⟨he, n + k, by rw [hw, World.drewN_drewN]⟩
end Go.Proofs.Ytiegihopjhbliaa.Fld
