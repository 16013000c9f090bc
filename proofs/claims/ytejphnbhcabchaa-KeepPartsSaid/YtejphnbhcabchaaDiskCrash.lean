/-
  Crash of the program's disk. Conditions: the disk lies in memory as it was made (Im), keep can be read and is none of its blocks.
-/
import Derived.Test.YtejphnbhcabchaaDiskCr
namespace Go.Proofs.Ytejphnbhcabchaa.Dk
open Go.RowKit Go.Proofs.Ytejphnbhcabchaa.Fld

def CrR (w1 : World) (g b : Nat) (m : List Ent) (t : St) (ks : List Int) (i : Value) (wr : World) : Prop := ∃ k : Nat, k ≤ m.length ∧ i = .int .i64 (k : Int) ∧ Left w1 g b m { t with fs := crashTo k ks t.fs } wr
/-- the entry of a round -/
theorem crash_ent {wr w1 : World} {g b : Nat} {m m' : List Ent} {t : St} {ks : List Int} {k : Nat} (h : Im w1 g b m t) (h' : Im wr g b m' { t with fs := crashTo k ks t.fs }) (hk : k < m.length) :
    ∃ e f, found m' ((m.map fun e => (⟨e.nm.toArray⟩ : ByteArray)).getD k ⟨#[]⟩) = some e ∧ t.fs[k]? = some f ∧ e.fil = f ∧ ((m.map fun e => (⟨e.nm.toArray⟩ : ByteArray)).getD k ⟨#[]⟩).data.toList = f.1 := by
  have hkl : k < t.fs.length := by rw [← h.len]; exact hk
  obtain ⟨f, hf⟩ : ∃ f, t.fs[k]? = some f := ⟨_, List.getElem?_eq_getElem hkl⟩
  have hk' : k < m'.length := by rw [h'.len]; simp only [crashTo_len]; exact hkl
  have hef : (m'[k]).fil = f := by
    have h1 : (m'.map Ent.fil)[k]? = some f := by
      rw [← h'.fs]
      show (crashTo k ks t.fs)[k]? = _
      rw [crashTo_at, hf]
      simp
    rw [List.getElem?_map, List.getElem?_eq_getElem hk', Option.map_some] at h1
    exact Option.some.inj h1
  have hnm : ((m.map fun e => (⟨e.nm.toArray⟩ : ByteArray)).getD k ⟨#[]⟩).data.toList = f.1 := by
    have h1 : (m.map Ent.fil)[k]? = some f := by rw [← h.fs]; exact hf
    rw [List.getElem?_map, List.getElem?_eq_getElem hk, Option.map_some] at h1
    have h2 := Option.some.inj h1
    rw [List.getD_eq_getElem?_getD, List.getElem?_map, List.getElem?_eq_getElem hk, Option.map_some, Option.getD_some]
    rw [← h2]
    rfl
  refine ⟨m'[k], f, ?_, hf, hef, hnm⟩
  unfold found
  rw [hnm, ← hef]
  exact get_mem h'.up (List.getElem_mem hk')
theorem wrap64_in (x : Int) (h1 : -1000000000 ≤ x) (h2 : x ≤ 1000000000) : wrap64 x = x := by unfold wrap64; omega
end Go.Proofs.Ytejphnbhcabchaa.Dk
