/- Words for bytes in memory, for texts; the document's first number, its parts. -/
import Derived.Test.YtkdnhhhgggmapaaUtfRefLay
import Derived.Test.YtkdnhhhgggmapaaStabAll
import Derived.Laws.BytesArg
import Derived.LoopN
namespace Go.Proofs.Ytkdnhhhgggmapaa.Utf
open Go.RowKit
set_option maxRecDepth 100000
set_option maxHeartbeats 400000

theorem vb_length (l : List Int) : (vb l).length = l.length := by simp [vb]
/-- A slice of bytes at an address that reads as l and lies below block B. -/
def Byt (w : World) (B : Nat) (ad : Addr) (l : List Int) : Prop := ad.block < B ∧ ad.spot = none ∧ ∀ j, j < l.length → w.cell? ⟨ad.block, ad.off + j, none⟩ = some (.int .u8 (l.getD j 0))
theorem Byt.keep {w w' : World} {B : Nat} {ad : Addr} {l : List Int} (h : Byt w B ad l) (hb : Below B w w') : Byt w' B ad l :=
  ⟨h.1, h.2.1, fun j hj => by rw [hb.cell (p := ⟨ad.block, ad.off + j, none⟩) h.1]; exact h.2.2 j hj⟩
theorem Byt.mono {w : World} {B B' : Nat} {ad : Addr} {l : List Int} (h : Byt w B ad l) (hB : B ≤ B') : Byt w B' ad l := ⟨by have := h.1; omega, h.2⟩
theorem Byt.take {w : World} {B : Nat} {ad : Addr} {l : List Int} (h : Byt w B ad l) (n : Nat) : Byt w B ad (l.take n) := ⟨h.1, h.2.1, fun j hj => by
  rw [List.length_take] at hj
  rw [h.2.2 j (by omega), show (l.take n).getD j 0 = l.getD j 0 from by rw [List.getD_eq_getElem?_getD, List.getD_eq_getElem?_getD, List.getElem?_take, if_pos (by omega)]]⟩
/-- Its text. -/
theorem run_txt (w : World) (g off n c : Nat) (l : List Int) (hl : l.length = n) (h : ∀ i, i < n → w.cell? ⟨g, off + i, none⟩ = some (.int .u8 (l.getD i 0))) : (convert 22 9 (.slice (some ⟨g, off, none⟩) n c)).run Try.prog w = .ok (.string (strOfNums l)) w :=
  run_convert_bytes_arg w 22 5 Try.underlying22 Try.underlying5 g off n c l hl h 9 Try.underlying9
theorem nil_txt (w : World) : (convert 22 9 (.slice none 0 0)).run Try.prog w = .ok (.string (strOfNums [])) w := rfl
theorem Byt.txt {w : World} {B g off : Nat} {l : List Int} (h : Byt w B ⟨g, off, none⟩ l) (c : Nat) : (convert 22 9 (.slice (some ⟨g, off, none⟩) l.length c)).run Try.prog w = .ok (.string (strOfNums l)) w :=
  run_txt w g off l.length c l rfl h.2.2
/-- Texts are one just if their bytes are. -/
theorem str_inj {a b : List Int} (ha : ∀ x ∈ a, 0 ≤ x ∧ x < 256) (hb : ∀ x ∈ b, 0 ≤ x ∧ x < 256) (h : strOfNums a = strOfNums b) : a = b := by
  have e := congrArg (fun s => s.data.toList) h
  simp only [strOfNums_data] at e
  have key : ∀ (a b : List Int), (∀ x ∈ a, 0 ≤ x ∧ x < 256) → (∀ x ∈ b, 0 ≤ x ∧ x < 256) → (a.map fun n => UInt8.ofNat n.toNat) = (b.map fun n => UInt8.ofNat n.toNat) → a = b := by
    intro a
    induction a with
    | nil => intro b _ _ h; cases b with
      | nil => rfl
      | cons y b => simp at h
    | cons x a ih => intro b ha hb h; cases b with
      | nil => simp at h
      | cons y b =>
        simp only [List.map_cons, List.cons.injEq] at h
        have hx := ha x (by simp)
        have hy := hb y (by simp)
        have h1 := congrArg UInt8.toNat h.1
        simp only [UInt8.toNat_ofNat'] at h1
        have : x = y := by omega
        rw [this, ih b (fun z hz => ha z (by simp [hz])) (fun z hz => hb z (by simp [hz])) h.2]
  exact key a b ha hb e
theorem str_toList {a b : ByteArray} (h : a.toList = b.toList) : a = b := by
  rw [ByteArray.toList_eq, ByteArray.toList_eq] at h
  obtain ⟨a⟩ := a
  obtain ⟨b⟩ := b
  exact congrArg ByteArray.mk (Array.toList_inj.1 h)
/-- What lay hands back, seen later: nothing, or new bytes. -/
def LayV (v : Int) (x : Value) (w : World) : Prop := (¬ okR v ∧ x = .slice none 0 0) ∨ (okR v ∧ ∃ g, x = .slice (some ⟨g, 0, none⟩) (enc v).length (enc v).length ∧ Byt w w.heap.size ⟨g, 0, none⟩ (enc v))
theorem LayV.stays {v : Int} : Stab.Stays (LayV v) := fun x w w' h hb => by
  rcases h with h | ⟨h, g, hx, hg⟩
  · exact .inl h
  · exact .inr ⟨h, g, hx, (hg.keep hb).mono hb.size⟩
/-- Its bytes. -/
def layL (v : Int) : List Int := if okR v then enc v else []
theorem LayV.txt {v : Int} {x : Value} {w : World} (h : LayV v x w) : (convert 22 9 x).run Try.prog w = .ok (.string (strOfNums (layL v))) w := by
  rcases h with ⟨h, rfl⟩ | ⟨h, g, rfl, hg⟩
  · rw [show layL v = [] from if_neg h]; exact nil_txt w
  · rw [show layL v = enc v from if_pos h]; exact hg.txt _
theorem newB_byt (w : World) (l : List Int) : Byt (newB w l) (newB w l).heap.size ⟨w.heap.size, 0, none⟩ l := by
  refine ⟨by simp [newB], rfl, fun j hj => ?_⟩
  unfold newB
  rw [Nat.zero_add, World.cell?_alloc_at (hn := rfl)]
  simp [vb, hj]
theorem rlay_any (v : Int) (w : World) : Calls Try.prog 51 #[.int .i64 v] w fun e w' => ∃ x, e = .returned x ∧ Below w.heap.size w w' ∧ LayV v x w' := by
  by_cases h : okR v
  · refine (rlay_ok v w h).mono ?_
    rintro e w' ⟨rfl, rfl⟩
    exact ⟨_, rfl, (Below.refl _ _).alloc (Nat.le_refl _) _, .inr ⟨h, _, rfl, newB_byt w _⟩⟩
  · refine (rlay_bad v w h).mono ?_
    rintro e w' ⟨rfl, rfl⟩
    exact ⟨_, rfl, Below.refl _ _, .inl ⟨h, rfl⟩⟩
end Go.Proofs.Ytkdnhhhgggmapaa.Utf
