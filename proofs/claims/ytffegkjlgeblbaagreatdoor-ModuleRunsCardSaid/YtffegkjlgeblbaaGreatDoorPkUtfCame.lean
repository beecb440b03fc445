/- UtfNm, UtfLay, UtfAwake, UtfCame. -/
import Derived.Test.YtffegkjlgeblbaaGreatDoorPkUtfName
import Derived.Lib.ConvBytes
import Derived.Lib.AppendStr
import Derived.Laws.Bits128
section
/- Names: why a string may be none, and what stands in bytes at a place, by the program and by the document. -/
namespace Go.Proofs.YtffegkjlgeblbaaGreatDoor.Utf
open Go.RowKit
set_option maxRecDepth 100000
set_option maxHeartbeats 1000000

/-- Why bytes may be no name. -/
noncomputable def fltE (l : List Int) : Int := bif decide (64 < l.length) then 4 else bif isT l then 0 else 3
theorem ret_i64 {a b : Int} (h : a = b) : Ending.returned (.int .i64 a) = .returned (.int .i64 b) := by rw [h]
theorem fault_any (s : ByteArray) (w : World) : Calls Tryz.prog 114 #[.string s] w fun e w' => e = .returned (.int .i64 (fltE (bl s))) ∧ Below w.heap.size w w' := by
  have HI := Lib.hid (istext_any s w)
  have hl := bl_len s
  by_cases h : 64 < s.size
  · have H : Hid (fltE (bl s) = 4) := by show _ = _; unfold fltE; rw [hl, decide_eq_true h]; rfl
    have h' : decide ((64 : Int) < (s.size : Int)) = true := by simp; omega
    clear HI hl
    go_enter Tryz.func114, Tryz.ntmps114
    go_wp2_with fail
    go_ret
    exact ⟨ret_i64 H.out.symm, Below.refl _ _⟩
  · have h' : decide ((64 : Int) < (s.size : Int)) = false := by simp; omega
    cases hT : isT (bl s) with
    | true =>
      rw [hT] at HI
      have H : Hid (fltE (bl s) = 0) := by show _ = _; unfold fltE; rw [hl, decide_eq_false h, hT]; rfl
      clear hT h hl
      go_enter Tryz.func114, Tryz.ntmps114
      go_wp2_with fail
      refine HI.out.mono ?_
      rintro e w1 ⟨rfl, hb⟩
      have HB := Lib.hid hb
      clear hb
      go_wp2_with fail
      go_ret
      exact ⟨ret_i64 H.out.symm, HB.out⟩
    | false =>
      rw [hT] at HI
      have H : Hid (fltE (bl s) = 3) := by show _ = _; unfold fltE; rw [hl, decide_eq_false h, hT]; rfl
      clear hT h hl
      go_enter Tryz.func114, Tryz.ntmps114
      go_wp2_with fail
      refine HI.out.mono ?_
      rintro e w1 ⟨rfl, hb⟩
      have HB := Lib.hid hb
      clear hb
      go_wp2_with fail
      go_ret
      exact ⟨ret_i64 H.out.symm, HB.out⟩
theorem pname_err (sl : Value) (at_ e : Int) (w : World) (he : (e != 0) = true)
    (h : Calls Tryz.prog 111 #[sl, .int .i64 at_, .int .i64 32] w (Leb.RTold w 0 0 e .u64)) :
    Calls Tryz.prog 171 #[sl, .int .i64 at_] w (NmTold w [] 0 e) := by
  have H := Lib.hid h
  clear h
  go_enter Tryz.func171, Tryz.ntmps171
  go_wp2_with fail
  refine H.out.mono ?_
  rintro en w1 ⟨rfl, hb⟩
  have HB := Lib.hid hb
  clear hb
  go_wp2_with fail
  go_ret3
  exact ⟨rfl, HB.out⟩
theorem pname_short (A : Option Addr) (n c v p : Nat) (at_ : Int) (w : World) (hn : n ≤ 1000000) (hp : p ≤ n) (hv : n - p < v)
    (h : Calls Tryz.prog 111 #[.slice A n c, .int .i64 at_, .int .i64 32] w (Leb.RTold w (v : Int) (p : Int) 0 .u64)) :
    Calls Tryz.prog 171 #[.slice A n c, .int .i64 at_] w (NmTold w [] 0 2) := by
  have H := Lib.hid h
  have h1 : (n : Int) - (p : Int) < (v : Int) := by omega
  have h2 : IntKind.i64.wrap ((n : Int) - (p : Int)) = (n : Int) - (p : Int) := IntWalk.i64_in _ (by omega)
  have h3 : IntKind.u64.wrap ((n : Int) - (p : Int)) = (n : Int) - (p : Int) := by rw [IntKind.wrap_u64]; omega
  clear h
  go_enter Tryz.func171, Tryz.ntmps171
  go_wp2_with fail
  refine H.out.mono ?_
  rintro en w1 ⟨rfl, hb⟩
  have HB := Lib.hid hb
  clear hb
  go_wp2_with fail
  go_ret3
  exact ⟨rfl, HB.out⟩
theorem pname_in (g off c v p : Nat) (at_ : Int) (l : List Int) (w : World) (hby : ∀ x ∈ l, 0 ≤ x ∧ x < 256) (hB : Byt w w.heap.size ⟨g, off, none⟩ l) (hn : l.length ≤ 1000000) (hp : p ≤ l.length) (hv : v ≤ l.length - p) (hc : l.length ≤ c) (hm : c ≤ 9223372036854775807)
    (h : Calls Tryz.prog 111 #[.slice (some ⟨g, off, none⟩) l.length c, .int .i64 at_, .int .i64 32] w (Leb.RTold w (v : Int) (p : Int) 0 .u64)) :
    Calls Tryz.prog 171 #[.slice (some ⟨g, off, none⟩) l.length c, .int .i64 at_] w (bif fltE ((l.drop p).take v) == 0 then NmTold w ((l.drop p).take v) ((p : Int) + (v : Int)) 0 else NmTold w [] 0 (fltE ((l.drop p).take v))) := by
  have H := Lib.hid h
  have HB := Lib.hid hB
  have hq : ∀ x ∈ (l.drop p).take v, 0 ≤ x ∧ x < 256 := fun x hx => hby x (List.mem_of_mem_drop (List.mem_of_mem_take hx))
  have HQ := Lib.hid hq
  have hsl := part_run g off l.length c p v (by omega) hc
  have HP := Lib.hid (part_sl (w := w) (p := p) (v := v) hB (by omega) hc hm)
  revert HQ HP
  generalize (l.drop p).take v = q
  intro HQ HP
  revert hsl HP
  generalize offAt off c p = o
  intro hsl HP
  have h1 : decide ((l.length : Int) - (p : Int) < (v : Int)) = false := by simp; omega
  have h2 : IntKind.i64.wrap ((l.length : Int) - (p : Int)) = (l.length : Int) - (p : Int) := IntWalk.i64_in _ (by omega)
  have h3 : IntKind.u64.wrap ((l.length : Int) - (p : Int)) = (l.length : Int) - (p : Int) := by rw [IntKind.wrap_u64]; omega
  have h5 : IntKind.i64.wrap (v : Int) = (v : Int) := IntWalk.i64_in _ (by omega)
  have h6 : IntKind.i64.wrap ((p : Int) + (v : Int)) = (p : Int) + (v : Int) := IntWalk.i64_in _ (by omega)
  clear h hB hby hq hn hp hv hc hm
  go_enter Tryz.func171, Tryz.ntmps171
  go_wp2_with fail
  refine H.out.mono ?_
  rintro en w1 ⟨rfl, hb⟩
  have HB1 := Lib.hid hb
  clear hb
  have HL := Lib.hid HP.out.1
  have htx := (HP.out.2.keep HB1.out).txt HL.out
  have HF := Lib.hid (fault_any (strOfNums q) w1)
  rw [bl_str HQ.out] at HF
  generalize hE : fltE q = E at HF
  have HE := Lib.hid hE
  clear hE
  by_cases hz : E = 0
  · subst hz
    go_wp2_with fail
    refine HF.out.mono ?_
    rintro en w2 ⟨rfl, hb2⟩
    have HB2 := Lib.hid (HB1.out.trans (hb2.mono HB1.out.size))
    clear hb2
    go_wp2_with fail
    go_ret3
    rw [HE.out]
    exact ⟨rfl, HB2.out⟩
  · have hz1 : (E != 0) = true := by simpa using hz
    have hz2 : Hid ((E == 0) = false) := by show _ = _; simpa using hz
    clear hz
    go_wp2_with fail
    refine HF.out.mono ?_
    rintro en w2 ⟨rfl, hb2⟩
    have HB2 := Lib.hid (HB1.out.trans (hb2.mono HB1.out.size))
    clear hb2
    go_wp2_with fail
    go_ret3
    rw [HE.out, hz2.out]
    exact ⟨rfl, HB2.out⟩
/-- What stands in bytes at a place: the name, the place behind, the error. -/
noncomputable def nmA (l : List Int) (v p : Nat) : List Int × Int × Int :=
  if l.length - p < v then ([], 0, 2) else bif fltE ((l.drop p).take v) == 0 then ((l.drop p).take v, (p : Int) + (v : Int), 0) else ([], 0, fltE ((l.drop p).take v))
noncomputable def nmK (l : List Int) (k : Nat) : List Int × Int × Int := match Leb.rdl Leb.fitU 32 (l.drop k) 0 0 with
  | .ok v m => nmA l v (k + m / 7)
  | .short => ([], 0, 2)
  | .form => ([], 0, 3)
open Classical in
noncomputable def nm (l : List Int) (at_ : Int) : List Int × Int × Int := if Leb.badArg l at_ 32 then ([], 0, 1) else nmK l at_.toNat
/-- How a name is told, in a word. -/
def NmIs (w : World) (x : List Int × Int × Int) (en : Ending) (w' : World) : Prop := NmTold w x.1 x.2.1 x.2.2 en w'
theorem rdl_len {fit : Int → Nat → Bool} {bits : Nat} : ∀ (l : List Int) (lo acc v m : Nat), Leb.rdl fit bits l lo acc = .ok v m → m ≤ lo + 7 * l.length
  | [], _, _, _, _, h => by cases h
  | c :: r, lo, acc, v, m, h => by
    rw [Leb.rdl] at h
    rw [List.length_cons]
    split at h
    · cases h
    · split at h
      · injection h with _ h
        omega
      · have := rdl_len r (lo + 7) _ v m h
        omega
theorem Sl.leb {w : World} {A : Option Addr} {n c : Nat} {l : List Int} (h : Sl w (.slice A n c) l) : Leb.Byt w w.heap.size A l := by
  intro h0
  obtain ⟨A', c', e, _, _, h4⟩ := h
  obtain ⟨g, off, rfl, hB⟩ := h4 (fun e => by rw [e] at h0; simp at h0)
  injection e with e1 e2 e3
  subst e1
  exact ⟨_, rfl, hB.1, fun j u hu => hB.cells j u hu⟩
theorem by255 {l : List Int} (h : ∀ x ∈ l, 0 ≤ x ∧ x < 256) : ∀ x ∈ l, 0 ≤ x ∧ x ≤ 255 := fun x hx => by have := h x hx; omega
/-- The name in any bytes at any place, by a reader of numbers that answers as the program's and the document's do. -/
theorem name_by (f r : FuncId) (v : Value) (l : List Int) (at_ : Int) (w : World) (hv : Sl w v l) (hl : l.length ≤ 1000000)
    (Rbad : ∀ (A : Option Addr) (c : Nat), Leb.badArg l at_ 32 → Calls Tryz.prog r #[.slice A l.length c, .int .i64 at_, .int .i64 32] w (Leb.RTold w 0 0 1 .u64))
    (Ris : ∀ (A : Option Addr) (c k : Nat), Leb.Byt w w.heap.size A l → k ≤ l.length → Calls Tryz.prog r #[.slice A l.length c, .int .i64 (k : Int), .int .i64 32] w (Leb.RTold w (Leb.uV (Leb.rdl Leb.fitU 32 (l.drop k) 0 0)) (Leb.uP k (Leb.rdl Leb.fitU 32 (l.drop k) 0 0)) (Leb.uE (Leb.rdl Leb.fitU 32 (l.drop k) 0 0)) .u64))
    (Ferr : ∀ (sl : Value) (at_ e : Int), (e != 0) = true → Calls Tryz.prog r #[sl, .int .i64 at_, .int .i64 32] w (Leb.RTold w 0 0 e .u64) → Calls Tryz.prog f #[sl, .int .i64 at_] w (NmTold w [] 0 e))
    (Fshort : ∀ (A : Option Addr) (n c v p : Nat) (at_ : Int), n ≤ 1000000 → p ≤ n → n - p < v → Calls Tryz.prog r #[.slice A n c, .int .i64 at_, .int .i64 32] w (Leb.RTold w (v : Int) (p : Int) 0 .u64) → Calls Tryz.prog f #[.slice A n c, .int .i64 at_] w (NmTold w [] 0 2))
    (Fin : ∀ (g off c v p : Nat) (at_ : Int), Byt w w.heap.size ⟨g, off, none⟩ l → p ≤ l.length → v ≤ l.length - p → l.length ≤ c → c ≤ 9223372036854775807 → Calls Tryz.prog r #[.slice (some ⟨g, off, none⟩) l.length c, .int .i64 at_, .int .i64 32] w (Leb.RTold w (v : Int) (p : Int) 0 .u64) →
      Calls Tryz.prog f #[.slice (some ⟨g, off, none⟩) l.length c, .int .i64 at_] w (bif fltE ((l.drop p).take v) == 0 then NmTold w ((l.drop p).take v) ((p : Int) + (v : Int)) 0 else NmTold w [] 0 (fltE ((l.drop p).take v)))) :
    Calls Tryz.prog f #[v, .int .i64 at_] w (NmIs w (nm l at_)) := by
  have hleb : ∀ {A : Option Addr} {n c : Nat}, v = .slice A n c → Leb.Byt w w.heap.size A l := fun e => Sl.leb (by rw [← e]; exact hv)
  obtain ⟨A, c, rfl, h2, h3, h4⟩ := hv
  have hA := hleb rfl
  unfold NmIs nm
  by_cases hbad : Leb.badArg l at_ 32
  · rw [if_pos hbad]
    exact Ferr _ _ 1 (by decide) (Rbad A c hbad)
  · rw [if_neg hbad]
    unfold Leb.badArg at hbad
    obtain ⟨k, rfl⟩ := Int.eq_ofNat_of_zero_le (show 0 ≤ at_ by omega)
    have hk : k ≤ l.length := by omega
    rw [Int.toNat_natCast]
    unfold nmK
    have hR := Ris A c k hA hk
    cases hr : Leb.rdl Leb.fitU 32 (l.drop k) 0 0 with
    | short => rw [hr] at hR; exact Ferr _ _ 2 (by decide) hR
    | form => rw [hr] at hR; exact Ferr _ _ 3 (by decide) hR
    | ok n m =>
      rw [hr] at hR
      have hR : Calls Tryz.prog r #[.slice A l.length c, .int .i64 (k : Int), .int .i64 32] w (Leb.RTold w (n : Int) ((k + m / 7 : Nat) : Int) 0 .u64) := hR
      have hm := rdl_len _ _ _ _ _ hr
      rw [List.length_drop] at hm
      have hp : k + m / 7 ≤ l.length := by omega
      show Calls Tryz.prog f _ w (NmTold w (nmA l n (k + m / 7)).1 (nmA l n (k + m / 7)).2.1 (nmA l n (k + m / 7)).2.2)
      unfold nmA
      by_cases hs : l.length - (k + m / 7) < n
      · rw [if_pos hs]
        exact Fshort A _ c n _ _ hl hp hs hR
      · rw [if_neg hs]
        have h0 : l ≠ [] := fun e => by rw [e] at hr; simp [Leb.rdl] at hr
        obtain ⟨g, off, rfl, hB⟩ := h4 h0
        have hF := Fin g off c n _ _ hB hp (by omega) h2 h3 hR
        cases hq : (fltE ((l.drop (k + m / 7)).take n) == 0) with
        | true => rw [hq] at hF; exact hF
        | false => rw [hq] at hF; exact hF
theorem pname_any (v : Value) (l : List Int) (at_ : Int) (w : World) (hby : ∀ x ∈ l, 0 ≤ x ∧ x < 256) (hv : Sl w v l) (hl : l.length ≤ 1000000) : Calls Tryz.prog 171 #[v, .int .i64 at_] w (NmIs w (nm l at_)) :=
  name_by _ 111 v l at_ w hv hl (fun A c h => Leb.bad_told (Leb.ReadU_bad A c 32 at_ l w hl h)) (fun A c k hA hk => Leb.ReadU_is A c 32 k l w hA hl (by255 hby) (by omega) (by omega) hk)
    (fun sl a e he h => pname_err sl a e w he h) (fun A n c x p a h1 h2 h3 h => pname_short A n c x p a w h1 h2 h3 h) (fun g off c x p a hB hp hx hc hm h => pname_in g off c x p a l w hby hB hl hp hx hc hm h)
end Go.Proofs.YtffegkjlgeblbaaGreatDoor.Utf
end

section
/- Names, laid: by the program and by the document. -/
namespace Go.Proofs.YtffegkjlgeblbaaGreatDoor.Utf
open Go.RowKit
set_option maxRecDepth 100000
set_option maxHeartbeats 1000000

theorem own_base {w : World} {B B' : Nat} {v : Value} {l : List Int} (h : Leb.Own w B v l) (hB : B' ≤ B) : Leb.Own w B' v l := by
  refine ⟨h.1, h.2.1, ?_⟩
  rcases h.2.2 with h0 | ⟨g, cap, cur, hv, hb, rest⟩
  · exact .inl h0
  · exact .inr ⟨g, cap, cur, hv, Nat.le_trans hB hb, rest⟩
end Go.Proofs.YtffegkjlgeblbaaGreatDoor.Utf
end

section
/- The document's example, as every statement of layer 3 asks it first. -/
namespace Go.Proofs.YtffegkjlgeblbaaGreatDoor.Utf
open Go.RowKit
set_option maxRecDepth 100000
set_option maxHeartbeats 1000000

theorem Byt.sl {w : World} {g off n c : Nat} {l : List Int} (h : Byt w w.heap.size ⟨g, off, none⟩ l) (hn : l.length = n) (hc : n ≤ c) (hm : c ≤ 9223372036854775807) : Sl w (.slice (some ⟨g, off, none⟩) n c) l :=
  ⟨_, c, by rw [hn], by omega, hm, fun _ => ⟨g, off, rfl, h⟩⟩
end Go.Proofs.YtffegkjlgeblbaaGreatDoor.Utf
end

section
/- What came in, as the statements of layer 3 take it: bytes, whole numbers. -/
namespace Go.Proofs.YtffegkjlgeblbaaGreatDoor.Utf
open Go.RowKit
set_option maxRecDepth 100000
set_option maxHeartbeats 1000000

theorem cell_spot {w : World} {x : Addr} {v : Value} (h : w.cell? x = some v) : x.spot = none := by
  unfold World.cell? at h
  split at h
  · split at h
    · cases h
    · rename_i hs
      cases hx : x.spot with
      | none => rfl
      | some _ => rw [hx] at hs; simp at hs
  · cases h
theorem add_plain (b o j : Nat) : (⟨b, o, none⟩ : Addr).add j = ⟨b, o + j, none⟩ := by
  unfold Addr.add
  split
  · rename_i h; subst h; rfl
  · rfl
theorem take_getD (zs : List Int) (n j : Nat) (h : j < n) : (zs.take n).getD j 0 = zs.getD j 0 := by
  rw [List.getD_eq_getElem?_getD, List.getD_eq_getElem?_getD, List.getElem?_take, if_pos h]
theorem came_parts {k : IntKind} {w : World} {a : Option Addr} {len cap : Nat} {zs : List Int} (h : Leb.Came k w a len cap zs) :
    (zs.take len).length = len ∧ len ≤ cap ∧ cap ≤ 9223372036854775807 ∧ (zs.take len ≠ [] → ∃ g off, a = some ⟨g, off, none⟩ ∧ g < w.heap.size ∧ ∀ j, j < len → w.cell? ⟨g, off + j, none⟩ = some (.int k ((zs.take len).getD j 0))) ∧ ∀ n ∈ zs.take len, (Lit.int k n).wf = true := by
  rcases h with ⟨rfl, rfl, rfl, rfl⟩ | ⟨x, rfl, hl, hm, hz, hc, hw⟩
  · exact ⟨rfl, Nat.le_refl _, by omega, fun h => absurd rfl h, by simp⟩
  · have hlen : (zs.take len).length = len := by rw [List.length_take]; omega
    unfold maxLen at hm
    refine ⟨hlen, hl, by omega, fun h0 => ?_, fun n hn => hw n (List.mem_of_mem_take hn)⟩
    have hpos : 0 < len := by
      rcases Nat.eq_zero_or_pos len with e | e
      · rw [e] at h0; simp at h0
      · exact e
    have h1 := hc 0 (by omega)
    rw [show x.add 0 = x from by unfold Addr.add; rw [if_pos rfl]] at h1
    obtain ⟨g, off, sp⟩ := x
    obtain rfl : sp = none := cell_spot h1
    refine ⟨g, off, rfl, World.block_lt_of_cell? w _ h1, fun j hj => ?_⟩
    rw [← add_plain, take_getD zs len j hj]
    exact hc j (by omega)
theorem came_sl {w : World} {a : Option Addr} {len cap : Nat} {zs : List Int} (h : Leb.Came .u8 w a len cap zs) : Sl w (.slice a len cap) (zs.take len) ∧ (∀ x ∈ zs.take len, 0 ≤ x ∧ x < 256) := by
  obtain ⟨h1, h2, h3, h4, h5⟩ := came_parts h
  refine ⟨⟨a, cap, by rw [h1], by omega, h3, fun h0 => ?_⟩, fun x hx => by have := bounds_u8 (h5 x hx); omega⟩
  obtain ⟨g, off, e, hg, hc⟩ := h4 h0
  exact ⟨g, off, e, hg, rfl, fun j hj => hc j (by omega)⟩
theorem came_slI {w : World} {a : Option Addr} {len cap : Nat} {zs : List Int} (h : Leb.Came .i64 w a len cap zs) : SlI w (.slice a len cap) (zs.take len) := by
  obtain ⟨h1, h2, h3, h4, h5⟩ := came_parts h
  refine ⟨a, cap, by rw [h1], by omega, h3, fun h0 => ?_⟩
  obtain ⟨g, off, e, hg, hc⟩ := h4 h0
  exact ⟨g, off, e, hg, fun j hj => hc j (by omega)⟩
theorem OwnB.row {w : World} {B : Nat} {v : Value} {l : List Int} (h : OwnB w B v l) : ∃ A c, v = .slice A l.length c ∧ Sl w (.slice A l.length c) l := by
  have hs := h.sl
  obtain ⟨A, c, e, _⟩ := h.sl
  exact ⟨A, c, e, by rw [← e]; exact hs⟩
theorem OwnI.row {w : World} {B : Nat} {v : Value} {l : List Int} (h : OwnI w B v l) : ∃ A c, v = .slice A l.length c ∧ SlI w (.slice A l.length c) l := by
  have hs := h.sl
  obtain ⟨A, c, e, _⟩ := h.sl
  exact ⟨A, c, e, by rw [← e]; exact hs⟩
end Go.Proofs.YtffegkjlgeblbaaGreatDoor.Utf
end
