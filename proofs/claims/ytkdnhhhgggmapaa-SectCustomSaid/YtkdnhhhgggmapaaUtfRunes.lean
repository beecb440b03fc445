/- The document's numbers of a text, walked. -/
import Derived.Test.YtkdnhhhgggmapaaUtfFirst
import Derived.Laws.CopyOwn
import Derived.Laws.MakeOwn
import Derived.Deep.AppendLies
namespace Go.Proofs.Ytkdnhhhgggmapaa.Utf
open Go.RowKit
set_option maxRecDepth 100000
set_option maxHeartbeats 400000

/-- Whole numbers as cells; a slice of them of the call's own (nil, if there are none yet). -/
def vi (l : List Int) : List Value := l.map (Value.int .i64)
theorem vi_length (l : List Int) : (vi l).length = l.length := by simp [vi]
theorem int_info : (Try.prog.info? 3).map (fun i => (i.zero, i.size, i.bytes)) = some (some (.int .i64 0), 1, 8) := by kernel_rfl
def OwnI (w : World) (B : Nat) (v : Value) (l : List Int) : Prop := w.ownsRow B 3 1 v l.length (vi l)
theorem ownI_nil (w : World) (B : Nat) : OwnI w B (.slice none 0 0) [] := ⟨rfl, .inl ⟨rfl, rfl⟩⟩
theorem OwnI.block {w : World} {B : Nat} {v : Value} {l : List Int} (h : OwnI w B v l) : ∀ k, v.ownBlock = some k → B ≤ k := fun k hk => (World.ownsRow.lt h k hk).1
theorem OwnI.keep {w w' : World} {B : Nat} {v : Value} {l : List Int} (h : OwnI w B v l) (hb : Below w.heap.size w w') : OwnI w' B v l :=
  World.ownsRow.kept h ⟨hb.os, hb.tape, hb.output, hb.size, fun k hk _ => hb.block k hk⟩ (row := none) (by cases v.ownBlock <;> simp)
theorem one_newI (w : World) (v : Value) : ∀ j u, [v][j]? = some u → (w.alloc (.cells #[v] 3)).cell? ((⟨w.heap.size, 0, none⟩ : Addr).add j) = some u := by
  intro j u hu
  rcases j with _ | j
  · simp at hu
    subst hu
    simp [Addr.add]
  · simp at hu
/-- 'append(s, y)' on whole numbers of the call's own. -/
theorem wp_int {ops : Array Oper} {rest : List Oper} {o : Oper} {a : Act} {Q : Exit → Act → World → Prop} (w : World) (hgd : o.guard = none) (s x : Operand)
    (ho : o.op = .call { callee := .builtin .append, args := #[s, x], argTypes := #[68, 68] }) (B : Nat) (v : Value) (done : List Int) (y : Int) (hs : a.eval s = v) (hown : OwnI w B v done)
    (hx : a.eval x = .slice (some ⟨w.heap.size, 0, none⟩) 1 1) (hlen : done.length ≤ 10000000) (hB : B ≤ w.heap.size)
    (h : ∀ v' w', OwnI w' B v' (done ++ [y]) → Below B w w' → wpList Try.prog ops Q rest (a.put o.dst v') w') : wpList Try.prog ops Q (o :: rest) a (w.alloc (.cells #[.int .i64 y] 3)) := by
  obtain ⟨i0, hi, hz0, hz1, hz2⟩ := info_parts int_info
  refine wpList_append_own _ hgd s x 68 ho B 3 i0 (.int .i64 0) 1 8 Try.underlying68 hi hz0 hz1 hz2 rfl (by decide) v _ _ hs (World.ownsRow.alloc hown _) ⟨w.heap.size, 0, none⟩ 1 1 [.int .i64 y] hx rfl (one_newI w _) (by intro u hu; simp at hu; subst hu; rfl) (by simp only [maxLen]; omega) (by omega) (by simp; omega) ?_
  intro v' w' ho' hg hn
  refine h v' w' ?_ (((Below.refl _ _).alloc hB _).grown hg (by simp; omega) hown.block)
  have ho2 : w'.ownsRow B 3 1 v' (done ++ [y]).length (vi (done ++ [y])) := by simpa [vi] using ho'
  exact ho2
/-- How far the numbers are told. -/
def Mid (w : World) (l : List Int) (k : Nat) (done : List Int) (o : Value) (wr : World) : Prop := k ≤ l.length ∧ (∀ v ∈ done, okR v) ∧ l.take k = done.flatMap enc ∧ done.length ≤ k ∧ OwnI wr w.heap.size o done ∧ Below w.heap.size w wr
/-- How Runes ends. -/
def RunEnds (l : List Int) (w : World) (e : Ending) (w' : World) : Prop :=
  ((∃ o x, Txt l x ∧ e = .returned (.tuple #[o, .bool true]) ∧ OwnI w' w.heap.size o x) ∨ ((∀ x, ¬ Txt l x) ∧ e = .returned (.tuple #[.slice none 0 0, .bool false]))) ∧ Below w.heap.size w w'
theorem Byt.drop {w : World} {B g off : Nat} {l : List Int} (h : Byt w B ⟨g, off, none⟩ l) (k : Nat) : Byt w B ⟨g, off + k, none⟩ (l.drop k) := ⟨h.1, rfl, fun j hj => by
  rw [List.length_drop] at hj
  have := h.2.2 (k + j) (by omega)
  rw [show off + k + j = off + (k + j) from by omega]
  show w.cell? ⟨g, off + (k + j), none⟩ = _
  rw [show (l.drop k).getD j 0 = l.getD (k + j) 0 from by rw [List.getD_eq_getElem?_getD, List.getD_eq_getElem?_getD, List.getElem?_drop]]
  exact this⟩
theorem no_txt {l done : List Int} {k : Nat} (hd : ∀ v ∈ done, okR v) (ht : l.take k = done.flatMap enc) (h0 : l.drop k ≠ []) (hn : dec (l.drop k) = none) : ∀ x, ¬ Txt l x := by
  intro x hx
  obtain ⟨y, hy, _⟩ := Txt.rest (x := done) (a := l.take k) (b := l.drop k) ⟨hd, ht⟩ (by rw [List.take_append_drop]; exact hx)
  exact dec_none hn h0 hy
theorem more {l done : List Int} {k n : Nat} {v : Int} (hb : ∀ x ∈ l, 0 ≤ x ∧ x < 256) (hk : k ≤ l.length) (ht : l.take k = done.flatMap enc) (hs : dec (l.drop k) = some (v, n)) :
    okR v ∧ 1 ≤ n ∧ k + n ≤ l.length ∧ l.take (k + n) = (done ++ [v]).flatMap enc := by
  obtain ⟨hv, hn, e⟩ := dec_some (fun x hx => hb x (List.mem_of_mem_drop hx)) hs
  have hl := enc_len v
  have hlen := congrArg List.length e
  rw [List.length_append, List.length_drop, List.length_drop] at hlen
  refine ⟨hv, by omega, by omega, ?_⟩
  rw [List.flatMap_append, ← ht, List.take_add, e, hn, List.take_left]
  simp
theorem runes_some (g off c : Nat) (l : List Int) (w : World) (hb : ∀ x ∈ l, 0 ≤ x ∧ x < 256) (hB : Byt w w.heap.size ⟨g, off, none⟩ l) (hc : l.length ≤ c) (hm : c ≤ 9223372036854775807) (hl : l.length ≤ 1000000) :
    Calls Try.prog 45 #[.slice (some ⟨g, off, none⟩) l.length c] w (RunEnds l w) := by
  have HB := Lib.hid hB
  have Hb := Lib.hid hb
  clear hB hb
  go_enter Try.func45, Try.ntmps45
  go_wp2_with fail
  go_loopw [4, 5] (fun o at' wr => ∃ (k : Nat) (done : List Int), at' = .int .i64 (k : Int) ∧ Mid w l k done o wr) (fun _ at' _ => l.length - (intOf at').toNat)
  case atStart => exact ⟨0, [], rfl, Nat.zero_le _, by simp, by simp, Nat.le_refl _, ownI_nil _ _, Below.refl _ _⟩
  case round =>
    obtain ⟨k, done, rfl, hk, hd, ht, hdk, hown, hbel⟩ := hrel
    have HD := Lib.hid hd
    have HTK := Lib.hid ht
    have HO := Lib.hid hown
    have HBel := Lib.hid hbel
    clear hd ht hown hbel
    by_cases hlt : k < l.length
    · have hne : l.drop k ≠ [] := fun e => by have := congrArg List.length e; rw [List.length_drop] at this; simp at this; omega
      have hsl : ∀ W, (Instr.sliceAt 22 (.slice (some ⟨g, off, none⟩) l.length c) (some (.int .i64 (k : Int))) none none).run Try.prog W = .ok (.slice (some ⟨g, off + k, none⟩) (l.length - k) (c - k)) W := by
        intro W
        have e1 : (k : Int) ≤ (l.length : Int) := by omega
        have e2 : ¬ c = k := by omega
        go_simp
      have HF := Lib.hid (first_any g (off + k) (c - k) (l.drop k) wr hne (fun x hx => Hb.out x (List.mem_of_mem_drop hx)) (((HB.out.drop k).keep HBel.out).mono HBel.out.size) (by rw [List.length_drop]; omega) (by omega))
      rw [List.length_drop] at HF
      have HN := Lib.hid hne
      clear hne
      go_wp2_with fail
      refine HF.out.mono ?_
      rintro e w1 ⟨rfl, hb1⟩
      unfold fstN
      cases hdec : dec (l.drop k) with
      | none =>
        have HDec := Lib.hid hdec
        clear hdec hsl
        go_wp2_with fail
        go_ret2
        exact ⟨.inr ⟨no_txt HD.out HTK.out HN.out HDec.out, rfl⟩, HBel.out.trans (hb1.mono HBel.out.size)⟩
      | some p =>
        obtain ⟨v, n⟩ := p
        obtain ⟨hv, hn1, hn2, hn3⟩ := more Hb.out hk HTK.out hdec
        have HV := Lib.hid hv
        have HN3 := Lib.hid hn3
        have HO1 := Lib.hid (HO.out.keep hb1)
        have HB1 := Lib.hid (HBel.out.trans (hb1.mono HBel.out.size))
        have hsz : w.heap.size ≤ w1.heap.size := HB1.out.size
        have n0 : ((n : Int) == 0) = false := by simp; omega
        have hen : (enc v).length ≤ n ∨ True := .inr trivial
        clear hdec hsl hv hn3 hb1 hen
        go_wp2_with (at_builtin; refine wp_int w1 rfl (.tmp 21) (.tmp 23) rfl w.heap.size _ done v rfl HO1.out rfl (by omega) hsz ?_; intro v2 w2 ho2 hb2)
        go_roundw
        case rel => exact ⟨k + n, done ++ [v], by go_num, hn2, fun x hx => by
            rcases List.mem_append.1 hx with hx | hx
            · exact HD.out x hx
            · obtain rfl : x = v := by simpa using hx
              exact HV.out, HN3.out, by simp; omega, ho2, HB1.out.trans hb2⟩
        case measure => simp [intOf]; omega
    · obtain rfl : k = l.length := by omega
      go_wp2_with fail
      go_ret2
      exact ⟨.inl ⟨_, done, ⟨HD.out, by have := HTK.out; rwa [List.take_length] at this⟩, rfl, HO.out⟩, HBel.out⟩
end Go.Proofs.Ytkdnhhhgggmapaa.Utf
