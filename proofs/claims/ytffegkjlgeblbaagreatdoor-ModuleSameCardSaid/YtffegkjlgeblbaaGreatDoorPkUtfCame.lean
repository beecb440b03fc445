/- UtfText, UtfRead, UtfName, UtfNm, UtfLay, UtfCame. -/
import Derived.Test.YtffegkjlgeblbaaGreatDoorPkUtfModel
import Derived.WalkSmall
import Derived.Lib.OthersKept
import Derived.Test.YtffegkjlgeblbaaGreatDoorLebTwo
import Derived.Lib.ConvBytes
import Derived.Lib.AppendStr
import Derived.Laws.Bits128
section
/- Is a string a text: the program's word, walked. -/
namespace Go.Proofs.YtffegkjlgeblbaaGreatDoor.Utf
open Go.RowKit
set_option maxRecDepth 100000
set_option maxHeartbeats 1000000

theorem bl_str {l : List Int} (hb : ∀ x ∈ l, 0 ≤ x ∧ x < 256) : bl (strOfNums l) = l := by
  unfold bl
  rw [strOfNums_data, List.map_map]
  conv => rhs; rw [← List.map_id l]
  refine List.map_congr_left fun x hx => ?_
  have := hb x hx
  simp only [Function.comp_apply, UInt8.toNat_ofNat', id_eq]
  omega
theorem bl_inj {a b : ByteArray} (h : bl a = bl b) : a = b := by
  obtain ⟨⟨a⟩⟩ := a
  obtain ⟨⟨b⟩⟩ := b
  unfold bl at h
  have : a = b := by
    refine List.map_inj_right (f := fun x : UInt8 => (x.toNat : Int)) (fun x y e => ?_) |>.1 h
    exact UInt8.toNat_inj.1 (by exact_mod_cast e)
  rw [this]
theorem str_bl (s : ByteArray) : strOfNums (bl s) = s := bl_inj (bl_str (bl_byte s))
theorem bl_extract (s : ByteArray) (i j : Nat) : bl (s.extract i j) = ((bl s).drop i).take (j - i) := by
  unfold bl
  rw [ByteArray.data_extract, Array.toList_extract, List.extract_eq_take_drop, List.map_take, List.map_drop]
def fffd : ByteArray := ⟨#[239, 191, 189]⟩
theorem bl_fffd : bl fffd = enc 65533 := by decide +kernel
def preB (s p : ByteArray) : Bool := decide (p.size ≤ s.size) && ((s.extract 0 p.size).toList == p.toList)
theorem prefix_in (s p : ByteArray) (w : World) : Calls Tryz.prog 240 #[.string s, .string p] w fun e w' => e = .returned (.bool (preB s p)) ∧ w = w' := by
  by_cases h : p.size ≤ s.size
  · have H : Hid (preB s p = ((s.extract 0 p.size).toList == p.toList)) := by show _ = _; unfold preB; rw [decide_eq_true h, Bool.true_and]
    go_enter Tryz.func240, Tryz.ntmps240
    go_wp2_with fail
    go_ret
    exact ⟨ret_bool H.out.symm, rfl⟩
  · have H : Hid (preB s p = false) := by show _ = _; unfold preB; rw [decide_eq_false h, Bool.false_and]
    have hd : decide (p.size ≤ s.size) = false := by simp; omega
    clear h
    go_enter Tryz.func240, Tryz.ntmps240
    go_wp2_with fail
    go_ret
    exact ⟨ret_bool H.out.symm, rfl⟩
theorem prefix_any (s p : ByteArray) (w : World) : Calls Tryz.prog 213 #[.string s, .string p] w fun e w' => e = .returned (.bool (preB s p)) ∧ w = w' := by
  have H := Lib.hid (prefix_in s p w)
  go_enter Tryz.func213, Tryz.ntmps213
  go_wp2_with fail
  refine H.out.mono ?_
  rintro e w1 ⟨rfl, rfl⟩
  go_wp2_with fail
  go_ret
  exact ⟨rfl, rfl⟩
theorem preB_iff (s p : ByteArray) : preB s p = true ↔ ∃ t, bl s = bl p ++ t := by
  unfold preB
  rw [Bool.and_eq_true, decide_eq_true_eq, beq_iff_eq]
  constructor
  · rintro ⟨_, h⟩
    have e := congrArg bl (str_toList h)
    rw [bl_extract, List.drop_zero, Nat.sub_zero] at e
    exact ⟨(bl s).drop p.size, by rw [← e, List.take_append_drop]⟩
  · rintro ⟨t, h⟩
    have hl := congrArg List.length h
    rw [List.length_append, bl_len, bl_len] at hl
    refine ⟨by omega, congrArg _ (bl_inj ?_)⟩
    rw [bl_extract, List.drop_zero, Nat.sub_zero, h, ← bl_len, List.take_left]
def Pre (s : ByteArray) (pos : Nat) : Prop := pos ≤ s.size ∧ ∃ done : List Int, (∀ v ∈ done, okR v) ∧ (bl s).take pos = done.flatMap enc
def Gone (w : World) (s : ByteArray) (pos : Nat) (wr : World) : Prop := wr.heap[w.heap.size]? = some (.stringIter s pos) ∧ Below w.heap.size w wr ∧ Pre s pos
theorem Pre.start (s : ByteArray) : Pre s 0 := ⟨Nat.zero_le _, [], by simp, by simp⟩
theorem Pre.more {s : ByteArray} {pos : Nat} {v : Int} {t : List Int} (h : Pre s pos) (hv : okR v) (e : (bl s).drop pos = enc v ++ t) : Pre s (pos + (enc v).length) := by
  obtain ⟨h1, done, h2, h3⟩ := h
  have hl := congrArg List.length e
  rw [List.length_append, List.length_drop, bl_len] at hl
  have := (enc_len v).1
  refine ⟨by omega, done ++ [v], fun x hx => ?_, ?_⟩
  · rcases List.mem_append.1 hx with hx | hx
    · exact h2 x hx
    · obtain rfl : x = v := by simpa using hx
      exact hv
  · rw [List.flatMap_append, ← h3, List.take_add, e, List.take_left]
    simp
theorem Pre.all {s : ByteArray} (h : Pre s s.size) : isT (bl s) = true := by
  obtain ⟨_, done, h2, h3⟩ := h
  rw [← bl_len, List.take_length] at h3
  exact isT_true ⟨h2, h3⟩
theorem Pre.stuck {s : ByteArray} {pos : Nat} (h : Pre s pos) (hp : pos < s.size) (hn : ∀ v t, okR v → (bl s).drop pos ≠ enc v ++ t) : isT (bl s) = false := by
  obtain ⟨_, done, h2, h3⟩ := h
  refine isT_false (no_txt h2 h3 (fun e => ?_) ?_)
  · have := congrArg List.length e
    rw [List.length_drop, bl_len] at this
    simp at this
    omega
  · cases hd : dec ((bl s).drop pos) with
    | none => rfl
    | some q =>
      obtain ⟨v, n⟩ := q
      obtain ⟨hv, _, e⟩ := dec_some (fun x hx => bl_byte s x (List.mem_of_mem_drop hx)) hd
      exact absurd e (hn v _ hv)
theorem pre_yes {s : ByteArray} {pos : Nat} {t : List Int} (e : (bl s).drop pos = enc 65533 ++ t) : preB (s.extract pos s.size) fffd = true := by
  refine (preB_iff _ _).2 ⟨t, ?_⟩
  rw [bl_extract, bl_fffd, ← e, ← bl_len, ← List.length_drop, List.take_length]
theorem pre_no {s : ByteArray} {pos : Nat} (hn : ∀ v t, okR v → (bl s).drop pos ≠ enc v ++ t) : preB (s.extract pos s.size) fffd = false := by
  rw [Bool.eq_false_iff]
  intro h
  obtain ⟨t, e⟩ := (preB_iff _ _).1 h
  rw [bl_extract, bl_fffd, ← bl_len, ← List.length_drop, List.take_length] at e
  exact hn 65533 t (by decide) e
theorem fffd_txt (W : World) : (convert 21 9 (.int .i32 65533)).run Tryz.prog W = .ok (.string fffd) W := rfl
theorem istext_any (s : ByteArray) (w : World) : Calls Tryz.prog 172 #[.string s] w fun e w' => e = .returned (.bool (isT (bl s))) ∧ Below w.heap.size w w' := by
  go_enter Tryz.func172, Tryz.ntmps172
  go_wp2_with fail
  go_loopw [] (fun wr => ∃ pos : Nat, Gone w s pos wr) (fun wr => s.size - wr.iterPos w.heap.size)
  case atStart => exact ⟨0, World.iter_heap w s 0, (Below.refl _ _).alloc (Nat.le_refl _) _, Pre.start s⟩
  case round =>
    obtain ⟨pos, hit, hbel, hpre⟩ := hrel
    have hip := iterPos_of hit
    by_cases hp : pos < s.size
    · by_cases hx : ∃ v t, okR v ∧ (bl s).drop pos = enc v ++ t
      · obtain ⟨v, t, hv, ht⟩ := hx
        have hdec := decode_some s pos v t hv ht
        have hv0 : ((v.toNat : Nat) : Int) = v := Int.toNat_of_nonneg hv.1
        have hnx : ∀ ty, (Instr.next (.pointer (some ⟨w.heap.size, 0, none⟩)) true ty).run Tryz.prog wr = .ok (.tuple #[.bool true, .int .i64 (pos : Int), .int .i32 v]) (wr.iterAt w.heap.size s (pos + (enc v).length)) := by
          intro ty
          rw [Lib.run_next_any_at wr w.heap.size s pos ty hit hp, hdec, hv0]
        have hit2 := Lib.hid (Lib.iterAt_heap wr w.heap.size s pos (pos + (enc v).length) hit)
        have hbel2 := Lib.hid (Lib.below_iterAt hbel (Nat.le_refl _) s (pos + (enc v).length))
        have hpre2 := Lib.hid (hpre.more hv ht)
        have hlt := (enc_len v).1
        by_cases h3 : v = 65533
        · subst h3
          have hsl : ∀ W, (Instr.sliceAt 9 (.string s) (some (.int .i64 (pos : Int))) none none).run Tryz.prog W = .ok (.string (s.extract pos s.size)) W := by
            intro W
            go_simp
            intro h
            omega
          have htx := fffd_txt
          have HP := Lib.hid (pre_yes ht)
          clear hdec hv0 ht hpre hit hbel
          go_wp2_with (go_at_call 213; refine (prefix_any _ _ _).mono ?_; rintro e w1 ⟨rfl, rfl⟩; rw [HP.out])
          go_roundw
          case rel => exact ⟨_, hit2.out, hbel2.out, hpre2.out⟩
          case measure => rw [iterPos_of hit2.out, hip]; omega
        · have ht2 : (v == 65533) = false := by simpa using h3
          clear hdec hv0 h3 ht hpre hit hbel
          go_wp2_with fail
          go_roundw
          case rel => exact ⟨_, hit2.out, hbel2.out, hpre2.out⟩
          case measure => rw [iterPos_of hit2.out, hip]; omega
      · have hn : ∀ v t, okR v → (bl s).drop pos ≠ enc v ++ t := fun v t hv e => hx ⟨v, t, hv, e⟩
        have hdec := decode_none s pos hp hn
        have hnx : ∀ ty, (Instr.next (.pointer (some ⟨w.heap.size, 0, none⟩)) true ty).run Tryz.prog wr = .ok (.tuple #[.bool true, .int .i64 (pos : Int), .int .i32 65533]) (wr.iterAt w.heap.size s (pos + 1)) := by
          intro ty
          rw [Lib.run_next_any_at wr w.heap.size s pos ty hit hp, hdec]
          rfl
        have hbel2 := Lib.hid (Lib.below_iterAt hbel (Nat.le_refl _) s (pos + 1))
        have hsl : ∀ W, (Instr.sliceAt 9 (.string s) (some (.int .i64 (pos : Int))) none none).run Tryz.prog W = .ok (.string (s.extract pos s.size)) W := by
          intro W
          go_simp
          intro h
          omega
        have htx := fffd_txt
        have HP := Lib.hid (pre_no hn)
        have HR := Lib.hid (hpre.stuck hp hn)
        clear hdec hn hx hpre hit hbel
        go_wp2_with (go_at_call 213; refine (prefix_any _ _ _).mono ?_; rintro e w1 ⟨rfl, rfl⟩; rw [HP.out])
        go_ret
        exact ⟨ret_bool HR.out.symm, hbel2.out⟩
    · have hnx : ∀ ty, (Instr.next (.pointer (some ⟨w.heap.size, 0, none⟩)) true ty).run Tryz.prog wr = .ok (.tuple #[.bool false]) wr := fun ty => Lib.run_next_end_at wr w.heap.size s pos ty hit hp
      obtain rfl : pos = s.size := by have := hpre.1; omega
      have HR := Lib.hid hpre.all
      have HB := Lib.hid hbel
      clear hpre hbel hit
      go_wp2_with fail
      go_ret
      exact ⟨ret_bool HR.out.symm, HB.out⟩
end Go.Proofs.YtffegkjlgeblbaaGreatDoor.Utf
end

section
/- The program's Valid, Runes and FromRunes, walked. -/
namespace Go.Proofs.YtffegkjlgeblbaaGreatDoor.Utf
open Go.RowKit
set_option maxRecDepth 100000
set_option maxHeartbeats 1000000

theorem none_txt (A : Option Addr) (c : Nat) (w : World) : (convert 22 9 (.slice A 0 c)).run Tryz.prog w = .ok (.string (strOfNums [])) w := by
  cases A with
  | none => rfl
  | some a => rfl
theorem sl_txt {w : World} {v : Value} {l : List Int} (h : Sl w v l) : (convert 22 9 v).run Tryz.prog w = .ok (.string (strOfNums l)) w := by
  obtain ⟨A, c, rfl, _, _, h4⟩ := h
  by_cases h0 : l = []
  · subst h0
    exact none_txt A c w
  · obtain ⟨g, off, rfl, hB⟩ := h4 h0
    exact run_txt w g off l.length c l rfl hB.2.2
end Go.Proofs.YtffegkjlgeblbaaGreatDoor.Utf
end

section
/- The document's Name, walked. -/
namespace Go.Proofs.YtffegkjlgeblbaaGreatDoor.Utf
open Go.RowKit
set_option maxRecDepth 100000
set_option maxHeartbeats 400000

def NmTold (w : World) (s : List Int) (p e : Int) (en : Ending) (w' : World) : Prop := en = .returned (.tuple #[.string (strOfNums s), .int .i64 p, .int .i64 e]) ∧ Below w.heap.size w w'
def offAt (off c p : Nat) : Nat := if c = p then off else off + p
theorem part_run (g off n c p v : Nat) (hp : p + v ≤ n) (hc : n ≤ c) (W : World) :
    (Instr.sliceAt 22 (.slice (some ⟨g, off, none⟩) n c) (some (.int .i64 (p : Int))) (some (.int .i64 ((p : Int) + (v : Int)))) none).run Tryz.prog W = .ok (.slice (some ⟨g, offAt off c p, none⟩) v (c - p)) W := by
  have e0 : (0 : Int) ≤ (p : Int) := by omega
  have e1 : (p : Int) ≤ (p : Int) + (v : Int) := by omega
  have e2 : (p : Int) + (v : Int) ≤ (c : Int) := by omega
  have e3 : ((p : Int) + (v : Int)).toNat = p + v := by omega
  have e4 : p + v - p = v := by omega
  unfold offAt
  by_cases hcp : c = p
  · subst hcp
    obtain rfl : v = 0 := by omega
    go_simp
  · rw [if_neg hcp]
    go_simp
theorem part_sl {w : World} {g off c p v : Nat} {l : List Int} (hB : Byt w w.heap.size ⟨g, off, none⟩ l) (hp : p + v ≤ l.length) (hc : l.length ≤ c) (hm : c ≤ 9223372036854775807) :
    ((l.drop p).take v).length = v ∧ Sl w (.slice (some ⟨g, offAt off c p, none⟩) v (c - p)) ((l.drop p).take v) := by
  have hlen : ((l.drop p).take v).length = v := by rw [List.length_take, List.length_drop]; omega
  refine ⟨hlen, some ⟨g, offAt off c p, none⟩, c - p, by rw [hlen], by rw [hlen]; omega, by omega, fun h0 => ⟨g, offAt off c p, rfl, ?_⟩⟩
  have hv : 0 < v := by
    rcases Nat.eq_zero_or_pos v with h | h
    · subst h; exact absurd (by simp) h0
    · exact h
  unfold offAt
  rw [if_neg (by omega)]
  exact (hB.drop p).take v
theorem Sl.txt {w : World} {g off c : Nat} {l : List Int} {n : Nat} (h : Sl w (.slice (some ⟨g, off, none⟩) n c) l) (hn : l.length = n) : (convert 22 9 (.slice (some ⟨g, off, none⟩) n c)).run Tryz.prog w = .ok (.string (strOfNums l)) w := by
  obtain ⟨A, c2, e, _, _, h4⟩ := h
  refine run_txt w g off n c l hn fun i hi => ?_
  have h0 : l ≠ [] := fun e => by rw [e] at hn; simp at hn; omega
  obtain ⟨g2, off2, e2, hB⟩ := h4 h0
  subst e2
  simp only [Value.slice.injEq, Option.some.injEq, Addr.mk.injEq] at e
  obtain ⟨⟨rfl, rfl, _⟩, _⟩ := e
  exact hB.2.2 i (by omega)
end Go.Proofs.YtffegkjlgeblbaaGreatDoor.Utf
end

section
/- Names: why a string may be none, and what stands in bytes at a place, by the program and by the document. -/
namespace Go.Proofs.YtffegkjlgeblbaaGreatDoor.Utf
open Go.RowKit
set_option maxRecDepth 100000
set_option maxHeartbeats 1000000

noncomputable def fltE (l : List Int) : Int := bif decide (64 < l.length) then 4 else bif isT l then 0 else 3
theorem ret_i64 {a b : Int} (h : a = b) : Ending.returned (.int .i64 a) = .returned (.int .i64 b) := by rw [h]
theorem fault_any (s : ByteArray) (w : World) : Calls Tryz.prog 114 #[.string s] w fun e w' => e = .returned (.int .i64 (fltE (bl s))) ∧ Below w.heap.size w w' := by
  have HI := Lib.hid (istext_any s w)
  have hl := bl_len s
  by_cases h : 64 < s.size
  · have H : Hid (fltE (bl s) = 4) := by show _ = _; unfold fltE; rw [hl, decide_eq_true h]; rfl
    have h' : decide ((64 : Int) < (s.size : Int)) = true := by simp; omega
    clear HI hl
    go_enter Tryz.func114, Tryz.ntmps114
    go_wp2_with fail
    go_ret
    exact ⟨ret_i64 H.out.symm, Below.refl _ _⟩
  · have h' : decide ((64 : Int) < (s.size : Int)) = false := by simp; omega
    cases hT : isT (bl s) with
    | true =>
      rw [hT] at HI
      have H : Hid (fltE (bl s) = 0) := by show _ = _; unfold fltE; rw [hl, decide_eq_false h, hT]; rfl
      clear hT h hl
      go_enter Tryz.func114, Tryz.ntmps114
      go_wp2_with fail
      refine HI.out.mono ?_
      rintro e w1 ⟨rfl, hb⟩
      have HB := Lib.hid hb
      clear hb
      go_wp2_with fail
      go_ret
      exact ⟨ret_i64 H.out.symm, HB.out⟩
    | false =>
      rw [hT] at HI
      have H : Hid (fltE (bl s) = 3) := by show _ = _; unfold fltE; rw [hl, decide_eq_false h, hT]; rfl
      clear hT h hl
      go_enter Tryz.func114, Tryz.ntmps114
      go_wp2_with fail
      refine HI.out.mono ?_
      rintro e w1 ⟨rfl, hb⟩
      have HB := Lib.hid hb
      clear hb
      go_wp2_with fail
      go_ret
      exact ⟨ret_i64 H.out.symm, HB.out⟩
theorem pname_err (sl : Value) (at_ e : Int) (w : World) (he : (e != 0) = true)
    (h : Calls Tryz.prog 111 #[sl, .int .i64 at_, .int .i64 32] w (Leb.RTold w 0 0 e .u64)) :
    Calls Tryz.prog 171 #[sl, .int .i64 at_] w (NmTold w [] 0 e) := by
  have H := Lib.hid h
  clear h
  go_enter Tryz.func171, Tryz.ntmps171
  go_wp2_with fail
  refine H.out.mono ?_
  rintro en w1 ⟨rfl, hb⟩
  have HB := Lib.hid hb
  clear hb
  go_wp2_with fail
  go_ret3
  exact ⟨rfl, HB.out⟩
theorem pname_short (A : Option Addr) (n c v p : Nat) (at_ : Int) (w : World) (hn : n ≤ 1000000) (hp : p ≤ n) (hv : n - p < v)
    (h : Calls Tryz.prog 111 #[.slice A n c, .int .i64 at_, .int .i64 32] w (Leb.RTold w (v : Int) (p : Int) 0 .u64)) :
    Calls Tryz.prog 171 #[.slice A n c, .int .i64 at_] w (NmTold w [] 0 2) := by
  have H := Lib.hid h
  have h1 : (n : Int) - (p : Int) < (v : Int) := by omega
  have h2 : IntKind.i64.wrap ((n : Int) - (p : Int)) = (n : Int) - (p : Int) := IntWalk.i64_in _ (by omega)
  have h3 : IntKind.u64.wrap ((n : Int) - (p : Int)) = (n : Int) - (p : Int) := by rw [IntKind.wrap_u64]; omega
  clear h
  go_enter Tryz.func171, Tryz.ntmps171
  go_wp2_with fail
  refine H.out.mono ?_
  rintro en w1 ⟨rfl, hb⟩
  have HB := Lib.hid hb
  clear hb
  go_wp2_with fail
  go_ret3
  exact ⟨rfl, HB.out⟩
theorem pname_in (g off c v p : Nat) (at_ : Int) (l : List Int) (w : World) (hby : ∀ x ∈ l, 0 ≤ x ∧ x < 256) (hB : Byt w w.heap.size ⟨g, off, none⟩ l) (hn : l.length ≤ 1000000) (hp : p ≤ l.length) (hv : v ≤ l.length - p) (hc : l.length ≤ c) (hm : c ≤ 9223372036854775807)
    (h : Calls Tryz.prog 111 #[.slice (some ⟨g, off, none⟩) l.length c, .int .i64 at_, .int .i64 32] w (Leb.RTold w (v : Int) (p : Int) 0 .u64)) :
    Calls Tryz.prog 171 #[.slice (some ⟨g, off, none⟩) l.length c, .int .i64 at_] w (bif fltE ((l.drop p).take v) == 0 then NmTold w ((l.drop p).take v) ((p : Int) + (v : Int)) 0 else NmTold w [] 0 (fltE ((l.drop p).take v))) := by
  have H := Lib.hid h
  have HB := Lib.hid hB
  have hq : ∀ x ∈ (l.drop p).take v, 0 ≤ x ∧ x < 256 := fun x hx => hby x (List.mem_of_mem_drop (List.mem_of_mem_take hx))
  have HQ := Lib.hid hq
  have hsl := part_run g off l.length c p v (by omega) hc
  have HP := Lib.hid (part_sl (w := w) (p := p) (v := v) hB (by omega) hc hm)
  revert HQ HP
  generalize (l.drop p).take v = q
  intro HQ HP
  revert hsl HP
  generalize offAt off c p = o
  intro hsl HP
  have h1 : decide ((l.length : Int) - (p : Int) < (v : Int)) = false := by simp; omega
  have h2 : IntKind.i64.wrap ((l.length : Int) - (p : Int)) = (l.length : Int) - (p : Int) := IntWalk.i64_in _ (by omega)
  have h3 : IntKind.u64.wrap ((l.length : Int) - (p : Int)) = (l.length : Int) - (p : Int) := by rw [IntKind.wrap_u64]; omega
  have h5 : IntKind.i64.wrap (v : Int) = (v : Int) := IntWalk.i64_in _ (by omega)
  have h6 : IntKind.i64.wrap ((p : Int) + (v : Int)) = (p : Int) + (v : Int) := IntWalk.i64_in _ (by omega)
  clear h hB hby hq hn hp hv hc hm
  go_enter Tryz.func171, Tryz.ntmps171
  go_wp2_with fail
  refine H.out.mono ?_
  rintro en w1 ⟨rfl, hb⟩
  have HB1 := Lib.hid hb
  clear hb
  have HL := Lib.hid HP.out.1
  have htx := (HP.out.2.keep HB1.out).txt HL.out
  have HF := Lib.hid (fault_any (strOfNums q) w1)
  rw [bl_str HQ.out] at HF
  generalize hE : fltE q = E at HF
  have HE := Lib.hid hE
  clear hE
  by_cases hz : E = 0
  · subst hz
    go_wp2_with fail
    refine HF.out.mono ?_
    rintro en w2 ⟨rfl, hb2⟩
    have HB2 := Lib.hid (HB1.out.trans (hb2.mono HB1.out.size))
    clear hb2
    go_wp2_with fail
    go_ret3
    rw [HE.out]
    exact ⟨rfl, HB2.out⟩
  · have hz1 : (E != 0) = true := by simpa using hz
    have hz2 : Hid ((E == 0) = false) := by show _ = _; simpa using hz
    clear hz
    go_wp2_with fail
    refine HF.out.mono ?_
    rintro en w2 ⟨rfl, hb2⟩
    have HB2 := Lib.hid (HB1.out.trans (hb2.mono HB1.out.size))
    clear hb2
    go_wp2_with fail
    go_ret3
    rw [HE.out, hz2.out]
    exact ⟨rfl, HB2.out⟩
noncomputable def nmA (l : List Int) (v p : Nat) : List Int × Int × Int :=
  if l.length - p < v then ([], 0, 2) else bif fltE ((l.drop p).take v) == 0 then ((l.drop p).take v, (p : Int) + (v : Int), 0) else ([], 0, fltE ((l.drop p).take v))
noncomputable def nmK (l : List Int) (k : Nat) : List Int × Int × Int := match Leb.rdl Leb.fitU 32 (l.drop k) 0 0 with
  | .ok v m => nmA l v (k + m / 7)
  | .short => ([], 0, 2)
  | .form => ([], 0, 3)
open Classical in
noncomputable def nm (l : List Int) (at_ : Int) : List Int × Int × Int := if Leb.badArg l at_ 32 then ([], 0, 1) else nmK l at_.toNat
def NmIs (w : World) (x : List Int × Int × Int) (en : Ending) (w' : World) : Prop := NmTold w x.1 x.2.1 x.2.2 en w'
theorem rdl_len {fit : Int → Nat → Bool} {bits : Nat} : ∀ (l : List Int) (lo acc v m : Nat), Leb.rdl fit bits l lo acc = .ok v m → m ≤ lo + 7 * l.length
  | [], _, _, _, _, h => by cases h
  | c :: r, lo, acc, v, m, h => by
    rw [Leb.rdl] at h
    rw [List.length_cons]
    split at h
    · cases h
    · split at h
      · injection h with _ h
        omega
      · have := rdl_len r (lo + 7) _ v m h
        omega
theorem Sl.leb {w : World} {A : Option Addr} {n c : Nat} {l : List Int} (h : Sl w (.slice A n c) l) : Leb.Byt w w.heap.size A l := by
  intro h0
  obtain ⟨A', c', e, _, _, h4⟩ := h
  obtain ⟨g, off, rfl, hB⟩ := h4 (fun e => by rw [e] at h0; simp at h0)
  injection e with e1 e2 e3
  subst e1
  exact ⟨_, rfl, hB.1, fun j u hu => hB.cells j u hu⟩
theorem by255 {l : List Int} (h : ∀ x ∈ l, 0 ≤ x ∧ x < 256) : ∀ x ∈ l, 0 ≤ x ∧ x ≤ 255 := fun x hx => by have := h x hx; omega
theorem name_by (f r : FuncId) (v : Value) (l : List Int) (at_ : Int) (w : World) (hv : Sl w v l) (hl : l.length ≤ 1000000)
    (Rbad : ∀ (A : Option Addr) (c : Nat), Leb.badArg l at_ 32 → Calls Tryz.prog r #[.slice A l.length c, .int .i64 at_, .int .i64 32] w (Leb.RTold w 0 0 1 .u64))
    (Ris : ∀ (A : Option Addr) (c k : Nat), Leb.Byt w w.heap.size A l → k ≤ l.length → Calls Tryz.prog r #[.slice A l.length c, .int .i64 (k : Int), .int .i64 32] w (Leb.RTold w (Leb.uV (Leb.rdl Leb.fitU 32 (l.drop k) 0 0)) (Leb.uP k (Leb.rdl Leb.fitU 32 (l.drop k) 0 0)) (Leb.uE (Leb.rdl Leb.fitU 32 (l.drop k) 0 0)) .u64))
    (Ferr : ∀ (sl : Value) (at_ e : Int), (e != 0) = true → Calls Tryz.prog r #[sl, .int .i64 at_, .int .i64 32] w (Leb.RTold w 0 0 e .u64) → Calls Tryz.prog f #[sl, .int .i64 at_] w (NmTold w [] 0 e))
    (Fshort : ∀ (A : Option Addr) (n c v p : Nat) (at_ : Int), n ≤ 1000000 → p ≤ n → n - p < v → Calls Tryz.prog r #[.slice A n c, .int .i64 at_, .int .i64 32] w (Leb.RTold w (v : Int) (p : Int) 0 .u64) → Calls Tryz.prog f #[.slice A n c, .int .i64 at_] w (NmTold w [] 0 2))
    (Fin : ∀ (g off c v p : Nat) (at_ : Int), Byt w w.heap.size ⟨g, off, none⟩ l → p ≤ l.length → v ≤ l.length - p → l.length ≤ c → c ≤ 9223372036854775807 → Calls Tryz.prog r #[.slice (some ⟨g, off, none⟩) l.length c, .int .i64 at_, .int .i64 32] w (Leb.RTold w (v : Int) (p : Int) 0 .u64) →
      Calls Tryz.prog f #[.slice (some ⟨g, off, none⟩) l.length c, .int .i64 at_] w (bif fltE ((l.drop p).take v) == 0 then NmTold w ((l.drop p).take v) ((p : Int) + (v : Int)) 0 else NmTold w [] 0 (fltE ((l.drop p).take v)))) :
    Calls Tryz.prog f #[v, .int .i64 at_] w (NmIs w (nm l at_)) := by
  have hleb : ∀ {A : Option Addr} {n c : Nat}, v = .slice A n c → Leb.Byt w w.heap.size A l := fun e => Sl.leb (by rw [← e]; exact hv)
  obtain ⟨A, c, rfl, h2, h3, h4⟩ := hv
  have hA := hleb rfl
  unfold NmIs nm
  by_cases hbad : Leb.badArg l at_ 32
  · rw [if_pos hbad]
    exact Ferr _ _ 1 (by decide) (Rbad A c hbad)
  · rw [if_neg hbad]
    unfold Leb.badArg at hbad
    obtain ⟨k, rfl⟩ := Int.eq_ofNat_of_zero_le (show 0 ≤ at_ by omega)
    have hk : k ≤ l.length := by omega
    rw [Int.toNat_natCast]
    unfold nmK
    have hR := Ris A c k hA hk
    cases hr : Leb.rdl Leb.fitU 32 (l.drop k) 0 0 with
    | short => rw [hr] at hR; exact Ferr _ _ 2 (by decide) hR
    | form => rw [hr] at hR; exact Ferr _ _ 3 (by decide) hR
    | ok n m =>
      rw [hr] at hR
      have hR : Calls Tryz.prog r #[.slice A l.length c, .int .i64 (k : Int), .int .i64 32] w (Leb.RTold w (n : Int) ((k + m / 7 : Nat) : Int) 0 .u64) := hR
      have hm := rdl_len _ _ _ _ _ hr
      rw [List.length_drop] at hm
      have hp : k + m / 7 ≤ l.length := by omega
      show Calls Tryz.prog f _ w (NmTold w (nmA l n (k + m / 7)).1 (nmA l n (k + m / 7)).2.1 (nmA l n (k + m / 7)).2.2)
      unfold nmA
      by_cases hs : l.length - (k + m / 7) < n
      · rw [if_pos hs]
        exact Fshort A _ c n _ _ hl hp hs hR
      · rw [if_neg hs]
        have h0 : l ≠ [] := fun e => by rw [e] at hr; simp [Leb.rdl] at hr
        obtain ⟨g, off, rfl, hB⟩ := h4 h0
        have hF := Fin g off c n _ _ hB hp (by omega) h2 h3 hR
        cases hq : (fltE ((l.drop (k + m / 7)).take n) == 0) with
        | true => rw [hq] at hF; exact hF
        | false => rw [hq] at hF; exact hF
theorem pname_any (v : Value) (l : List Int) (at_ : Int) (w : World) (hby : ∀ x ∈ l, 0 ≤ x ∧ x < 256) (hv : Sl w v l) (hl : l.length ≤ 1000000) : Calls Tryz.prog 171 #[v, .int .i64 at_] w (NmIs w (nm l at_)) :=
  name_by _ 111 v l at_ w hv hl (fun A c h => Leb.bad_told (Leb.ReadU_bad A c 32 at_ l w hl h)) (fun A c k hA hk => Leb.ReadU_is A c 32 k l w hA hl (by255 hby) (by omega) (by omega) hk)
    (fun sl a e he h => pname_err sl a e w he h) (fun A n c x p a h1 h2 h3 h => pname_short A n c x p a w h1 h2 h3 h) (fun g off c x p a hB hp hx hc hm h => pname_in g off c x p a l w hby hB hl hp hx hc hm h)
end Go.Proofs.YtffegkjlgeblbaaGreatDoor.Utf
end

section
/- Names, laid: by the program and by the document. -/
namespace Go.Proofs.YtffegkjlgeblbaaGreatDoor.Utf
open Go.RowKit
set_option maxRecDepth 100000
set_option maxHeartbeats 1000000

theorem own_base {w : World} {B B' : Nat} {v : Value} {l : List Int} (h : Leb.Own w B v l) (hB : B' ≤ B) : Leb.Own w B' v l := by
  refine ⟨h.1, h.2.1, ?_⟩
  rcases h.2.2 with h0 | ⟨g, cap, cur, hv, hb, rest⟩
  · exact .inl h0
  · exact .inr ⟨g, cap, cur, hv, Nat.le_trans hB hb, rest⟩
def LyEnds (w : World) (l s : List Int) (e : Ending) (w' : World) : Prop :=
  ((fltE s = 0 ∧ ∃ v, e = .returned (.tuple #[v, .int .i64 0]) ∧ Leb.Own w' w.heap.size v (l ++ Leb.uB s.length ++ s)) ∨ (fltE s ≠ 0 ∧ e = .returned (.tuple #[.slice none 0 0, .int .i64 (fltE s)]))) ∧ Below w.heap.size w w'
theorem strCells_vb (s : ByteArray) : Lib.strCells s = Leb.vb (bl s) := by
  unfold Lib.strCells Leb.vb bl
  rw [List.map_map]
  rfl
theorem wp_str {ops : Array Oper} {rest : List Oper} {o : Oper} {a : Act} {Q : Exit → Act → World → Prop} (w : World) (hgd : o.guard = none) (sl x : Operand)
    (ho : o.op = .call { callee := .builtin .append, args := #[sl, x], argTypes := #[22, 9] }) (B : Nat) (v : Value) (done : List Int) (s : ByteArray) (hs : a.eval sl = v) (hown : Leb.Own w B v done)
    (hx : a.eval x = .string s) (hlen : done.length + s.size ≤ 10000000) (hB : B ≤ w.heap.size)
    (h : ∀ v' w', Leb.Own w' B v' (done ++ bl s) → Below B w w' → wpList Tryz.prog ops Q rest (a.put o.dst v') w') : wpList Tryz.prog ops Q (o :: rest) a w := by
  obtain ⟨i0, hi, hz0, hz1, hz2⟩ := info_parts byte_info
  obtain ⟨⟨g, c, hv⟩, hrow⟩ := hown
  refine Lib.wpList_append_own_string w hgd sl x 22 9 ho B 5 i0 Tryz.underlying22 Tryz.underlying9 hi hz0 hz1 hz2 v _ _ hs hrow s hx (by simp only [maxLen]; omega) (by omega) hB ?_
  intro v' w' ho' hg hn
  have ho2 : w'.ownsRow B 5 1 v' (done ++ bl s).length (Leb.vb (done ++ bl s)) := by
    rw [Leb.vb_append, List.length_append, bl_len, ← strCells_vb]
    exact ho'
  refine h v' w' ⟨?_, ho2⟩ ((Below.refl _ _).grown hg hB fun k hk => (World.ownsRow.lt hrow k hk).1)
  rcases ho2.2 with ⟨e, _⟩ | ⟨g', c', cur, e, _⟩
  · have := (hn.1 e).1
    rw [hv] at this
    cases this
  · exact ⟨g', c', e⟩
theorem play_no (sl : Value) (s : ByteArray) (l : List Int) (w : World) (h : fltE (bl s) ≠ 0) : Calls Tryz.prog 66 #[sl, .string s] w (LyEnds w l (bl s)) := by
  have HF := Lib.hid (fault_any s w)
  have hz1 : (fltE (bl s) != 0) = true := by simpa using h
  have HE := Lib.hid h
  clear h
  revert HF hz1 HE
  generalize hE : fltE (bl s) = E
  have HEE := Lib.hid hE
  clear hE
  intro HF hz1 HE
  go_enter Tryz.func66, Tryz.ntmps66
  go_wp2_with fail
  refine HF.out.mono ?_
  rintro e w1 ⟨rfl, hb⟩
  have HB := Lib.hid hb
  clear hb
  go_wp2_with fail
  go_ret2
  unfold LyEnds
  rw [HEE.out]
  exact ⟨.inr ⟨HE.out, rfl⟩, HB.out⟩
theorem play_yes (sl : Value) (A : Option Addr) (c : Nat) (s : ByteArray) (l : List Int) (w : World) (hsl : sl = .slice A l.length c) (hA : Leb.Byt w w.heap.size A l) (hl : l.length ≤ 1000000) (h : fltE (bl s) = 0) (hs : s.size ≤ 1000) : Calls Tryz.prog 66 #[sl, .string s] w (LyEnds w l (bl s)) := by
  have HF := Lib.hid (fault_any s w)
  rw [h] at HF
  have HE := Lib.hid h
  have HU : Hid (∀ W, Below w.heap.size w W → Calls Tryz.prog 69 #[sl, .int .u64 (s.size : Int)] W (Leb.Laid W (l ++ Leb.uB s.size))) := by
    show ∀ W, _
    intro W hW
    rw [hsl]
    exact Leb.U_any A c s.size l W ((hA.keep hW).mono hW.size) hl (by omega)
  have hlen : Hid ((l ++ Leb.uB s.size).length + s.size ≤ 10000000) := by
    show _ ≤ _
    rw [List.length_append, Leb.uB_len]
    have := Leb.lenU_ten (v := s.size) (by omega)
    omega
  clear h hsl hA hl
  go_enter Tryz.func66, Tryz.ntmps66
  go_wp2_with fail
  refine HF.out.mono ?_
  rintro e w1 ⟨rfl, hb⟩
  have HB := Lib.hid hb
  clear hb
  go_wp2_with fail
  refine (HU.out _ HB.out).mono ?_
  rintro e w2 ⟨v2, rfl, ho2, hb2⟩
  have HO := Lib.hid ho2
  have HB2 := Lib.hid hb2
  have hsz : w1.heap.size ≤ w2.heap.size := HB2.out.size
  clear ho2 hb2
  go_wp2_with (at_builtin; refine wp_str w2 rfl (.tmp 16) (.tmp 17) rfl w1.heap.size _ (l ++ Leb.uB s.size) s rfl HO.out rfl hlen.out hsz ?_; intro v3 w3 ho3 hb3)
  go_ret2
  exact ⟨.inl ⟨HE.out, _, rfl, by rw [bl_len]; exact own_base ho3 HB.out.size⟩, HB.out.trans ((HB2.out.trans hb3).mono HB.out.size)⟩
theorem play_any (sl : Value) (l : List Int) (s : ByteArray) (w : World) (hv : Sl w sl l) (hl : l.length ≤ 1000000) (hs : s.size ≤ 1000) : Calls Tryz.prog 66 #[sl, .string s] w (LyEnds w l (bl s)) := by
  by_cases h : fltE (bl s) = 0
  · have hv' := hv
    obtain ⟨A, c, e, _⟩ := hv
    exact play_yes sl A c s l w e (Sl.leb (by rw [← e]; exact hv')) hl h hs
  · exact play_no sl s l w h
end Go.Proofs.YtffegkjlgeblbaaGreatDoor.Utf
end

section
/- What came in, as the statements of layer 3 take it: bytes, whole numbers. -/
namespace Go.Proofs.YtffegkjlgeblbaaGreatDoor.Utf
open Go.RowKit
set_option maxRecDepth 100000
set_option maxHeartbeats 1000000

theorem cell_spot {w : World} {x : Addr} {v : Value} (h : w.cell? x = some v) : x.spot = none := by
  unfold World.cell? at h
  split at h
  · split at h
    · cases h
    · rename_i hs
      cases hx : x.spot with
      | none => rfl
      | some _ => rw [hx] at hs; simp at hs
  · cases h
theorem add_plain (b o j : Nat) : (⟨b, o, none⟩ : Addr).add j = ⟨b, o + j, none⟩ := by
  unfold Addr.add
  split
  · rename_i h; subst h; rfl
  · rfl
theorem take_getD (zs : List Int) (n j : Nat) (h : j < n) : (zs.take n).getD j 0 = zs.getD j 0 := by
  rw [List.getD_eq_getElem?_getD, List.getD_eq_getElem?_getD, List.getElem?_take, if_pos h]
theorem came_parts {k : IntKind} {w : World} {a : Option Addr} {len cap : Nat} {zs : List Int} (h : Leb.Came k w a len cap zs) :
    (zs.take len).length = len ∧ len ≤ cap ∧ cap ≤ 9223372036854775807 ∧ (zs.take len ≠ [] → ∃ g off, a = some ⟨g, off, none⟩ ∧ g < w.heap.size ∧ ∀ j, j < len → w.cell? ⟨g, off + j, none⟩ = some (.int k ((zs.take len).getD j 0))) ∧ ∀ n ∈ zs.take len, (Lit.int k n).wf = true := by
  rcases h with ⟨rfl, rfl, rfl, rfl⟩ | ⟨x, rfl, hl, hm, hz, hc, hw⟩
  · exact ⟨rfl, Nat.le_refl _, by omega, fun h => absurd rfl h, by simp⟩
  · have hlen : (zs.take len).length = len := by rw [List.length_take]; omega
    unfold maxLen at hm
    refine ⟨hlen, hl, by omega, fun h0 => ?_, fun n hn => hw n (List.mem_of_mem_take hn)⟩
    have hpos : 0 < len := by
      rcases Nat.eq_zero_or_pos len with e | e
      · rw [e] at h0; simp at h0
      · exact e
    have h1 := hc 0 (by omega)
    rw [show x.add 0 = x from by unfold Addr.add; rw [if_pos rfl]] at h1
    obtain ⟨g, off, sp⟩ := x
    obtain rfl : sp = none := cell_spot h1
    refine ⟨g, off, rfl, World.block_lt_of_cell? w _ h1, fun j hj => ?_⟩
    rw [← add_plain, take_getD zs len j hj]
    exact hc j (by omega)
theorem came_sl {w : World} {a : Option Addr} {len cap : Nat} {zs : List Int} (h : Leb.Came .u8 w a len cap zs) : Sl w (.slice a len cap) (zs.take len) ∧ (∀ x ∈ zs.take len, 0 ≤ x ∧ x < 256) := by
  obtain ⟨h1, h2, h3, h4, h5⟩ := came_parts h
  refine ⟨⟨a, cap, by rw [h1], by omega, h3, fun h0 => ?_⟩, fun x hx => by have := bounds_u8 (h5 x hx); omega⟩
  obtain ⟨g, off, e, hg, hc⟩ := h4 h0
  exact ⟨g, off, e, hg, rfl, fun j hj => hc j (by omega)⟩
end Go.Proofs.YtffegkjlgeblbaaGreatDoor.Utf
end
