/- Is a string a text: the program's word, walked. -/
import Derived.Test.YtkdnhhhgggmapaaUtfRune
import Derived.Test.YtkdnhhhgggmapaaUtfModel
import Derived.WalkSmall
namespace Go.Proofs.Ytkdnhhhgggmapaa.Utf
open Go.RowKit
set_option maxRecDepth 100000
set_option maxHeartbeats 1000000

/-- The bytes of a string. -/
theorem bl_str {l : List Int} (hb : ∀ x ∈ l, 0 ≤ x ∧ x < 256) : bl (strOfNums l) = l := by
  unfold bl
  rw [strOfNums_data, List.map_map]
  conv => rhs; rw [← List.map_id l]
  refine List.map_congr_left fun x hx => ?_
  have := hb x hx
  simp only [Function.comp_apply, UInt8.toNat_ofNat', id_eq]
  omega
theorem bl_inj {a b : ByteArray} (h : bl a = bl b) : a = b := by
  obtain ⟨⟨a⟩⟩ := a
  obtain ⟨⟨b⟩⟩ := b
  unfold bl at h
  have : a = b := by
    refine List.map_inj_right (f := fun x : UInt8 => (x.toNat : Int)) (fun x y e => ?_) |>.1 h
    exact UInt8.toNat_inj.1 (by exact_mod_cast e)
  rw [this]
theorem str_bl (s : ByteArray) : strOfNums (bl s) = s := bl_inj (bl_str (bl_byte s))
theorem bl_extract (s : ByteArray) (i j : Nat) : bl (s.extract i j) = ((bl s).drop i).take (j - i) := by
  unfold bl
  rw [ByteArray.data_extract, Array.toList_extract, List.extract_eq_take_drop, List.map_take, List.map_drop]
/-- The three bytes of 65533. -/
def fffd : ByteArray := ⟨#[239, 191, 189]⟩
theorem bl_fffd : bl fffd = enc 65533 := by decide +kernel
theorem enc_fffd : enc 65533 = [239, 191, 189] := by decide +kernel
/-- Does a string begin with another? -/
def preB (s p : ByteArray) : Bool := decide (p.size ≤ s.size) && ((s.extract 0 p.size).toList == p.toList)
theorem prefix_in (s p : ByteArray) (w : World) : Calls Try.prog 52 #[.string s, .string p] w fun e w' => e = .returned (.bool (preB s p)) ∧ w = w' := by
  by_cases h : p.size ≤ s.size
  · have H : Hid (preB s p = ((s.extract 0 p.size).toList == p.toList)) := by show _ = _; unfold preB; rw [decide_eq_true h, Bool.true_and]
    go_enter Try.func52, Try.ntmps52
    go_wp2_with fail
    go_ret
    exact ⟨ret_bool H.out.symm, rfl⟩
  · have H : Hid (preB s p = false) := by show _ = _; unfold preB; rw [decide_eq_false h, Bool.false_and]
    have hd : decide (p.size ≤ s.size) = false := by simp; omega
    clear h
    go_enter Try.func52, Try.ntmps52
    go_wp2_with fail
    go_ret
    exact ⟨ret_bool H.out.symm, rfl⟩
theorem prefix_any (s p : ByteArray) (w : World) : Calls Try.prog 49 #[.string s, .string p] w fun e w' => e = .returned (.bool (preB s p)) ∧ w = w' := by
  have H := Lib.hid (prefix_in s p w)
  go_enter Try.func49, Try.ntmps49
  go_wp2_with fail
  refine H.out.mono ?_
  rintro e w1 ⟨rfl, rfl⟩
  go_wp2_with fail
  go_ret
  exact ⟨rfl, rfl⟩
theorem preB_iff (s p : ByteArray) : preB s p = true ↔ ∃ t, bl s = bl p ++ t := by
  unfold preB
  rw [Bool.and_eq_true, decide_eq_true_eq, beq_iff_eq]
  constructor
  · rintro ⟨_, h⟩
    have e := congrArg bl (str_toList h)
    rw [bl_extract, List.drop_zero, Nat.sub_zero] at e
    exact ⟨(bl s).drop p.size, by rw [← e, List.take_append_drop]⟩
  · rintro ⟨t, h⟩
    have hl := congrArg List.length h
    rw [List.length_append, bl_len, bl_len] at hl
    refine ⟨by omega, congrArg _ (bl_inj ?_)⟩
    rw [bl_extract, List.drop_zero, Nat.sub_zero, h, ← bl_len, List.take_left]
/-- How far a string is told to be a text. -/
def Pre (s : ByteArray) (pos : Nat) : Prop := pos ≤ s.size ∧ ∃ done : List Int, (∀ v ∈ done, okR v) ∧ (bl s).take pos = done.flatMap enc
def Gone (w : World) (s : ByteArray) (pos : Nat) (wr : World) : Prop := wr.heap[w.heap.size]? = some (.stringIter s pos) ∧ Below w.heap.size w wr ∧ Pre s pos
theorem Pre.start (s : ByteArray) : Pre s 0 := ⟨Nat.zero_le _, [], by simp, by simp⟩
theorem Pre.more {s : ByteArray} {pos : Nat} {v : Int} {t : List Int} (h : Pre s pos) (hv : okR v) (e : (bl s).drop pos = enc v ++ t) : Pre s (pos + (enc v).length) := by
  obtain ⟨h1, done, h2, h3⟩ := h
  have hl := congrArg List.length e
  rw [List.length_append, List.length_drop, bl_len] at hl
  have := (enc_len v).1
  refine ⟨by omega, done ++ [v], fun x hx => ?_, ?_⟩
  · rcases List.mem_append.1 hx with hx | hx
    · exact h2 x hx
    · obtain rfl : x = v := by simpa using hx
      exact hv
  · rw [List.flatMap_append, ← h3, List.take_add, e, List.take_left]
    simp
theorem Pre.all {s : ByteArray} (h : Pre s s.size) : isT (bl s) = true := by
  obtain ⟨_, done, h2, h3⟩ := h
  rw [← bl_len, List.take_length] at h3
  exact isT_true ⟨h2, h3⟩
theorem Pre.stuck {s : ByteArray} {pos : Nat} (h : Pre s pos) (hp : pos < s.size) (hn : ∀ v t, okR v → (bl s).drop pos ≠ enc v ++ t) : isT (bl s) = false := by
  obtain ⟨_, done, h2, h3⟩ := h
  refine isT_false (no_txt h2 h3 (fun e => ?_) ?_)
  · have := congrArg List.length e
    rw [List.length_drop, bl_len] at this
    simp at this
    omega
  · cases hd : dec ((bl s).drop pos) with
    | none => rfl
    | some q =>
      obtain ⟨v, n⟩ := q
      obtain ⟨hv, _, e⟩ := dec_some (fun x hx => bl_byte s x (List.mem_of_mem_drop hx)) hd
      exact absurd e (hn v _ hv)
/-- At 65533 the bytes themselves tell whether they stand for it. -/
theorem pre_yes {s : ByteArray} {pos : Nat} {t : List Int} (e : (bl s).drop pos = enc 65533 ++ t) : preB (s.extract pos s.size) fffd = true := by
  refine (preB_iff _ _).2 ⟨t, ?_⟩
  rw [bl_extract, bl_fffd, ← e, ← bl_len, ← List.length_drop, List.take_length]
theorem pre_no {s : ByteArray} {pos : Nat} (hn : ∀ v t, okR v → (bl s).drop pos ≠ enc v ++ t) : preB (s.extract pos s.size) fffd = false := by
  rw [Bool.eq_false_iff]
  intro h
  obtain ⟨t, e⟩ := (preB_iff _ _).1 h
  rw [bl_extract, bl_fffd, ← bl_len, ← List.length_drop, List.take_length] at e
  exact hn 65533 t (by decide) e
theorem fffd_txt (W : World) : (convert 21 9 (.int .i32 65533)).run Try.prog W = .ok (.string fffd) W := rfl
theorem istext_any (s : ByteArray) (w : World) : Calls Try.prog 46 #[.string s] w fun e w' => e = .returned (.bool (isT (bl s))) ∧ Below w.heap.size w w' := by
  go_enter Try.func46, Try.ntmps46
  go_wp2_with fail
  go_loopw [] (fun wr => ∃ pos : Nat, Gone w s pos wr) (fun wr => s.size - wr.iterPos w.heap.size)
  case atStart => exact ⟨0, World.iter_heap w s 0, (Below.refl _ _).alloc (Nat.le_refl _) _, Pre.start s⟩
  case round =>
    obtain ⟨pos, hit, hbel, hpre⟩ := hrel
    have hip := iterPos_of hit
    by_cases hp : pos < s.size
    · by_cases hx : ∃ v t, okR v ∧ (bl s).drop pos = enc v ++ t
      · obtain ⟨v, t, hv, ht⟩ := hx
        have hdec := decode_some s pos v t hv ht
        have hv0 : ((v.toNat : Nat) : Int) = v := Int.toNat_of_nonneg hv.1
        have hnx : ∀ ty, (Instr.next (.pointer (some ⟨w.heap.size, 0, none⟩)) true ty).run Try.prog wr = .ok (.tuple #[.bool true, .int .i64 (pos : Int), .int .i32 v]) (wr.iterAt w.heap.size s (pos + (enc v).length)) := by
          intro ty
          rw [Lib.run_next_any_at wr w.heap.size s pos ty hit hp, hdec, hv0]
        have hit2 := Lib.hid (Lib.iterAt_heap wr w.heap.size s pos (pos + (enc v).length) hit)
        have hbel2 := Lib.hid (Lib.below_iterAt hbel (Nat.le_refl _) s (pos + (enc v).length))
        have hpre2 := Lib.hid (hpre.more hv ht)
        have hlt := (enc_len v).1
        by_cases h3 : v = 65533
        · subst h3
          have hsl : ∀ W, (Instr.sliceAt 9 (.string s) (some (.int .i64 (pos : Int))) none none).run Try.prog W = .ok (.string (s.extract pos s.size)) W := by
            intro W
            go_simp
            intro h
            omega
          have htx := fffd_txt
          have HP := Lib.hid (pre_yes ht)
          clear hdec hv0 ht hpre hit hbel
          go_wp2_with (go_at_call 49; refine (prefix_any _ _ _).mono ?_; rintro e w1 ⟨rfl, rfl⟩; rw [HP.out])
          go_roundw
          case rel => exact ⟨_, hit2.out, hbel2.out, hpre2.out⟩
          case measure => rw [iterPos_of hit2.out, hip]; omega
        · have ht2 : (v == 65533) = false := by simpa using h3
          clear hdec hv0 h3 ht hpre hit hbel
          go_wp2_with fail
          go_roundw
          case rel => exact ⟨_, hit2.out, hbel2.out, hpre2.out⟩
          case measure => rw [iterPos_of hit2.out, hip]; omega
      · have hn : ∀ v t, okR v → (bl s).drop pos ≠ enc v ++ t := fun v t hv e => hx ⟨v, t, hv, e⟩
        have hdec := decode_none s pos hp hn
        have hnx : ∀ ty, (Instr.next (.pointer (some ⟨w.heap.size, 0, none⟩)) true ty).run Try.prog wr = .ok (.tuple #[.bool true, .int .i64 (pos : Int), .int .i32 65533]) (wr.iterAt w.heap.size s (pos + 1)) := by
          intro ty
          rw [Lib.run_next_any_at wr w.heap.size s pos ty hit hp, hdec]
          rfl
        have hbel2 := Lib.hid (Lib.below_iterAt hbel (Nat.le_refl _) s (pos + 1))
        have hsl : ∀ W, (Instr.sliceAt 9 (.string s) (some (.int .i64 (pos : Int))) none none).run Try.prog W = .ok (.string (s.extract pos s.size)) W := by
          intro W
          go_simp
          intro h
          omega
        have htx := fffd_txt
        have HP := Lib.hid (pre_no hn)
        have HR := Lib.hid (hpre.stuck hp hn)
        clear hdec hn hx hpre hit hbel
        go_wp2_with (go_at_call 49; refine (prefix_any _ _ _).mono ?_; rintro e w1 ⟨rfl, rfl⟩; rw [HP.out])
        go_ret
        exact ⟨ret_bool HR.out.symm, hbel2.out⟩
    · have hnx : ∀ ty, (Instr.next (.pointer (some ⟨w.heap.size, 0, none⟩)) true ty).run Try.prog wr = .ok (.tuple #[.bool false]) wr := fun ty => Lib.run_next_end_at wr w.heap.size s pos ty hit hp
      obtain rfl : pos = s.size := by have := hpre.1; omega
      have HR := Lib.hid hpre.all
      have HB := Lib.hid hbel
      clear hpre hbel hit
      go_wp2_with fail
      go_ret
      exact ⟨ret_bool HR.out.symm, HB.out⟩
end Go.Proofs.Ytkdnhhhgggmapaa.Utf
