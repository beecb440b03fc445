/- The two functions of the program that lay a number in bytes, walked: what they hand back is what was handed in and the number's bytes behind it. -/
import Derived.Test.YtnminpbnlcgblaaLebLay
import Derived.Laws.Bits128
namespace Go.Proofs.Ytnminpbnlcgblaa.Leb
open Go.RowKit

/-- Within the laying loop: what is done and what is left are together what was asked. -/
def Mid (w : World) (B : Nat) (all rest : List Int) (v : Value) (wr : World) : Prop :=
  ∃ done : List Int, done ++ rest = all ∧ Own wr B v done ∧ Below B w wr ∧ B ≤ wr.heap.size

theorem Mid.step {w wr w1 : World} {B : Nat} {all rest : List Int} {x : Int} {v' : Value} {done : List Int} (hall : done ++ (x :: rest) = all) (hb : Below B w wr) (hB : B ≤ wr.heap.size) (ho : Own w1 B v' (done ++ [x])) (hg : Below B wr w1) :
    Mid w B all rest v' w1 :=
  ⟨done ++ [x], by simpa using hall, ho, hb.trans hg, Nat.le_trans hB hg.size⟩

theorem Mid.end_ {w wr w1 : World} {all : List Int} {x : Int} {v' : Value} {done : List Int} (hall : done ++ [x] = all) (hb : Below w.heap.size w wr) (ho : Own w1 w.heap.size v' (done ++ [x])) (hg : Below w.heap.size wr w1) :
    Laid w all (.returned v') w1 := by
  subst hall
  exact ⟨_, rfl, ho, hb.trans hg⟩

set_option maxHeartbeats 400000 in
set_option maxRecDepth 100000 in
theorem U_any (A : Option Addr) (c v : Nat) (l : List Int) (w : World) (hA : Byt w w.heap.size A l) (hl : l.length ≤ 1000000) (hv : v < 18446744073709551616) :
    Calls Try.prog 38 #[.slice A l.length c, .int .u64 (v : Int)] w (Laid w (l ++ uB v)) := by
  have hlen := lenU_ten hv
  have hU := Lib.hid (LenU_any v w hv)
  have hub := uB_len v
  have hall : (l ++ uB v).length ≤ 1000010 := by rw [List.length_append, hub]; omega
  have HG := Lib.hid (grown_any A c (lenU v) l w hA (by omega) (by omega))
  clear hA hv hub
  have HALL := Lib.hid hall
  clear hall
  go_enter Try.func38, Try.ntmps38
  go_wp2_with (first | (go_at_call 48; refine hU.out.mono ?_; rintro e w' ⟨rfl, rfl⟩) | (go_at_call 47; refine HG.out.mono ?_; rintro e w1 ⟨v1, rfl, hown1, hb1⟩))
  clear hU HG
  have hB1 := hb1.size
  go_loopw [1, 5] (fun x s wr => ∃ u : Nat, x = .int .u64 (u : Int) ∧ Mid w w.heap.size (l ++ uB v) (uB u) s wr) (fun x _ _ => (intOf x).toNat)
  case atStart => exact ⟨v, rfl, l, rfl, hown1, hb1, hB1⟩
  case round =>
    obtain ⟨u, rfl, done, hd, hown, hb, hB⟩ := hrel
    have hdl : done.length ≤ 1000010 := by have := HALL.out; rw [← hd, List.length_append] at this; omega
    have HD := Lib.hid hd
    have HO := Lib.hid hown
    clear hd hown
    by_cases hlt : u < 128
    · go_wp2_with (at_builtin; refine wp_byte wr rfl (.tmp 21) (.tmp 24) rfl w.heap.size _ done (u : Int) rfl HO.out rfl (by omega) hB ?_; intro v2 w2 ho2 hb2)
      go_ret
      exact Mid.end_ (by have := HD.out; rw [uB_small hlt] at this; exact this) hb ho2 hb2
    · go_wp2_with (at_builtin; refine wp_byte wr rfl (.tmp 12) (.tmp 17) rfl w.heap.size _ done ((u : Int) % 128 + 128) rfl HO.out rfl (by omega) hB ?_; intro v2 w2 ho2 hb2)
      go_roundw
      case rel => exact ⟨u / 128, by go_num, Mid.step (by have := HD.out; rw [uB_great (by omega)] at this; exact this) hb hB ho2 hb2⟩
      case measure => simp [intOf]; omega

end Go.Proofs.Ytnminpbnlcgblaa.Leb
