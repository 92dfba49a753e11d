/- Walks: what a request that clears says, by the program: its fields. -/
import Derived.Test.YtbhnjnoblkfckabGreatDoorSlR
import Derived.Test.YtbhnjnoblkfckabGreatDoorSlI
import Derived.Test.YtbhnjnoblkfckabGreatDoorGA11
import Derived.Test.YtbhnjnoblkfckabGreatDoorGA02
import Derived.Test.YtbhnjnoblkfckabGreatDoorGA09
import Derived.Test.YtbhnjnoblkfckabGreatDoorGA01
namespace Go.Proofs.YtbhnjnoblkfckabGreatDoor
open Go.RowKit

set_option maxRecDepth 100000 in
set_option maxHeartbeats 1600000 in
theorem impl_readnum (v : Value) (fs : List Fd) (name : List UInt8) (w : World) (hF : FRow w v fs) (hok : FOk fs 281474976710656) (hn : fs.length ≤ 2000000) (hs : (ByteArray.mk name.toArray).size ≤ maxLen) (ht : Tab w) (he : Errs w) :
    Calls Tryz.prog 41 #[v, strV name] w fun e w' => e = .returned (.tuple #[.int .i64 ((numF fs name).1 : Int), .bool (numF fs name).2]) ∧ Below w.heap.size w w' := by
  have hO := impl_one v fs ⟨name.toArray⟩ w hF hok hn hs
  have hle := field_le (fun f hf => (hok f hf).2) name
  unfold numF
  unfold fieldF at *
  generalize oneOf (allTo fs ⟨name.toArray⟩ fs.length) = r at *
  obtain ⟨x, b⟩ := r
  dsimp only at hO hle ⊢
  have hN := fun W h1 h2 => impl_numread x W hle h1 h2
  generalize numR x.data.toList = q at *
  obtain ⟨y, c⟩ := q
  dsimp only at hN ⊢
  have HN := Lib.hid hN
  obtain ⟨a, l, cc, rfl⟩ : ∃ a l c, v = .slice a l c := by obtain ⟨a, c, h, _⟩ := hF; exact ⟨a, _, c, h⟩
  clear hF hok hle hN
  go_enter Tryz.func41, Tryz.ntmps41
  go_wp2_with fail
  refine hO.mono ?_
  rintro e w1 ⟨rfl, hb1⟩
  have ht1 := ht.below hb1 (Nat.le_refl _)
  have he1 := he.below hb1 (Nat.le_refl _)
  clear hO ht he
  go_wp2_with fail
  refine (HN.out _ ht1 he1).mono ?_
  rintro e w2 ⟨rfl, hb2⟩
  have HB := Lib.hid (hb1.trans (hb2.mono hb1.size))
  clear hb1 hb2 ht1 he1
  go_wp2
  go_ret2
  exact ⟨rfl, HB.out⟩

set_option maxRecDepth 100000 in
set_option maxHeartbeats 1600000 in
theorem impl_readscope (v : Value) (fs : List Fd) (w : World) (hF : FRow w v fs) (hok : FOk fs 281474976710656) (hn : fs.length ≤ 2000000) :
    Calls Tryz.prog 40 #[v] w fun e w' => e = .returned (.tuple #[.bool (underF fs), .bool (scopeB fs)]) ∧ Below w.heap.size w w' := by
  have hO := impl_one v fs ⟨bScope.toArray⟩ w hF hok hn (by decide)
  have hA : ∀ W, Calls Tryz.prog 95 #[.bool true] W fun e w' => e = .returned (.agg #[.string ⟨#[97, 108, 108]⟩, .int .i64 1]) ∧ Below W.heap.size W w' := fun W => scope_of true W
  have hB : ∀ W, Calls Tryz.prog 95 #[.bool false] W fun e w' => e = .returned (.agg #[.string ⟨#[111, 110, 101]⟩, .int .i64 2]) ∧ Below W.heap.size W w' := fun W => scope_of false W
  unfold scopeB underF scopeF fieldF
  generalize oneOf (allTo fs ⟨bScope.toArray⟩ fs.length) = r at *
  obtain ⟨x, b⟩ := r
  dsimp only at hO ⊢
  have eA : (x.data.toList == bAll) = (x.toList == [97, 108, 108]) := by rw [Lib.toList_data]; rfl
  have eO : (x.data.toList == bOne) = (x.toList == [111, 110, 101]) := by rw [Lib.toList_data]; rfl
  rw [eA, eO]
  obtain ⟨a, l, cc, rfl⟩ : ∃ a l c, v = .slice a l c := by obtain ⟨a, c, h, _⟩ := hF; exact ⟨a, _, c, h⟩
  clear hF hok eA eO
  generalize hX : (x.toList == [97, 108, 108]) = X at *
  generalize hY : (x.toList == [111, 110, 101]) = Y at *
  have hfA : ∀ W, (Instr.field 117 (.agg #[.string ⟨#[97, 108, 108]⟩, .int .i64 1]) 0).run Tryz.prog W = .ok (.string ⟨#[97, 108, 108]⟩) W := fun W => by kernel_rfl
  have hfB : ∀ W, (Instr.field 117 (.agg #[.string ⟨#[111, 110, 101]⟩, .int .i64 2]) 0).run Tryz.prog W = .ok (.string ⟨#[111, 110, 101]⟩) W := fun W => by kernel_rfl
  have HO : Hid (Calls Tryz.prog 16 #[.slice a l cc, .string ⟨#[115, 99, 111, 112, 101]⟩] w fun e w' => e = .returned (.tuple #[.string x, .bool b]) ∧ Below w.heap.size w w') := Lib.hid hO
  clear hO
  cases X
  · go_enter Tryz.func40, Tryz.ntmps40
    go_wp2_with fail
    refine HO.out.mono ?_
    rintro e w1 ⟨rfl, hb1⟩
    clear HO
    go_wp2_with fail
    refine (hA _).mono ?_
    rintro e w2 ⟨rfl, hb2⟩
    have hb02 := hb1.trans (hb2.mono hb1.size)
    clear hb1 hb2
    go_wp2_with fail
    refine (hB _).mono ?_
    rintro e w3 ⟨rfl, hb3⟩
    have HB := Lib.hid (hb02.trans (hb3.mono hb02.size))
    clear hb02 hb3 hA hB
    cases Y
    all_goals
      go_wp2
      go_ret2
      exact ⟨rfl, HB.out⟩
  · go_enter Tryz.func40, Tryz.ntmps40
    go_wp2_with fail
    refine HO.out.mono ?_
    rintro e w1 ⟨rfl, hb1⟩
    clear HO
    go_wp2_with fail
    refine (hA _).mono ?_
    rintro e w2 ⟨rfl, hb2⟩
    have HB := Lib.hid (hb1.trans (hb2.mono hb1.size))
    clear hb1 hb2 hA hB
    go_wp2
    go_ret2
    exact ⟨rfl, HB.out⟩
end Go.Proofs.YtbhnjnoblkfckabGreatDoor
