/- What a request that clears says, plain; no function of the program. -/
import Derived.Test.YtbhnjnoblkfckabGreatDoorSlP
import Derived.Test.YtbhnjnoblkfckabGreatDoorGA03
import Derived.Test.YtbhnjnoblkfckabGreatDoorGA01
namespace Go.Proofs.YtbhnjnoblkfckabGreatDoor
open Go.RowKit

def bScope : List UInt8 := [115, 99, 111, 112, 101]
def bUntil : List UInt8 := [117, 110, 116, 105, 108]
def bNonce : List UInt8 := [110, 111, 110, 99, 101]
def bSeal : List UInt8 := [115, 101, 97, 108]
def bAll : List UInt8 := [97, 108, 108]
def bOne : List UInt8 := [111, 110, 101]
theorem all_memF {fs : List (ByteArray × ByteArray)} {s v : ByteArray} : ∀ (k : Nat), v ∈ allTo fs s k → ∃ f ∈ fs, f.2 = v := by
  intro k
  induction k with
  | zero => intro h; simp [allTo] at h
  | succ k ih =>
    intro h
    unfold allTo at h
    cases hk : fs[k]? with
    | none => rw [hk] at h; exact ih h
    | some f =>
      rw [hk] at h
      dsimp only at h
      split at h
      · rcases List.mem_append.1 h with h | h
        · exact ih h
        · rw [List.mem_singleton] at h
          exact ⟨f, List.mem_of_getElem? hk, h.symm⟩
      · exact ih h
/-- The only value of a name; nothing, if there is not one alone. -/
def fieldF (fs : List (ByteArray × ByteArray)) (name : List UInt8) : ByteArray × Bool := oneOf (allTo fs ⟨name.toArray⟩ fs.length)
theorem field_le {fs : List (ByteArray × ByteArray)} {K : Nat} (hok : ∀ f ∈ fs, f.2.size ≤ K) (name : List UInt8) : (fieldF fs name).1.size ≤ K := by
  unfold fieldF
  have hm : ∀ v ∈ allTo fs ⟨name.toArray⟩ fs.length, v.size ≤ K := fun v hv => by
    obtain ⟨f, hf, rfl⟩ := all_memF _ hv
    exact hok f hf
  generalize allTo fs ⟨name.toArray⟩ fs.length = l at hm
  match l, hm with
  | [], _ => exact Nat.zero_le _
  | [x], hm => exact hm x (by simp)
  | _ :: _ :: _, _ => exact Nat.zero_le _
theorem field_none {fs : List (ByteArray × ByteArray)} {name : List UInt8} (h : (fieldF fs name).2 = false) : (fieldF fs name).1 = ⟨#[]⟩ := by
  unfold fieldF at *
  generalize allTo fs ⟨name.toArray⟩ fs.length = l at *
  match l, h with
  | [], _ => rfl
  | [x], h => cases h
  | _ :: _ :: _, _ => rfl
def numF (fs : List (ByteArray × ByteArray)) (name : List UInt8) : Nat × Bool := numR (fieldF fs name).1.data.toList
def scopeF (fs : List (ByteArray × ByteArray)) : ByteArray := (fieldF fs bScope).1
def underF (fs : List (ByteArray × ByteArray)) : Bool := (scopeF fs).data.toList == bAll
def scopeB (fs : List (ByteArray × ByteArray)) : Bool := underF fs || (scopeF fs).data.toList == bOne
def clearB (h : Hd) : Bool := (h.verb.data.toList == bPurge && pathL h.target.data.toList == h.target.data.toList) && hedB h
def readB (h : Hd) : Bool := clearB h && (scopeB h.fs && ((numF h.fs bUntil).2 && ((numF h.fs bNonce).2 && (numF h.fs bSeal).2)))
theorem num_none {fs : List (ByteArray × ByteArray)} {name : List UInt8} (h : (fieldF fs name).2 = false) : numF fs name = (0, false) := by
  unfold numF; rw [field_none h]; rfl
/-- As a number, or -1. -/
def numI (fs : List (ByteArray × ByteArray)) (name : List UInt8) : Int := if (numF fs name).2 = true then ((numF fs name).1 : Int) else -1
theorem numI_neg {fs : List (ByteArray × ByteArray)} {name : List UInt8} : numI fs name < 0 ↔ (numF fs name).2 = false := by
  unfold numI
  cases h : (numF fs name).2 <;> simp
theorem numI_yes {fs : List (ByteArray × ByteArray)} {name : List UInt8} (h : (numF fs name).2 = true) : numI fs name = ((numF fs name).1 : Int) := by
  unfold numI; rw [if_pos h]
def noSl : Sl := ⟨⟨#[]⟩, false, 0, 0, 0⟩
def saysS (h : Hd) : Sl := ⟨h.target, underF h.fs, ((numF h.fs bUntil).1 : Int), ((numF h.fs bNonce).1 : Int), ((numF h.fs bSeal).1 : Int)⟩
def readS (h : Hd) : Sl := if readB h = true then saysS h else noSl
end Go.Proofs.YtbhnjnoblkfckabGreatDoor
