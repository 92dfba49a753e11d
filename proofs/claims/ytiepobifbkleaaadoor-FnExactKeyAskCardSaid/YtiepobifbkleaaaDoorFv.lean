/- Fields: which are valid. -/
import Derived.Test.YtiepobifbkleaaaDoorTrim
import Derived.Test.YtiepobifbkleaaaDoorLaid
namespace Go.Proofs.YtiepobifbkleaaaDoor
open Go.RowKit

def printC (c : UInt8) : Bool := decide (32 ≤ c.toNat) && decide (c.toNat ≤ 126)
def printB (l : List UInt8) : Bool := l.all printC
def valB (l : List UInt8) : Bool := decide (l.length ≤ 30) && printB l && decide (Lib.trimB l 32 = l)
def fdB (f : ByteArray × ByteArray) : Bool := tokB f.1.data.toList && valB f.2.data.toList

theorem str_inj2 {a b : ByteArray} (h : a.data.toList = b.data.toList) : a = b := by
  cases a; cases b; simpa [Array.toList_inj] using h
theorem mk_same {l : List UInt8} {s : ByteArray} (h : l = s.data.toList) : (⟨l.toArray⟩ : ByteArray) = s := by rw [h, mk_toList]
theorem mk_ne {l : List UInt8} {s : ByteArray} (h : l ≠ s.data.toList) : ((⟨l.toArray⟩ : ByteArray).toList == s.toList) = false := by
  rw [Lib.toList_data, Lib.toList_data]
  simpa using h

theorem valB_len {l : List UInt8} (h : ¬ l.length ≤ 30) : valB l = false := by simp [valB, h]
theorem valB_print {l : List UInt8} (h : printB l = false) : valB l = false := by simp [valB, h]
theorem valB_trim {l : List UInt8} (h : ¬ Lib.trimB l 32 = l) : valB l = false := by simp [valB, h]
theorem valB_yes {l : List UInt8} (h1 : l.length ≤ 30) (h2 : printB l = true) (h3 : Lib.trimB l 32 = l) : valB l = true := by simp [valB, h1, h2, h3]

end Go.Proofs.YtiepobifbkleaaaDoor
