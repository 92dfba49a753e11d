/- Walks: the set of codings that a request would take. -/
import Derived.Test.YtlfcamapjeldjaaGreatDoorCodU
import Derived.Test.YtlfcamapjeldjaaGreatDoorMaskI
import Derived.Test.YtlfcamapjeldjaaGreatDoorFOne
namespace Go.Proofs.YtlfcamapjeldjaaGreatDoor
open Go.RowKit Go.Maps

def bAccept : ByteArray := ⟨#[97, 99, 99, 101, 112, 116]⟩
/-- The set of codings that fields would take. -/
def codOfF (fs : List Fd) : Nat := match oneOf (allTo fs bAccept fs.length) with
  | (v, true) => match codParse v.data.toList with
    | some ws => maskL ws
    | none => 1
  | _ => 1
theorem codOf_no {fs : List Fd} {v : ByteArray} (h : oneOf (allTo fs bAccept fs.length) = (v, false)) : codOfF fs = 1 := by
  unfold codOfF; rw [h]
theorem codOf_bad {fs : List Fd} {v : ByteArray} (h : oneOf (allTo fs bAccept fs.length) = (v, true)) (h2 : codParse v.data.toList = none) : codOfF fs = 1 := by
  unfold codOfF; rw [h]; simp only; rw [h2]
theorem codOf_yes {fs : List Fd} {v : ByteArray} {ws : List Wt} (h : oneOf (allTo fs bAccept fs.length) = (v, true)) (h2 : codParse v.data.toList = some ws) : codOfF fs = maskL ws := by
  unfold codOfF; rw [h]; simp only; rw [h2]
theorem one_sizeK {fs : List Fd} {K : Nat} (hok : FOk fs K) (s : ByteArray) : (oneOf (allTo fs s fs.length)).1.size ≤ K := by
  have h : ∀ k, ∀ x ∈ allTo fs s k, x.size ≤ K := by
    intro k
    induction k with
    | zero => intro x hx; simp [allTo] at hx
    | succ k ih =>
      intro x hx
      cases hf : fs[k]? with
      | none => rw [allTo] at hx; simp only [hf] at hx; exact ih x hx
      | some f =>
        rw [allTo_at s hf] at hx
        split at hx
        · rcases List.mem_append.1 hx with hx | hx
          · exact ih x hx
          · have : x = f.2 := by simpa using hx
            rw [this]; exact (hok f (List.mem_of_getElem? hf)).2
        · exact ih x hx
  by_cases h1 : (allTo fs s fs.length).length = 1
  · obtain ⟨x, hx, ho⟩ := oneOf_one h1
    rw [ho]; exact h fs.length x (by rw [hx]; exact List.mem_cons_self ..)
  · rw [oneOf_not h1]; exact Nat.zero_le _

set_option maxHeartbeats 1600000 in
theorem impl_codof (v : Value) (fs : List Fd) (w : World) (hF : FRow w v fs) (hok : FOk fs 1048576) (hn : fs.length ≤ 2000000) (hd : Cds w) (hc : Cls w) (he : Errs w) :
    Calls Tryz.prog 6 #[v] w fun e w' => e = .returned (.int .i64 (codOfF fs : Int)) ∧ Below w.heap.size w w' := by
  have hO := impl_one v fs bAccept w hF (fun f hf => ⟨Nat.le_trans (hok f hf).1 (by omega), Nat.le_trans (hok f hf).2 (by omega)⟩) hn (by decide)
  have hsz := one_sizeK hok bAccept
  have h1 := fun v (h : oneOf (allTo fs bAccept fs.length) = (v, false)) => codOf_no h
  have h2 := fun v (h : oneOf (allTo fs bAccept fs.length) = (v, true)) (k : codParse v.data.toList = none) => codOf_bad h k
  have h3 := fun v ws (h : oneOf (allTo fs bAccept fs.length) = (v, true)) (k : codParse v.data.toList = some ws) => codOf_yes h k
  have hvl : ∃ va vc, v = .slice va fs.length vc := by
    obtain ⟨va, vc, e, _⟩ := hF
    exact ⟨va, vc, e⟩
  obtain ⟨va, vc, rfl⟩ := hvl
  generalize oneOf (allTo fs bAccept fs.length) = O at *
  obtain ⟨x, one⟩ := O
  simp only at hO hsz
  have HP : Hid (∀ W, Below w.heap.size w W → Calls Tryz.prog 10 #[.string x] W fun e w' => PRet W.heap.size x.data.toList e w' ∧ Below W.heap.size W w') := Lib.hid fun W hW => impl_codparse x W hsz (hd.below hW (Nat.le_refl _)) (hc.below hW (Nat.le_refl _)) (he.below hW (Nat.le_refl _))
  have HO := Lib.hid hO; have H1 := Lib.hid h1; have H2 := Lib.hid h2; have H3 := Lib.hid h3
  clear hO h1 h2 h3 hd hc he hF hsz
  go_enter Tryz.func6, Tryz.ntmps6
  unfold bAccept at HO
  go_wp2_with fail
  refine HO.out.mono ?_
  rintro e w1 ⟨rfl, hb1⟩
  go_wp2_with fail
  refine (HP.out _ hb1).mono ?_
  rintro e w2 ⟨⟨u, ws, rfl, hws, ho⟩, hb2⟩
  have hb02 := hb1.trans (hb2.mono hb1.size)
  have HW := Lib.hid (wrow_of_own ho)
  have hul : ∃ ua uc, u = .slice ua ws.length uc := by
    obtain ⟨ua, uc, e, _⟩ := HW.out
    exact ⟨ua, uc, e⟩
  obtain ⟨ua, uc, rfl⟩ := hul
  clear ho hb1 hb2
  cases one
  · have HR := Lib.hid (H1.out x rfl)
    clear hws
    go_wp2
    go_ret
    exact ⟨by rw [HR.out]; rfl, hb02⟩
  · cases hp : codParse x.data.toList with
    | none =>
      have HR := Lib.hid (H2.out x rfl hp)
      simp only [Option.isSome_none]
      clear hp hws
      go_wp2
      go_ret
      exact ⟨by rw [HR.out]; rfl, hb02⟩
    | some ws2 =>
      rw [hp] at hws
      have hww : ws = ws2 := hws
      subst hww
      have HR := Lib.hid (H3.out x ws rfl hp)
      simp only [Option.isSome_some]
      clear hp hws
      go_wp2_with fail
      refine (impl_mask _ ws _ HW.out).mono ?_
      rintro e w3 ⟨rfl, hb3⟩
      have hb03 := hb02.trans (hb3.mono hb02.size)
      go_wp2
      go_ret
      exact ⟨by rw [HR.out]; rfl, hb03⟩
end Go.Proofs.YtlfcamapjeldjaaGreatDoor
