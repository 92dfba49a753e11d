/- Walks: the set of codings that a request would take, by the specification. -/
import Derived.Test.YtlfcamapjeldjaaGreatDoorCodOf
import Derived.Test.YtlfcamapjeldjaaGreatDoorMaskS
namespace Go.Proofs.YtlfcamapjeldjaaGreatDoor
open Go.RowKit Go.Maps

set_option maxHeartbeats 1600000 in
theorem spec_codof (v : Value) (fs : List Fd) (w : World) (hF : FRow w v fs) (hok : FOk fs 1048576) (hn : fs.length ≤ 2000000) :
    Calls Tryz.prog 7 #[v] w fun e w' => e = .returned (.int .i64 (codOfF fs : Int)) ∧ Below w.heap.size w w' := by
  have hO := spec_one v fs bAccept w hF hn
  have hsz := one_sizeK hok bAccept
  have h1 := fun v (h : oneOf (allTo fs bAccept fs.length) = (v, false)) => codOf_no h
  have h2 := fun v (h : oneOf (allTo fs bAccept fs.length) = (v, true)) (k : codParse v.data.toList = none) => codOf_bad h k
  have h3 := fun v ws (h : oneOf (allTo fs bAccept fs.length) = (v, true)) (k : codParse v.data.toList = some ws) => codOf_yes h k
  have hvl : ∃ va vc, v = .slice va fs.length vc := by
    obtain ⟨va, vc, e, _⟩ := hF
    exact ⟨va, vc, e⟩
  obtain ⟨va, vc, rfl⟩ := hvl
  generalize oneOf (allTo fs bAccept fs.length) = O at *
  obtain ⟨x, one⟩ := O
  simp only at hO hsz
  have HP : Hid (∀ W, Calls Tryz.prog 11 #[.string x] W fun e w' => PRet W.heap.size x.data.toList e w' ∧ Below W.heap.size W w') := Lib.hid fun W => spec_codparse x W hsz
  have HO := Lib.hid hO; have H1 := Lib.hid h1; have H2 := Lib.hid h2; have H3 := Lib.hid h3
  clear hO h1 h2 h3 hF hsz
  go_enter Tryz.func7, Tryz.ntmps7
  unfold bAccept at HO
  go_wp2_with fail
  refine HO.out.mono ?_
  rintro e w1 ⟨rfl, hb1⟩
  cases one
  · have HR := Lib.hid (H1.out x rfl)
    go_wp2
    go_ret
    exact ⟨by rw [HR.out]; rfl, hb1⟩
  · go_wp2_with fail
    refine (HP.out _).mono ?_
    rintro e w2 ⟨⟨u, ws, rfl, hws, ho⟩, hb2⟩
    have hb02 := hb1.trans (hb2.mono hb1.size)
    have HW := Lib.hid (wrow_of_own ho)
    have hul : ∃ ua uc, u = .slice ua ws.length uc := by
      obtain ⟨ua, uc, e, _⟩ := HW.out
      exact ⟨ua, uc, e⟩
    obtain ⟨ua, uc, rfl⟩ := hul
    clear ho hb1 hb2
    cases hp : codParse x.data.toList with
    | none =>
      have HR := Lib.hid (H2.out x rfl hp)
      simp only [Option.isSome_none]
      clear hp hws
      go_wp2
      go_ret
      exact ⟨by rw [HR.out]; rfl, hb02⟩
    | some ws2 =>
      rw [hp] at hws
      have hww : ws = ws2 := hws
      subst hww
      have HR := Lib.hid (H3.out x ws rfl hp)
      simp only [Option.isSome_some]
      clear hp hws
      go_wp2_with fail
      refine (spec_mask _ ws _ HW.out).mono ?_
      rintro e w3 ⟨rfl, n3, rfl⟩
      go_wp2
      go_ret
      exact ⟨by rw [HR.out]; rfl, below_drewN hb02⟩
end Go.Proofs.YtlfcamapjeldjaaGreatDoor
