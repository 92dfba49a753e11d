/- The law on what lies under a path, over drawn inputs. -/
import Derived.Test.YthmljebpjohibaaDoorCan9
import Derived.Test.YthmljebpjohibaaDoorCanP
import Derived.Test.YthmljebpjohibaaDoorDrawU
import Derived.Test.YthmljebpjohibaaDoorGdOk
namespace Go.Proofs.YthmljebpjohibaaDoor
open Go.RowKit

theorem und_none : canV none = .tuple #[.string ⟨#[]⟩, .bool false] := rfl
theorem und_some (c : List UInt8) : canV (some c) = .tuple #[.string ⟨c.toArray⟩, .bool true] := rfl

set_option maxRecDepth 100000 in
set_option maxHeartbeats 6400000 in
theorem law_uriunder (a : Option Addr) (len cap : Nat) (zs : List Int) (a2 : Option Addr) (len2 cap2 : Nat) (zs2 : List Int) (w : World) (h : IsRow .u8 w a len cap zs) (h2 : IsRow .u8 w a2 len2 cap2 zs2) (hcls : Cls w) :
    Calls Tryd.prog 6 #[.slice a len cap, .slice a2 len2 cap2] w fun e w' => e = .returned (.bool true) ∧ Below w.heap.size w w' := by
  have hl := isrow_len h
  have hl2 := isrow_len h2
  by_cases hbig : 1048576 < len
  · clear hcls h h2
    go_enter Tryd.func6, Tryd.ntmps6
    go_wp2_with fail
    go_ret
    exact ⟨rfl, Below.refl _ _⟩
  · by_cases hbig2 : 1048576 < len2
    · clear hcls h h2
      go_enter Tryd.func6, Tryd.ntmps6
      go_wp2_with fail
      go_ret
      exact ⟨rfl, Below.refl _ _⟩
    · have c1 := draw_under a len cap zs w h
      have HC : Hid (∀ W, Below w.heap.size w W → Cls W) := Lib.hid (fun W hW => hcls.below hW (Nat.le_refl _))
      have H2 : Hid (∀ W, Below w.heap.size w W → IsRow .u8 W a2 len2 cap2 zs2) := Lib.hid (fun W hW => isrow_below h2 hW)
      clear hcls h h2
      go_enter Tryd.func6, Tryd.ntmps6
      go_wp2_with fail
      refine c1.mono ?_
      rintro e w1 ⟨t, s, rfl, ht, hs, hb1⟩
      clear c1
      have c1 := draw_under a2 len2 cap2 zs2 w1 (H2.out w1 hb1)
      go_wp2_with fail
      refine c1.mono ?_
      rintro e w2 ⟨m, l, rfl, hm, hlo, hb⟩
      have hb2 := hb1.trans (hb.mono hb1.size)
      clear hb c1
      have pl : ∀ x : ByteArray, x.size ≤ 50 → (ByteArray.mk (pathL x.data.toList).toArray).size ≤ 50 := fun x hx => by
        have := pathL_len x.data.toList; rw [size_len] at hx ⊢; simp only; omega
      have u1 := fun W => impl_under t s W (by omega) (by omega)
      have u2 := fun W => spec_under t s W (by omega) (by omega)
      have p1 := fun W => impl_path s W (by omega)
      have p2 := fun W => spec_path s W (by unfold maxLen; omega)
      have u3 := fun W => impl_under ⟨(pathL s.data.toList).toArray⟩ s W (by have := pl s hs; omega) (by omega)
      have u4 := fun W => impl_under t ⟨(pathL s.data.toList).toArray⟩ W (by omega) (by have := pl s hs; omega)
      have k1 := fun W hW => impl_canon s W (by omega) (HC.out W hW)
      have u5 := fun W => impl_under t m W (by omega) (by omega)
      have p3 := fun W => impl_path m W (by omega)
      have u6 := fun W => impl_under ⟨(pathL m.data.toList).toArray⟩ l W (by have := pl m hm; omega) (by omega)
      have u7 := fun W => impl_under t l W (by omega) (by omega)
      simp only at u3 u4 u6
      rw [under_self] at u3
      rw [under_path] at u4
      have htr : ∀ _ : underB t.data.toList m.data.toList = true, ∀ _ : underB (pathL m.data.toList) l.data.toList = true, underB t.data.toList l.data.toList = true := fun h1 h2 => under_trans h1 h2
      have hlst : ∀ c, canonL s.data.toList = some c → c.length ≤ 40 ∧ underB [47] c = true := fun c hc => ⟨(canon_form hc).2.1, under_least hc⟩
      generalize underB t.data.toList s.data.toList = b1 at *
      generalize underB t.data.toList m.data.toList = b2 at *
      generalize underB (pathL m.data.toList) l.data.toList = b3 at *
      generalize underB t.data.toList l.data.toList = b4 at *
      generalize canonL s.data.toList = R at *
      unfold strV at p1 p2 p3
      generalize ByteArray.mk (pathL s.data.toList).toArray = ps at *
      generalize ByteArray.mk (pathL m.data.toList).toArray = pm at *
      clear pl
      go_wp2_with fail
      refine (u1 _).mono ?_
      rintro e w3 ⟨rfl, hb⟩
      have hb3 := hb2.trans (hb.mono hb2.size)
      clear hb
      go_wp2_with fail
      refine (u2 _).mono ?_
      rintro e w4 ⟨rfl, n4, hw4⟩
      have hb4 : Below w.heap.size w w4 := (by rw [hw4]; exact below_drewN hb3)
      clear hw4
      go_wp2_with fail
      refine (p1 _).mono ?_
      rintro e w5 ⟨rfl, hb⟩
      have hb5 := hb4.trans (hb.mono hb4.size)
      clear hb
      go_wp2_with fail
      refine (p2 _).mono ?_
      rintro e w6 ⟨rfl, n6, hw6⟩
      have hb6 : Below w.heap.size w w6 := (by rw [hw6]; exact below_drewN hb5)
      clear hw6
      go_wp2_with fail
      refine (p1 _).mono ?_
      rintro e w7 ⟨rfl, hb⟩
      have hb7 := hb6.trans (hb.mono hb6.size)
      clear hb
      go_wp2_with fail
      refine (u3 _).mono ?_
      rintro e w8 ⟨rfl, hb⟩
      have hb8 := hb7.trans (hb.mono hb7.size)
      clear hb
      go_wp2_with fail
      refine (u1 _).mono ?_
      rintro e w9 ⟨rfl, hb⟩
      have hb9 := hb8.trans (hb.mono hb8.size)
      clear hb
      go_wp2_with fail
      refine (p1 _).mono ?_
      rintro e w10 ⟨rfl, hb⟩
      have hb10 := hb9.trans (hb.mono hb9.size)
      clear hb
      go_wp2_with fail
      refine (u4 _).mono ?_
      rintro e w11 ⟨rfl, hb⟩
      have hb11 := hb10.trans (hb.mono hb10.size)
      clear hb
      clear u1 u2 p1 p2 u3 u4
      cases R with
      | none =>
        rw [und_none] at k1
        clear hlst
        go_wp2_with fail
        refine (k1 _ hb11).mono ?_
        rintro e w12 ⟨rfl, hb⟩
        have hb12 := hb11.trans (hb.mono hb11.size)
        clear hb
        clear k1
        cases b2
        · clear u6 u7 p3 htr
          go_wp2_with fail
          refine (u5 _).mono ?_
          rintro e w13 ⟨rfl, hb⟩
          have hb13 := hb12.trans (hb.mono hb12.size)
          clear hb
          clear u5
          go_wp2
          go_ret
          exact ⟨rfl, hb13⟩
        · cases b3
          · clear u7 htr
            go_wp2_with fail
            refine (u5 _).mono ?_
            rintro e w13 ⟨rfl, hb⟩
            have hb13 := hb12.trans (hb.mono hb12.size)
            clear hb
            go_wp2_with fail
            refine (p3 _).mono ?_
            rintro e w14 ⟨rfl, hb⟩
            have hb14 := hb13.trans (hb.mono hb13.size)
            clear hb
            go_wp2_with fail
            refine (u6 _).mono ?_
            rintro e w15 ⟨rfl, hb⟩
            have hb15 := hb14.trans (hb.mono hb14.size)
            clear hb
            clear u5 u6 p3
            go_wp2
            go_ret
            exact ⟨rfl, hb15⟩
          · have h4 := htr rfl rfl
            subst h4
            clear htr
            go_wp2_with fail
            refine (u5 _).mono ?_
            rintro e w13 ⟨rfl, hb⟩
            have hb13 := hb12.trans (hb.mono hb12.size)
            clear hb
            go_wp2_with fail
            refine (p3 _).mono ?_
            rintro e w14 ⟨rfl, hb⟩
            have hb14 := hb13.trans (hb.mono hb13.size)
            clear hb
            go_wp2_with fail
            refine (u6 _).mono ?_
            rintro e w15 ⟨rfl, hb⟩
            have hb15 := hb14.trans (hb.mono hb14.size)
            clear hb
            go_wp2_with fail
            refine (u7 _).mono ?_
            rintro e w16 ⟨rfl, hb⟩
            have hb16 := hb15.trans (hb.mono hb15.size)
            clear hb
            clear u5 u6 u7 p3
            go_wp2
            go_ret
            exact ⟨rfl, hb16⟩
      | some c =>
        rw [und_some] at k1
        obtain ⟨q1, q2⟩ := hlst c rfl
        clear hlst
        have u8 := fun W => impl_under ⟨#[47]⟩ ⟨c.toArray⟩ W (by decide) (by rw [size_len]; simp only; omega)
        simp only at u8
        rw [q2] at u8
        clear q1 q2
        generalize ByteArray.mk c.toArray = cs at *
        go_wp2_with fail
        refine (k1 _ hb11).mono ?_
        rintro e w12 ⟨rfl, hb⟩
        have hb12 := hb11.trans (hb.mono hb11.size)
        clear hb
        clear k1
        go_wp2_with fail
        refine (u8 _).mono ?_
        rintro e w13 ⟨rfl, hb⟩
        have hb13 := hb12.trans (hb.mono hb12.size)
        clear hb
        clear u8
        cases b2
        · clear u6 u7 p3 htr
          go_wp2_with fail
          refine (u5 _).mono ?_
          rintro e w14 ⟨rfl, hb⟩
          have hb14 := hb13.trans (hb.mono hb13.size)
          clear hb
          clear u5
          go_wp2
          go_ret
          exact ⟨rfl, hb14⟩
        · cases b3
          · clear u7 htr
            go_wp2_with fail
            refine (u5 _).mono ?_
            rintro e w14 ⟨rfl, hb⟩
            have hb14 := hb13.trans (hb.mono hb13.size)
            clear hb
            go_wp2_with fail
            refine (p3 _).mono ?_
            rintro e w15 ⟨rfl, hb⟩
            have hb15 := hb14.trans (hb.mono hb14.size)
            clear hb
            go_wp2_with fail
            refine (u6 _).mono ?_
            rintro e w16 ⟨rfl, hb⟩
            have hb16 := hb15.trans (hb.mono hb15.size)
            clear hb
            clear u5 u6 p3
            go_wp2
            go_ret
            exact ⟨rfl, hb16⟩
          · have h4 := htr rfl rfl
            subst h4
            clear htr
            go_wp2_with fail
            refine (u5 _).mono ?_
            rintro e w14 ⟨rfl, hb⟩
            have hb14 := hb13.trans (hb.mono hb13.size)
            clear hb
            go_wp2_with fail
            refine (p3 _).mono ?_
            rintro e w15 ⟨rfl, hb⟩
            have hb15 := hb14.trans (hb.mono hb14.size)
            clear hb
            go_wp2_with fail
            refine (u6 _).mono ?_
            rintro e w16 ⟨rfl, hb⟩
            have hb16 := hb15.trans (hb.mono hb15.size)
            clear hb
            go_wp2_with fail
            refine (u7 _).mono ?_
            rintro e w17 ⟨rfl, hb⟩
            have hb17 := hb16.trans (hb.mono hb16.size)
            clear hb
            clear u5 u6 u7 p3
            go_wp2
            go_ret
            exact ⟨rfl, hb17⟩
namespace Lw
theorem fnUriUnder (w : World) (hL : laidMetH Tryd.prog Rows.fnUriUnderRow.laid w) (a : Option Addr) (len cap : Nat) (zs : List Int) (h : IsRow .u8 w a len cap zs) (a2 : Option Addr) (len2 cap2 : Nat) (zs2 : List Int) (h2 : IsRow .u8 w a2 len2 cap2 zs2) :
    Calls Tryd.prog 6 #[.slice a len cap, .slice a2 len2 cap2] w fun e w' => e = .returned (.bool true) ∧ Below w.heap.size w w' :=
  law_uriunder a len cap zs a2 len2 cap2 zs2 w h h2 (cls_of_head hL)
end Lw
end Go.Proofs.YthmljebpjohibaaDoor
