import Derived.Test.YtabidoopodbknaaGreatDoorGsc
-- from XHfP
/- Requests in two forms: what is read of the second one. -/
namespace Go.Proofs.YtabidoopodbknaaGreatDoor

/-- The second form of a request's text. -/
def twinLs (host target : List UInt8) (fs : List (List UInt8 × List UInt8)) : List (List UInt8) :=
  (bGet ++ 32 :: (bHttp ++ (host ++ [58, 56, 48]) ++ target)) :: ([72, 79, 83, 84, 58, 32] ++ host) :: fs.map fun f => f.1 ++ 58 :: f.2
def twinL (host target : List UInt8) (fs : List (List UInt8 × List UInt8)) : List UInt8 := joinL (twinLs host target fs) ++ 10 :: []
/-- A field as it is written in the second form. -/
def TwF (f : List UInt8 × List UInt8) : Prop := (58 : UInt8) ∉ f.1 ∧ (10 : UInt8) ∉ f.1 ∧ lowL f.1 = f.1 ∧ ownB f.1 = false ∧ (10 : UInt8) ∉ f.2
def twFd (f : List UInt8 × List UInt8) : Fd := (⟨f.1.toArray⟩, ⟨(Lib.trimB f.2 32).toArray⟩)

theorem tw_rd {f : List UInt8 × List UInt8} (h : TwF f) : rdF (f.1 ++ 58 :: f.2) = twFd f := by
  unfold rdF twFd
  rw [cutL_yes _ _ 58 h.1]
  simp only [h.2.2.1]
theorem tw_host {host : List UInt8} (h : hostB host = true) : rdF ([72, 79, 83, 84, 58, 32] ++ host) = (⟨bHost.toArray⟩, ⟨host.toArray⟩) := by
  have := rd_line (u := [72, 79, 83, 84]) (n := bHost) (v := host) (by decide) (host_val h) (by decide) (by decide)
  simpa using this
theorem tw_first {host target r : List UInt8} (h : hostB host = true) (hr : target = 47 :: r) (hc : canonL target = some target) :
    firstL (bGet ++ 32 :: (bHttp ++ (host ++ [58, 56, 48]) ++ target)) = some (bGet, target, host) := by
  have hn := host_not h
  have hp : bHttp.isPrefixOf (bHttp ++ (host ++ [58, 56, 48]) ++ target) = true := by
    rw [List.isPrefixOf_iff_prefix, List.append_assoc]; exact List.prefix_append ..
  have hd : (bHttp ++ (host ++ [58, 56, 48]) ++ target).drop 7 = (host ++ [58, 56, 48]) ++ 47 :: r := by
    rw [hr, List.append_assoc]; exact List.drop_left (l₁ := bHttp)
  have hport := hostR_yes (host_port h)
  simp only at hport
  unfold firstL
  rw [cutL_yes _ _ 32 (by decide)]
  simp only
  rw [if_pos ⟨trivial, by decide⟩]
  unfold targetL
  rw [if_pos hp, hd, cutL_yes _ _ 47 (by simp only [List.mem_append, not_or]; exact ⟨hn.2.2.2, by decide⟩)]
  simp only
  rw [hport.2, ← hr, hc]
  simp [h]

theorem tw_lines {host target r : List UInt8} {fs : List (List UInt8 × List UInt8)} (h : hostB host = true) (_hr : target = 47 :: r) (hc : canonL target = some target) (hf : ∀ f ∈ fs, TwF f) : ∀ l ∈ twinLs host target fs, l ≠ [] ∧ (10 : UInt8) ∉ l := by
  have hn := host_not h
  have hb := (canon_bytes hc).2
  have ht : (10 : UInt8) ∉ target := fun h10 => (hb 10 h10).1 rfl
  intro l hl
  unfold twinLs at hl
  rcases List.mem_cons.1 hl with rfl | hl
  · refine ⟨by simp, ?_⟩
    simp only [List.mem_append, List.mem_cons, not_or]
    exact ⟨by decide, by decide, ⟨by decide, hn.2.2.1, by decide⟩, ht⟩
  · rcases List.mem_cons.1 hl with rfl | hl
    · refine ⟨by simp, ?_⟩
      simp only [List.mem_append, not_or]
      exact ⟨by decide, hn.2.2.1⟩
    · obtain ⟨f, hfm, rfl⟩ := List.mem_map.1 hl
      obtain ⟨k1, k2, k3, k4, k5⟩ := hf f hfm
      refine ⟨by simp, ?_⟩
      simp only [List.mem_append, List.mem_cons, not_or]
      exact ⟨k2, by decide, k5⟩

/-- What is read of the second form, if it is read. -/
theorem twin_read {host target r : List UInt8} {fs : List (List UInt8 × List UInt8)} {g : Hd} {u : Nat} (h : hostB host = true) (hr : target = 47 :: r) (hc : canonL target = some target) (hf : ∀ f ∈ fs, TwF f)
    (hg : readL (twinL host target fs) = (g, u, 1)) : g.verb = ⟨bGet.toArray⟩ ∧ g.target = ⟨target.toArray⟩ ∧ g.body = ⟨#[]⟩ ∧ g.fs = fs.map twFd := by
  have hls := tw_lines h hr hc hf
  unfold readL twinL at hg
  rcases lines_all (twinLs host target fs) 302 [] 0 (by omega) hls with hb | he
  · rw [if_pos hb] at hg; simp at hg
  · rw [he] at hg
    simp only at hg
    split at hg
    · simp at hg
    · rw [if_neg (by decide)] at hg
      unfold twinLs at hg
      rw [whole_cons, tw_first h hr hc] at hg
      split at hg
      · simp at hg
      · rename_i h0 n hw
        split at hw
        · rename_i v p nm fs' h1 h2
          simp only [Option.some.injEq, Prod.mk.injEq] at h1
          obtain ⟨rfl, rfl, rfl⟩ := h1
          have hfs := fields_some h2
          split at hw
          · split at hw
            · obtain ⟨m, hm, hm2⟩ := Option.map_eq_some_iff.1 hw
              simp only [Prod.mk.injEq] at hm2
              obtain ⟨hm2, rfl⟩ := hm2
              split at hg
              · simp at hg
              · split at hg
                · simp only [Prod.mk.injEq] at hg
                  obtain ⟨rfl, _⟩ := hg
                  subst hm2
                  refine ⟨rfl, rfl, ?_, ?_⟩
                  · simp only
                    rw [List.drop_of_length_le (by simp)]
                    simp
                  · simp only
                    rw [hfs, List.map_cons, tw_host h, List.map_map]
                    unfold othersL
                    rw [List.filter_cons_of_neg (p := fun f : Fd => !ownB f.1.data.toList) (show ¬ (!ownB bHost) = true from by decide), List.filter_map]
                    have e1 : fs.filter ((fun f : Fd => !ownB f.1.data.toList) ∘ (rdF ∘ fun f : List UInt8 × List UInt8 => f.1 ++ 58 :: f.2)) = fs := by
                      rw [List.filter_eq_self]
                      intro f hfm
                      have hk := hf f hfm
                      simp only [Function.comp_apply]
                      rw [tw_rd hk]
                      simp [twFd, hk.2.2.2.1]
                    rw [e1]
                    exact List.map_congr_left fun f hfm => tw_rd (hf f hfm)
                · simp at hg
            · cases hw
          · cases hw
        · cases hw
end Go.Proofs.YtabidoopodbknaaGreatDoor

