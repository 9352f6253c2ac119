import Derived.Test.YthmloakkefiicaaRef
import Derived.Deep.RegionLaw
namespace Go.Proofs.Ythmloakkefiicaa.dk
open Go.ChangeShapes Go.WideShapes Go.ChangeAt Go.RowKit
theorem OwnB.set84 {w : World} {v : Value} {bs : List Int} {R i : Nat} {x : Value} {cur : Array Value} (h : OwnB w v bs) (hr : w.heap[R]? = some (.cells cur 84 (0, 0))) : OwnB (w.setCell ⟨R, i, none⟩ x) v bs :=
  h.apart ((Apart.refl [R] w).setCell (by simp) x) (fun k cur' hk e => by simp at hk; subst hk; rw [hr] at e; simp at e)
theorem RefAt.upd {w : World} {R : Nat} {r r' : Rf} (h : RefAt w R r) (i : Nat) (x : Value) (hc : (rcells r).toArray.setIfInBounds i x = (rcells r').toArray) (h1 : r'.n = r.n) (h2 : r'.first = r.first) (h3 : r'.fv = r.fv) (h4 : r'.log = r.log) (h5 : r'.lv = r.lv) : RefAt (w.setCell ⟨R, i, none⟩ x) R r' := by
  have hx : ∀ k, r.lv.ownBlock = some k → k ∉ [R] := by
    intro k hk hm
    simp at hm; subst hm
    obtain ⟨cur, e⟩ := own_typ h.own hk
    rw [h.hr] at e; simp at e
  refine ⟨by rw [heap_setCell_same _ _ _ _ _ _ h.hr, hc], by rw [h2, h3]; exact h.hf.set84 h.hr, ?_, ?_, by rw [h1]; exact h.hn⟩
  · rw [h4, h5]; exact own_apart h.own ((Apart.refl [R] w).setCell (by simp) x) hx
  · intro y hy
    rw [h4] at hy
    rw [h1]
    exact ⟨(h.each y hy).1.set84 h.hr, (h.each y hy).2⟩
theorem RefAt.put3 {w : World} {R : Nat} {r : Rf} (h : RefAt w R r) (b : Bool) : RefAt (w.setCell ⟨R, 3, none⟩ (.bool b)) R { r with on := b } := h.upd 3 _ rfl rfl rfl rfl rfl rfl
theorem RefAt.put4 {w : World} {R : Nat} {r : Rf} (h : RefAt w R r) (b : Int) : RefAt (w.setCell ⟨R, 4, none⟩ (.int .i64 b)) R { r with left := b } := h.upd 4 _ rfl rfl rfl rfl rfl rfl
theorem RefAt.put5 {w : World} {R : Nat} {r : Rf} (h : RefAt w R r) (b : Int) : RefAt (w.setCell ⟨R, 5, none⟩ (.int .i64 b)) R { r with torn := b } := h.upd 5 _ rfl rfl rfl rfl rfl rfl
def Rf.offed (r : Rf) : Rf := { r with on := false, left := -1 }
theorem roff_ref {w : World} {R : Nat} {r : Rf} (h : RefAt w R r) :
    Calls Try.prog 49 #[.pointer (some ⟨R, 0, none⟩)] w fun e w' => e = .returned (.tuple #[]) ∧ RefAt w' R r.offed ∧ Apart [R] w w' := by
  refine (roff_any h).mono ?_
  rintro e w' ⟨rfl, rfl⟩
  exact ⟨rfl, (h.put3 false).put4 (-1), ((Apart.refl _ _).setCell (by simp) _).setCell (by simp) _⟩
theorem rstart_ref {w : World} {R : Nat} {r : Rf} (h : RefAt w R r) :
    Calls Try.prog 50 #[.pointer (some ⟨R, 0, none⟩)] w fun e w' => e = .returned (.tuple #[]) ∧ RefAt w' R { r with on := true } ∧ Apart [R] w w' := by
  refine (rstart_any h).mono ?_
  rintro e w' ⟨rfl, rfl⟩
  exact ⟨rfl, h.put3 true, (Apart.refl _ _).setCell (by simp) _⟩
theorem rarm_off {w : World} {R : Nat} {r : Rf} (h : RefAt w R r) (a t : Int) (ho : r.on = false) :
    Calls Try.prog 48 #[.pointer (some ⟨R, 0, none⟩), .int .i64 a, .int .i64 t] w fun e w' => e = .returned (.tuple #[]) ∧ w' = w := by
  have h3 := h.r3
  rw [ho] at h3
  go_enter Try.func48, Try.ntmps48
  go_wp2
  exact bodyPost_ret (v := .tuple #[]) (by simp [results, Try.results48, go_sem]) rfl ⟨rfl, rfl⟩
theorem rarm_walk {w : World} {R : Nat} {r : Rf} (h : RefAt w R r) (a t : Int) (ho : r.on = true) :
    Calls Try.prog 48 #[.pointer (some ⟨R, 0, none⟩), .int .i64 a, .int .i64 t] w fun e w' => e = .returned (.tuple #[]) ∧ w' = (w.setCell ⟨R, 4, none⟩ (.int .i64 (if a < -1 then -1 else a))).setCell ⟨R, 5, none⟩ (.int .i64 (if t < 0 then 0 else if 512 < t then 512 else t)) := by
  have h3 := h.r3
  rw [ho] at h3
  have h4 := h.r4
  have h5 := h.r5
  have f4 := h.rf 4
  have f5 := h.rf 5
  clear ho
  by_cases c0 : a < -1
  · rw [if_pos c0]
    by_cases c1 : t < 0
    · rw [if_pos c1]
      go_enter Try.func48, Try.ntmps48
      go_wp2
      go_end0
      exact ⟨rfl, rfl⟩
    · rw [if_neg c1]
      by_cases c2 : 512 < t
      · rw [if_pos c2]
        go_enter Try.func48, Try.ntmps48
        go_wp2
        go_end0
        exact ⟨rfl, rfl⟩
      · rw [if_neg c2]
        go_enter Try.func48, Try.ntmps48
        go_wp2
        go_end0
        exact ⟨rfl, rfl⟩
  · rw [if_neg c0]
    by_cases c1 : t < 0
    · rw [if_pos c1]
      go_enter Try.func48, Try.ntmps48
      go_wp2
      go_end0
      exact ⟨rfl, rfl⟩
    · rw [if_neg c1]
      by_cases c2 : 512 < t
      · rw [if_pos c2]
        go_enter Try.func48, Try.ntmps48
        go_wp2
        go_end0
        exact ⟨rfl, rfl⟩
      · rw [if_neg c2]
        go_enter Try.func48, Try.ntmps48
        go_wp2
        go_end0
        exact ⟨rfl, rfl⟩
theorem rarm_on {w : World} {R : Nat} {r : Rf} (h : RefAt w R r) (a t : Int) (ho : r.on = true) :
    Calls Try.prog 48 #[.pointer (some ⟨R, 0, none⟩), .int .i64 a, .int .i64 t] w fun e w' => e = .returned (.tuple #[]) ∧ RefAt w' R { r with left := max a (-1), torn := min (max t 0) 512 } ∧ Apart [R] w w' := by
  refine (rarm_walk h a t ho).mono ?_
  rintro e w' ⟨rfl, rfl⟩
  have e1 : (if t < 0 then (0 : Int) else if 512 < t then 512 else t) = min (max t 0) 512 := by
    split
    · omega
    · split <;> omega
  have e2 : (if a < -1 then (-1 : Int) else a) = max a (-1) := by split <;> omega
  rw [e1, e2]
  exact ⟨rfl, (h.put4 _).put5 _, ((Apart.refl _ _).setCell (by simp) _).setCell (by simp) _⟩
theorem own_shape {w : World} {base e size n : Nat} {v : Value} {xs : List Value} (h : w.ownsRow base e size v n xs) : ∃ p c, v = .slice p n c := by
  obtain ⟨hl, ⟨hv, hz⟩ | ⟨g, cap, cur, rfl, _⟩⟩ := h
  · exact ⟨none, 0, by rw [hv, hz]⟩
  · exact ⟨_, _, rfl⟩
theorem rwrites_any {w : World} {R : Nat} {r : Rf} (h : RefAt w R r) :
    Calls Try.prog 53 #[.pointer (some ⟨R, 0, none⟩)] w fun e w' => e = .returned (.int .i64 r.log.length) ∧ w' = w := by
  have h2 := h.r2
  obtain ⟨p, c, hv⟩ := own_shape h.own
  rw [hv] at h2
  go_enter Try.func53, Try.ntmps53
  go_wp2
  go_ret
  exact ⟨rfl, rfl⟩
theorem rwrite_off {w : World} {R : Nat} {r : Rf} (h : RefAt w R r) (s : Int) (p : Option Addr) (l c : Nat) (ho : r.on = false) :
    Calls Try.prog 47 #[.pointer (some ⟨R, 0, none⟩), .int .i64 s, .slice p l c] w fun e w' => e = .returned (.int .i64 3) ∧ w' = w := by
  have h3 := h.r3
  rw [ho] at h3
  go_enter Try.func47, Try.ntmps47
  go_wp2
  go_ret
  exact ⟨rfl, rfl⟩
theorem rwrite_sector {w : World} {R : Nat} {r : Rf} (h : RefAt w R r) (s : Int) (p : Option Addr) (l c : Nat) (ho : r.on = true) (hs : s < 0 ∨ (r.n : Int) ≤ s) :
    Calls Try.prog 47 #[.pointer (some ⟨R, 0, none⟩), .int .i64 s, .slice p l c] w fun e w' => e = .returned (.int .i64 10) ∧ w' = w := by
  have h3 := h.r3
  have h0 := h.r0
  rw [ho] at h3
  rcases hs with hs | hs
  · go_enter Try.func47, Try.ntmps47
    go_wp2
    go_ret
    exact ⟨rfl, rfl⟩
  · by_cases hn : s < 0
    · omega
    · go_enter Try.func47, Try.ntmps47
      go_wp2
      go_ret
      exact ⟨rfl, rfl⟩
theorem rwrite_arg {w : World} {R : Nat} {r : Rf} (h : RefAt w R r) (s : Int) (p : Option Addr) (l c : Nat) (ho : r.on = true) (hs0 : 0 ≤ s) (hs1 : s < r.n) (hl : l ≠ 512) :
    Calls Try.prog 47 #[.pointer (some ⟨R, 0, none⟩), .int .i64 s, .slice p l c] w fun e w' => e = .returned (.int .i64 1) ∧ w' = w := by
  have h3 := h.r3
  have h0 := h.r0
  rw [ho] at h3
  have hl' : ((l : Int) != 512) = true := by rw [bne_iff_ne]; omega
  clear hl
  go_enter Try.func47, Try.ntmps47
  go_wp2
  go_ret
  exact ⟨rfl, rfl⟩
end Go.Proofs.Ythmloakkefiicaa.dk
