import Derived.Test.YtopmhacnopfifaaK1
import Derived.Deep.CutRange
import Derived.Deep.RegionHeld
namespace Go.Proofs.Ytopmhacnopfifaa.tm
open Go.ChangeShapes Go.WideShapes Go.ChangeAt Go.RowKit
set_option linter.unusedVariables false
set_option linter.unusedSimpArgs false
/-- four lists are held -/
structure HoldP (V wx : World) (hv hv' : Value) (hs : List Value) (l v1 v2 v3 : Value) (e : E) : Prop where
  own : wx.ownsRow 0 49 1 hv' (hs ++ [l, v1, v2, v3]).length (hs ++ [l, v1, v2, v3])
  fl : Fl wx l e
  f1 : Fl wx v1 e
  f2 : Fl wx v2 e
  f3 : Fl wx v3 e
  ap : Apart hv.ownBlock.toList V wx
  nw : ∀ k, hv'.ownBlock = some k → hv.ownBlock = some k ∨ V.heap.size ≤ k
theorem Fl.hold {W W' : World} {v hv : Value} {hs : List Value} {e : E} (h : Fl W v e) (own : W.ownsRow 0 49 1 hv hs.length hs) (gr : W.grownBy W' hv.ownBlock) : Fl W' v e := by
  refine h.apart (apart_grown gr) (fun k hk hv2 => ?_)
  obtain ⟨n, b, cap, rfl, o, hn⟩ := h.ex
  obtain ⟨c1, e1⟩ := own_typ o hv2
  obtain ⟨c2, e2⟩ := own_typ own (k := k) (by simpa using hk)
  rw [e1] at e2; simp at e2
theorem hold_end {V Wd W' : World} {hv hv' : Value} {hs : List Value} {l v1 v2 v3 : Value} {e : E} (a : Apart hv.ownBlock.toList V Wd) (fl : Fl Wd l e) (f1 : Fl Wd v1 e) (f2 : Fl Wd v2 e) (f3 : Fl Wd v3 e) (own : Wd.ownsRow 0 49 1 hv hs.length hs) (own' : W'.ownsRow 0 49 1 hv' (hs ++ [l, v1, v2, v3]).length (hs ++ [l, v1, v2, v3])) (gr : Wd.grownBy W' hv.ownBlock) (nw : NewOr Wd hv hv') : HoldP V W' hv hv' hs l v1 v2 v3 e :=
  ⟨own', fl.hold own gr, f1.hold own gr, f2.hold own gr, f3.hold own gr, a.trans (apart_grown gr), fun k hk => by
    rcases nw with h | ⟨q, h, hq⟩
    · exact .inl (h ▸ hk)
    · rw [h] at hk; simp at hk; subst hk; have := a.size; exact .inr (by omega)⟩
end Go.Proofs.Ytopmhacnopfifaa.tm
