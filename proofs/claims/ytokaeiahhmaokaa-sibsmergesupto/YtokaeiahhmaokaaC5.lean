import Derived.Test.YtokaeiahhmaokaaC4
namespace Go.Proofs.Ytokaeiahhmaokaa.ds
open Go.ChangeShapes Go.WideShapes Go.ChangeAt Go.RowKit Go.Sort
set_option linter.unusedVariables false
set_option linter.unusedSimpArgs false
/-- a list that is being lent -/
structure LI (w0 w : World) (LB : Nat) (s vv xx : Sl) (fs : List E) (vs xs : List Sl) (rs : List Wr) (i : Nat) : Prop where
  lr : LR w0 w LB s vv xx (flatE fs) (vs.map Sl.v) (xs.map Sl.v)
  fl : fs.length = i
  sn : s.n = i
  vl : vs.length = i
  vvn : vv.n = i
  xl : xs.length = i
  xxn : xx.n = i
  one : ∀ j, j < i → One w (gE fs j) (gS vs j) (gS xs j) (gR rs j)
  newv : ∀ j, j < i → ∀ k, (gS vs j).v.ownBlock = some k → w0.heap.size ≤ k
  newx : ∀ j, j < i → ∀ k, (gS xs j).v.ownBlock = some k → w0.heap.size ≤ k
  incv : ∀ j m, j < m → m < i → ∀ k q, (gS vs j).v.ownBlock = some k → (gS vs m).v.ownBlock = some q → k < q
  incx : ∀ j m, j < m → m < i → ∀ k q, (gS xs j).v.ownBlock = some k → (gS xs m).v.ownBlock = some q → k < q
theorem LI.step {w0 w W : World} {LB : Nat} {s vv xx s' vv' xx' : Sl} {fs : List E} {vs xs : List Sl} {rs : List Wr} {i : Nat} (h : LI w0 w LB s vv xx fs vs xs rs i) (e : E) (v x : Sl)
    (lr : LR w0 W LB s' vv' xx' (flatE (fs ++ [e])) ((vs ++ [v]).map Sl.v) ((xs ++ [x]).map Sl.v)) (kt : KeepT w W) (o : One W e v x (gR rs i)) (nv : ∀ k, v.v.ownBlock = some k → w.heap.size ≤ k) (nx : ∀ k, x.v.ownBlock = some k → w.heap.size ≤ k) (h1 : s'.n = i + 1) (h2 : vv'.n = i + 1) (h3 : xx'.n = i + 1) :
    LI w0 W LB s' vv' xx' (fs ++ [e]) (vs ++ [v]) (xs ++ [x]) rs (i + 1) := by
  have ef : gE (fs ++ [e]) i = e := by have := gE_at fs e; rwa [h.fl] at this
  have ev : gS (vs ++ [v]) i = v := by have := gS_at vs v; rwa [h.vl] at this
  have ex : gS (xs ++ [x]) i = x := by have := gS_at xs x; rwa [h.xl] at this
  have lf : ∀ j, j < i → gE (fs ++ [e]) j = gE fs j := fun j hj => gE_left _ _ _ (by rw [h.fl]; exact hj)
  have lv : ∀ j, j < i → gS (vs ++ [v]) j = gS vs j := fun j hj => gS_left _ _ _ (by rw [h.vl]; exact hj)
  have lx : ∀ j, j < i → gS (xs ++ [x]) j = gS xs j := fun j hj => gS_left _ _ _ (by rw [h.xl]; exact hj)
  have hs := h.lr.ap.size
  refine ⟨lr, by simp [h.fl], h1, by simp [h.vl], h2, by simp [h.xl], h3, fun j hj => ?_, fun j hj k hk => ?_, fun j hj k hk => ?_, fun j m hjm hm k q hk hq => ?_, fun j m hjm hm k q hk hq => ?_⟩
  · by_cases e1 : j = i
    · subst e1; rw [ef, ev, ex]; exact o
    · rw [lf j (by omega), lv j (by omega), lx j (by omega)]; exact (h.one j (by omega)).keptK kt
  · by_cases e1 : j = i
    · subst e1; rw [ev] at hk; exact Nat.le_trans hs (nv k hk)
    · rw [lv j (by omega)] at hk; exact h.newv j (by omega) k hk
  · by_cases e1 : j = i
    · subst e1; rw [ex] at hk; exact Nat.le_trans hs (nx k hk)
    · rw [lx j (by omega)] at hk; exact h.newx j (by omega) k hk
  · rw [lv j (by omega)] at hk
    by_cases e1 : m = i
    · subst e1; rw [ev] at hq
      have a := nv q hq
      have b := ((h.one j hjm).vo.lt k hk).2
      omega
    · rw [lv m (by omega)] at hq; exact h.incv j m hjm (by omega) k q hk hq
  · rw [lx j (by omega)] at hk
    by_cases e1 : m = i
    · subst e1; rw [ex] at hq
      have a := nx q hq
      have b := ((h.one j hjm).xo.lt k hk).2
      omega
    · rw [lx m (by omega)] at hq; exact h.incx j m hjm (by omega) k q hk hq
theorem buildX (W : World) : Sem.run Try.prog (Instr.buildSlice 26 2 #[(0, .agg #[.int .i64 77, .int .i64 0, .int .u64 0]), (1, .agg #[.int .i64 78, .int .i64 0, .int .u64 0])]) W = .ok (.slice (some ⟨W.heap.size, 0, none⟩) 2 2) (W.alloc (.cells #[.int .i64 77, .int .i64 0, .int .u64 0, .int .i64 78, .int .i64 0, .int .u64 0] 38)) := by
  obtain ⟨ie, hi, hz0, hz1, hz2⟩ := info_parts info52
  refine run_buildSlice W 26 38 2 _ _ ie _ Try.underlying26 hi hz0 (by rw [hz1]; decide) (by rw [hz1]; decide) ?_
  rw [hz1]
  first | rfl | (simp [Instr.fill, Array.range, Value.cells, Array.ofFn]; done) | kernel_rfl
/-- the write as it is lent -/
def lentE (e : E) (v x : Sl) : E := ⟨e.n, e.c, e.k, e.d, ⟨v.p, e.v.n, v.c⟩, ⟨x.p, e.x.n, x.c⟩⟩
end Go.Proofs.Ytokaeiahhmaokaa.ds
