import Derived.Test.YtagjmpdimphfaaaCmp
namespace Go.Proofs.Ytagjmpdimphfaaa.rg
open Go.ChangeShapes Go.WideShapes Go.ChangeAt Go.RowKit Go.Sort
set_option linter.unusedVariables false
theorem own_base {w : World} {b c : Nat} {e : TypeId} {size : Nat} {v : Value} {n : Nat} {xs : List Value} (h : w.ownsRow b e size v n xs) (hc : c ≤ b) : w.ownsRow c e size v n xs := by
  obtain ⟨hl, ⟨hv, hz⟩ | ⟨g, cap, cur, rfl, hb, hr⟩⟩ := h
  · exact ⟨hl, .inl ⟨hv, hz⟩⟩
  · exact ⟨hl, .inr ⟨g, cap, cur, rfl, by omega, hr⟩⟩
/-- the row is the old one, or a new one -/
def NewOr (w : World) (v v' : Value) : Prop := v'.ownBlock = v.ownBlock ∨ ∃ k, v'.ownBlock = some k ∧ w.heap.size ≤ k
theorem run_append2 (w : World) (t ty e : TypeId) (i : TypeInfo) (z : Value) (size bytes : Nat) (ht : Try.prog.underlying t = some (.slice e)) (hi : Try.prog.info? e = some i) (hz : i.zero = some z) (hsize : i.size = size) (hby : i.bytes = bytes) (hzs : z.cells.size = size) (hsz : 0 < size)
    (v : Value) (n : Nat) (xs : List Value) (h : w.ownsRow 0 e size v n xs) (ad : Addr) (m c : Nat) (news : List Value) (hm : 0 < m) (hl : news.length = m * size) (hnews : ∀ j u, news[j]? = some u → w.cell? (ad.add j) = some u) (h1 : ∀ u ∈ news, u.oneCell' = true) (h63 : n + m ≤ maxLen) (hb : (n + m) * bytes ≤ 140737488355328) :
    ∃ v' w', (Builtin.append_ #[t, t] ty #[v, .slice (some ad) m c]).run Try.prog w = .ok v' w' ∧ w'.ownsRow 0 e size v' (n + m) (xs ++ news) ∧ w.grownBy w' v.ownBlock ∧ NewOr w v v' := by
  have h0 := h
  obtain ⟨hxl, ⟨rfl, rfl⟩ | ⟨g, cap, cur, rfl, hbb, hr, hle, hrest⟩⟩ := h
  · obtain rfl : xs = [] := by simpa using hxl
    obtain ⟨v', w', hrun, r1, r2, _⟩ := run_append_own (P := Try.prog) w w.heap.size t ty e i z size bytes ht hi hz hsize hby hzs hsz (.slice none 0 0) 0 [] (World.ownsRow_nil w _ e size) ad m c news hl hnews h1 h63 hb (Nat.le_refl _)
    refine ⟨v', w', hrun, own_base r1 (Nat.zero_le _), r2, .inr ?_⟩
    obtain ⟨_, ⟨_, hzz⟩ | ⟨g, cap, cur, rfl, hb2, _⟩⟩ := r1
    · omega
    · exact ⟨g, rfl, hb2⟩
  · by_cases hroom : n + m ≤ cap
    · obtain ⟨w', hrun, r1, r2⟩ := run_append_own_spare (P := Try.prog) w 0 t ty e i size ht hi hsize g n cap xs h0 ad m c news hl hnews h1 hroom
      exact ⟨_, w', hrun, r1, r2, .inl rfl⟩
    · obtain ⟨v', w', hrun, r1, r2⟩ := run_append_arg_grows (P := Try.prog) w t ty e i z size bytes ht hi hz hsize hby hzs hsz ⟨g, 0, none⟩ n cap xs (by omega) (fun j u hu => h0.cells rfl j u hu) ad m c news hl hnews (by omega) h63 hb
      refine ⟨v', w', hrun, own_base r1 (Nat.zero_le _), ⟨r2.os, r2.tape, r2.output, r2.size, fun k hk _ => r2.block k hk (by simp)⟩, .inr ?_⟩
      obtain ⟨_, ⟨_, hzz⟩ | ⟨g', cap', cur', rfl, hb2, _⟩⟩ := r1
      · omega
      · exact ⟨g', rfl, hb2⟩
theorem wpList_append3 {w : World} {ops : Array Oper} {rest : List Oper} {o : Oper} {a : Act} {Q : Exit → Act → World → Prop} (hgd : o.guard = none) (s x : Operand) (t : TypeId)
    (ho : o.op = .call { callee := .builtin .append, args := #[s, x], argTypes := #[t, t] }) (v u : Value) (hs : a.eval s = v) (hx : a.eval x = u) (v' : Value) (w' : World)
    (hrun : (Builtin.append_ #[t, t] o.type #[v, u]).run Try.prog w = .ok v' w') (hK : wpList Try.prog ops Q rest (a.put o.dst v') w') : wpList Try.prog ops Q (o :: rest) a w := by
  refine wpList_plain hgd fun K hK' => ?_
  unfold Oper.wp
  simp [execOp, ho, resolve, invoke, builtin, hs, hx, hrun, Result.andThen]
  exact hK' _ _ hK
theorem own_typ {w : World} {base : Nat} {e : TypeId} {size : Nat} {v : Value} {n : Nat} {xs : List Value} (h : w.ownsRow base e size v n xs) {k : Nat} (hk : v.ownBlock = some k) : ∃ cur, w.heap[k]? = some (.cells cur e (0, 0)) := by
  obtain ⟨hl, ⟨hv, hz⟩ | ⟨g, cap, cur, rfl, hb, hr, hrest⟩⟩ := h
  · subst hv; cases hk
  · simp [Value.ownBlock] at hk; subst hk; exact ⟨cur, hr⟩
/-- a slice of the call's own -/
structure OwnR (e : TypeId) (size : Nat) (w w' : World) (p : Option Addr) (n cap : Nat) (xs : List Value) : Prop where
  own : w'.ownsRow 0 e size (.slice p n cap) n xs
  new : ∀ b, (Value.slice p n cap).ownBlock = some b → w.heap.size ≤ b
  ap : Apart [] w w'
theorem OwnR.kept {e : TypeId} {size : Nat} {w w' w2 : World} {p : Option Addr} {n cap : Nat} {xs : List Value} (h : OwnR e size w w' p n cap xs) (a : Apart [] w' w2) : OwnR e size w w2 p n cap xs := ⟨own_apart h.own a (by simp), h.new, h.ap.trans a⟩
theorem OwnR.keptX {e : TypeId} {size : Nat} {w w' w2 : World} {p : Option Addr} {n cap : Nat} {xs : List Value} {X : List Nat} (h : OwnR e size w w' p n cap xs) (a : Apart X w' w2) (h1 : ∀ k, (Value.slice p n cap).ownBlock = some k → k ∉ X) (h2 : ∀ x ∈ X, w.heap.size ≤ x) : OwnR e size w w2 p n cap xs := ⟨own_apart h.own a h1, h.new, h.ap.trans' a (fun y hy => .inr (h2 y hy))⟩
theorem OwnR.nil (e : TypeId) (size : Nat) (w : World) : OwnR e size w w none 0 0 [] := ⟨World.ownsRow_nil w _ e size, fun b hb => (by cases hb), Apart.refl _ _⟩
/-- some more appended -/
theorem OwnR.append {e t ty : TypeId} {i : TypeInfo} {z : Value} {size bytes : Nat} (ht : Try.prog.underlying t = some (.slice e)) (hi : Try.prog.info? e = some i) (hz : i.zero = some z) (hsize : i.size = size) (hby : i.bytes = bytes) (hzs : z.cells.size = size) (hsz : 0 < size)
    {w W : World} {p : Option Addr} {n cap : Nat} {xs : List Value} (h : OwnR e size w W p n cap xs) (ad : Addr) (m c : Nat) (news : List Value) (hm : 0 < m) (hl : news.length = m * size) (hnews : ∀ j u, news[j]? = some u → W.cell? (ad.add j) = some u) (h1 : ∀ u ∈ news, u.oneCell' = true) (h63 : n + m ≤ maxLen) (hb : (n + m) * bytes ≤ 140737488355328) :
    ∃ p' cap' w', (Builtin.append_ #[t, t] ty #[.slice p n cap, .slice (some ad) m c]).run Try.prog W = .ok (.slice p' (n + m) cap') w' ∧ OwnR e size w w' p' (n + m) cap' (xs ++ news) ∧ Apart (Value.slice p n cap).ownBlock.toList W w' ∧ NewOr W (.slice p n cap) (.slice p' (n + m) cap') := by
  obtain ⟨v', w', hrun, r1, r2, r3⟩ := run_append2 W t ty e i z size bytes ht hi hz hsize hby hzs hsz (.slice p n cap) n xs h.own ad m c news hm hl hnews h1 h63 hb
  have hs : ∃ p' cap', v' = .slice p' (n + m) cap' := by
    obtain ⟨_, ⟨_, hz⟩ | ⟨g, cap', cur, rfl, _⟩⟩ := id r1
    · omega
    · exact ⟨_, _, rfl⟩
  obtain ⟨p', cap', rfl⟩ := hs
  refine ⟨p', cap', w', hrun, ⟨r1, fun b hb => ?_, h.ap.trans' (apart_grown r2) (fun y hy => .inr (h.new y (by simpa using hy)))⟩, apart_grown r2, r3⟩
  rcases r3 with r3 | ⟨k, r3, hk⟩
  · exact h.new b (r3.symm.trans hb)
  · rw [r3] at hb; cases hb; exact Nat.le_trans h.ap.size hk
/-- points, flat -/
def flP (ps : List Pt) : List Value := ps.flatMap fun d => [.int .u32 (d.1 : Nat), .int .i64 (d.2 : Nat)]
theorem flP_length (ps : List Pt) : (flP ps).length = ps.length * 2 := by
  induction ps with
  | nil => rfl
  | cons e l ih => simp only [flP, List.flatMap_cons, List.length_append, List.length_cons, List.length_nil] at *; omega
theorem flP_get (ps : List Pt) : ∀ (k : Nat), k < ps.length → (flP ps)[k * 2]? = some (.int .u32 ((ps.getD k (0, 0)).1 : Nat)) ∧ (flP ps)[k * 2 + 1]? = some (.int .i64 ((ps.getD k (0, 0)).2 : Nat)) := by
  induction ps with
  | nil => intro k hk; simp at hk
  | cons e l ih =>
    intro k hk
    match k with
    | 0 => exact ⟨rfl, rfl⟩
    | k + 1 =>
      have := ih k (by simpa using hk)
      rw [show (k + 1) * 2 = k * 2 + 2 from by omega]
      exact this
theorem flP_append (ps qs : List Pt) : flP ps ++ flP qs = flP (ps ++ qs) := by simp [flP]
theorem flP_one {ps : List Pt} {u : Value} (h : u ∈ flP ps) : u.oneCell' = true := by
  simp only [flP, List.mem_flatMap] at h
  obtain ⟨d, _, h⟩ := h
  simp at h
  rcases h with rfl | rfl <;> rfl
theorem info80 : (Try.prog.info? 80).map (fun i => (i.zero, i.size, i.bytes)) = some (some (.agg #[.int .u32 0, .int .i64 0]), 2, 16) := by kernel_rfl
theorem info3 : (Try.prog.info? 3).map (fun i => (i.zero, i.size, i.bytes)) = some (some (.int .i64 0), 1, 8) := by kernel_rfl
/-- points of the call's own -/
abbrev OwnP (w w' : World) (p : Option Addr) (n cap : Nat) (ps : List Pt) : Prop := OwnR 80 2 w w' p n cap (flP ps)
/-- points, as they read -/
def Rd (w : World) (p : Option Addr) (ps : List Pt) : Prop :=
  0 < ps.length → ∃ P o, p = some ⟨P, o, none⟩ ∧ P < w.heap.size ∧ ∀ i, i < ps.length → w.cell? ⟨P, o + i * 2, none⟩ = some (.int .u32 ((ps.getD i (0, 0)).1 : Nat)) ∧ w.cell? ⟨P, o + i * 2 + 1, none⟩ = some (.int .i64 ((ps.getD i (0, 0)).2 : Nat))
theorem Rd.kept {w w' : World} {p : Option Addr} {ps : List Pt} {X : List Nat} (h : Rd w p ps) (a : Apart X w w') (hX : ∀ P o, p = some ⟨P, o, none⟩ → P ∉ X) : Rd w' p ps := by
  intro h0
  obtain ⟨P, o, rfl, hP, hc⟩ := h h0
  exact ⟨P, o, rfl, Nat.lt_of_lt_of_le hP a.size, fun i hi => ⟨(a.cell hP (hX P o rfl)).trans (hc i hi).1, (a.cell hP (hX P o rfl)).trans (hc i hi).2⟩⟩
theorem OwnR.cellP {w w' : World} {P n cap : Nat} {ps : List Pt} (h : OwnP w w' (some ⟨P, 0, none⟩) n cap ps) (j : Nat) (hj : j < ps.length * 2) : w'.cell? ⟨P, j, none⟩ = (flP ps)[j]? := h.own.cellAt _ (by have := h.own.1; rw [flP_length] at this; omega)
/-- ints, flat -/
def flI (xs : List Nat) : List Value := xs.map fun x => .int .i64 (x : Nat)
abbrev OwnI (w w' : World) (p : Option Addr) (n cap : Nat) (xs : List Nat) : Prop := OwnR 3 1 w w' p n cap (flI xs)
end Go.Proofs.Ytagjmpdimphfaaa.rg
