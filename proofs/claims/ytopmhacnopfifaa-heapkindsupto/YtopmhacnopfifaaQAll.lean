import Derived.Test.YtopmhacnopfifaaQPop
namespace Go.Proofs.Ytopmhacnopfifaa.tm
open Go.ChangeShapes Go.WideShapes Go.ChangeAt Go.RowKit
set_option linter.unusedVariables false
theorem run_append3 (w : World) (t ty e : TypeId) (i : TypeInfo) (z : Value) (size bytes : Nat) (ht : Try.prog.underlying t = some (.slice e)) (hi : Try.prog.info? e = some i) (hz : i.zero = some z) (hsize : i.size = size) (hby : i.bytes = bytes) (hzs : z.cells.size = size) (hsz : 0 < size)
    (g n cap : Nat) (xs : List Value) (h : w.ownsRow 0 e size (.slice (some ⟨g, 0, none⟩) n cap) n xs) (ad : Addr) (m c : Nat) (news : List Value) (hl : news.length = m * size) (hnews : ∀ j u, news[j]? = some u → w.cell? (ad.add j) = some u) (h1 : ∀ u ∈ news, u.oneCell' = true) (h63 : n + m ≤ maxLen) (hb : (n + m) * bytes ≤ 140737488355328) :
    ∃ v' w', (Builtin.append_ #[t, t] ty #[.slice (some ⟨g, 0, none⟩) n cap, .slice (some ad) m c]).run Try.prog w = .ok v' w' ∧ w'.ownsRow 0 e size v' (n + m) (xs ++ news) ∧ w.grownBy w' (some g) ∧ NewOr w (.slice (some ⟨g, 0, none⟩) n cap) v' := by
  by_cases hroom : n + m ≤ cap
  · obtain ⟨w', hrun, r1, r2⟩ := run_append_own_spare (P := Try.prog) w 0 t ty e i size ht hi hsize g n cap xs h ad m c news hl hnews h1 hroom
    exact ⟨_, w', hrun, r1, r2, .inl rfl⟩
  · have hle : n ≤ cap := by
      obtain ⟨_, ⟨hv, _⟩ | ⟨g', cap', cur, hv, _, _, hle, _⟩⟩ := h
      · cases hv
      · simp at hv; omega
    obtain ⟨v', w', hrun, r1, r2, r3⟩ := run_append2 w t ty e i z size bytes ht hi hz hsize hby hzs hsz (.slice (some ⟨g, 0, none⟩) n cap) n xs h ad m c news (by omega) hl hnews h1 h63 hb
    exact ⟨v', w', hrun, r1, r2, r3⟩
theorem oneFlat (es : List E) : ∀ u ∈ flat es, u.oneCell' = true := by
  intro u hu
  simp [flat, ec] at hu
  obtain ⟨e, _, h | h | h | h | h⟩ := hu <;> subst h <;> rfl
set_option maxRecDepth 100000 in
theorem eqlSome (w : World) (a : Addr) (n c : Nat) : Sem.run Try.prog (binOp BinOp.eql 98 (Value.slice (some a) n c) (Value.slice none 0 0)) w = .ok (.bool false) w := by
  first | rfl | (simp [binOp, Try.underlying98, go_sem]; done)
set_option maxRecDepth 100000 in
theorem eqlNil (w : World) : Sem.run Try.prog (binOp BinOp.eql 98 (Value.slice none 0 0) (Value.slice none 0 0)) w = .ok (.bool true) w := by
  first | rfl | (simp [binOp, Try.underlying98, go_sem]; done)
theorem wpList_append3 {w : World} {ops : Array Oper} {rest : List Oper} {o : Oper} {a : Act} {Q : Exit → Act → World → Prop} (hgd : o.guard = none) (s x : Operand) (t : TypeId)
    (ho : o.op = .call { callee := .builtin .append, args := #[s, x], argTypes := #[t, t] }) (v u : Value) (hs : a.eval s = v) (hx : a.eval x = u) (v' : Value) (w' : World)
    (hrun : (Builtin.append_ #[t, t] o.type #[v, u]).run Try.prog w = .ok v' w') (hK : wpList Try.prog ops Q rest (a.put o.dst v') w') : wpList Try.prog ops Q (o :: rest) a w := by
  refine wpList_plain hgd fun K hK' => ?_
  unfold Oper.wp
  simp [execOp, ho, resolve, invoke, builtin, hs, hx, hrun, Result.andThen]
  exact hK' _ _ hK
theorem clone_nil (w : World) : Calls Try.prog 61 #[.slice none 0 0] w fun r w' => r = .returned (.slice none 0 0) ∧ w' = w := by
  have hq := eqlNil w
  go_enter Try.func61, Try.ntmps61
  go_wp2
  go_ret
  exact ⟨rfl, rfl⟩
set_option maxHeartbeats 400000 in
theorem clone_some (w : World) (es : List E) (G cap : Nat) (h : w.ownsRow 0 100 5 (.slice (some ⟨G, 0, none⟩) es.length cap) es.length (flat es)) (hl : es.length ≤ 4000000) :
    Calls Try.prog 61 #[.slice (some ⟨G, 0, none⟩) es.length cap] w fun r w' => ∃ k c, r = .returned (.slice (some ⟨k, 0, none⟩) es.length c) ∧ w'.ownsRow 0 100 5 (.slice (some ⟨k, 0, none⟩) es.length c) es.length (flat es) ∧ w.heap.size ≤ k ∧ Apart [] w w' := by
  obtain ⟨i0, hi, hz0, hz1, hz2⟩ := info_parts info51
  have hq := eqlSome w ⟨G, 0, none⟩ es.length cap
  have hG : G < w.heap.size := (h.lt G rfl).2
  have o1 : (w.alloc (.cells #[] 100)).ownsRow 0 100 5 (.slice (some ⟨w.heap.size, 0, none⟩) 0 0) 0 [] := World.ownsRow_lit (base := 0) (e := 100) (size := 5) w #[] 0 (Nat.zero_le _) (by decide) rfl
  obtain ⟨v', w', hrun, r1, r2, r3⟩ := run_append3 (w.alloc (.cells #[] 100)) 98 98 100 i0 _ 5 40 Try.underlying98 hi hz0 hz1 hz2 rfl (by decide) w.heap.size 0 0 [] o1 ⟨G, 0, none⟩ es.length cap (flat es) (flat_length es) (fun j u hu => (h.alloc (.cells #[] 100)).cells rfl j u hu) (oneFlat es) (by unfold maxLen; omega) (by omega)
  rw [Nat.zero_add, List.nil_append] at r1
  have ap : Apart [] w w' := ((Apart.refl [] w).alloc (.cells #[] 100)).trans' (apart_grown r2) (by simp)
  have hnew : ∃ k c, v' = .slice (some ⟨k, 0, none⟩) es.length c ∧ w.heap.size ≤ k := by
    rcases r3 with r3 | ⟨k, r3, hk⟩
    · obtain ⟨_, ⟨hv, _⟩ | ⟨g', cap', cur, hv, _⟩⟩ := r1
      · rw [hv] at r3; simp [Value.ownBlock] at r3
      · rw [hv] at r3; simp [Value.ownBlock] at r3; exact ⟨g', cap', hv, by omega⟩
    · obtain ⟨_, ⟨hv, _⟩ | ⟨g', cap', cur, hv, _⟩⟩ := r1
      · rw [hv] at r3; simp [Value.ownBlock] at r3
      · rw [hv] at r3; simp [Value.ownBlock] at r3; simp at hk; exact ⟨g', cap', hv, by omega⟩
  obtain ⟨k, c, rfl, hk⟩ := hnew
  clear r2 r3 o1
  go_enter Try.func61, Try.ntmps61
  go_wp2_with (at_builtin; refine wpList_append3 rfl (.tmp 5) (.tmp 6) 98 rfl _ _ rfl rfl _ _ hrun ?_)
  go_wp2
  go_ret
  exact ⟨k, c, rfl, r1, hk, ap⟩
end Go.Proofs.Ytopmhacnopfifaa.tm
