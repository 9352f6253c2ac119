import Derived.Test.YtokaeiahhmaokaaIsSet
import Derived.ArgAppend
import Derived.Deep.RegionLaw
import Derived.Deep.DeepAppendRoom
namespace Go.Proofs.Ytokaeiahhmaokaa.ds
open Go.ChangeShapes Go.WideShapes Go.ChangeAt Go.RowKit
set_option linter.unusedVariables false
/-- a list that can be read -/
structure L (w : World) (p : Option Addr) (N : Nat) (xs : List S) : Prop where
  sp : Sp w p xs
  len : xs.length = N
  lim : N ≤ 9223372036854775807
  fit : ∀ x ∈ xs, x.t < 2 ^ 64
theorem L.kept {w w' : World} {p : Option Addr} {N : Nat} {xs : List S} {X : List Nat} (h : L w p N xs) (a : Apart X w w') (hX : ∀ P o, p = some ⟨P, o, none⟩ → P ∉ X) : L w' p N xs := { h with sp := h.sp.kept a hX }
theorem L.kept0 {w w' : World} {p : Option Addr} {N : Nat} {xs : List S} (h : L w p N xs) (a : Apart [] w w') : L w' p N xs := { h with sp := h.sp.kept0 a }
theorem L.nil (w : World) (p : Option Addr) : L w p 0 [] := ⟨Sp.nil w p, rfl, by omega, by simp⟩
theorem OkL.fit {g : Int} {xs : List S} (h : OkL g xs) (hg : g ≤ 64) : ∀ x ∈ xs, x.t < 2 ^ 64 := fun x hx => ((h.ok x hx).wf hg).lt
open Classical in
/-- a list, or none where it is no set -/
noncomputable def norm (xs : List S) : List S := if OkL 64 xs then xs else []
theorem norm_ok (xs : List S) : OkL 64 (norm xs) := by unfold norm; split; assumption; exact OkL.nil 64
theorem norm_of {xs : List S} (h : OkL 64 xs) : norm xs = xs := by unfold norm; rw [if_pos h]
theorem norm_no {xs : List S} (h : ¬ OkL 64 xs) : norm xs = [] := by unfold norm; rw [if_neg h]
theorem isSet_yes {p : Option Addr} {N cap : Nat} {xs : List S} {gap : Int} {w : World} (h : L w p N xs) (k : OkL gap xs) : Calls Try.prog 45 #[.slice p N cap, .int .i64 gap] w fun r w' => r = .returned (.bool true) ∧ Apart [] w w' := by
  refine (isSet_ok p N cap xs gap w h.sp h.len h.lim h.fit).mono ?_
  rintro r w1 ⟨⟨v, rfl, hv⟩, a1⟩
  exact ⟨by rw [hv.2 k], a1⟩
theorem isSet_no {p : Option Addr} {N cap : Nat} {xs : List S} {gap : Int} {w : World} (h : L w p N xs) (k : ¬ OkL gap xs) : Calls Try.prog 45 #[.slice p N cap, .int .i64 gap] w fun r w' => r = .returned (.bool false) ∧ Apart [] w w' := by
  refine (isSet_ok p N cap xs gap w h.sp h.len h.lim h.fit).mono ?_
  rintro r w1 ⟨⟨v, rfl, hv⟩, a1⟩
  cases v
  · exact ⟨rfl, a1⟩
  · exact absurd (hv.1 rfl) k
structure AsPost (w w' : World) (r : Ending) (xs : List S) : Prop where
  ex : ∃ p N cap, r = .returned (.slice p N cap) ∧ L w' p N (norm xs) ∧ Apart [] w w'
theorem asSet_ok {p : Option Addr} {N cap : Nat} {xs : List S} {w : World} (h : L w p N xs) : Calls Try.prog 36 #[.slice p N cap] w fun r w' => AsPost w w' r xs := by
  by_cases k : OkL 64 xs
  · go_enter Try.func36, Try.ntmps36
    go_wp2_with (go_at_call 45; refine (isSet_yes h k).mono ?_; rintro r w1 ⟨rfl, a1⟩)
    go_ret
    exact ⟨p, N, cap, rfl, by rw [norm_of k]; exact h.kept0 a1, a1⟩
  · go_enter Try.func36, Try.ntmps36
    go_wp2_with (go_at_call 45; refine (isSet_no h k).mono ?_; rintro r w1 ⟨rfl, a1⟩)
    go_ret
    exact ⟨none, 0, 0, rfl, by rw [norm_no k]; exact L.nil _ _, a1⟩
theorem own_base {w : World} {b c : Nat} {e : TypeId} {size : Nat} {v : Value} {n : Nat} {xs : List Value} (h : w.ownsRow b e size v n xs) (hc : c ≤ b) : w.ownsRow c e size v n xs := by
  obtain ⟨hl, ⟨hv, hz⟩ | ⟨g, cap, cur, rfl, hb, hr⟩⟩ := h
  · exact ⟨hl, .inl ⟨hv, hz⟩⟩
  · exact ⟨hl, .inr ⟨g, cap, cur, rfl, by omega, hr⟩⟩
/-- the row is the old one, or a new one -/
def NewOr (w : World) (v v' : Value) : Prop := v'.ownBlock = v.ownBlock ∨ ∃ k, v'.ownBlock = some k ∧ w.heap.size ≤ k
theorem run_append2 (w : World) (t ty e : TypeId) (i : TypeInfo) (z : Value) (size bytes : Nat) (ht : Try.prog.underlying t = some (.slice e)) (hi : Try.prog.info? e = some i) (hz : i.zero = some z) (hsize : i.size = size) (hby : i.bytes = bytes) (hzs : z.cells.size = size) (hsz : 0 < size)
    (v : Value) (n : Nat) (xs : List Value) (h : w.ownsRow 0 e size v n xs) (ad : Addr) (m c : Nat) (news : List Value) (hm : 0 < m) (hl : news.length = m * size) (hnews : ∀ j u, news[j]? = some u → w.cell? (ad.add j) = some u) (h1 : ∀ u ∈ news, u.oneCell' = true) (h63 : n + m ≤ maxLen) (hb : (n + m) * bytes ≤ 140737488355328) :
    ∃ v' w', (Builtin.append_ #[t, t] ty #[v, .slice (some ad) m c]).run Try.prog w = .ok v' w' ∧ w'.ownsRow 0 e size v' (n + m) (xs ++ news) ∧ w.grownBy w' v.ownBlock ∧ NewOr w v v' := by
  have h0 := h
  obtain ⟨hxl, ⟨rfl, rfl⟩ | ⟨g, cap, cur, rfl, hbb, hr, hle, hrest⟩⟩ := h
  · obtain rfl : xs = [] := by simpa using hxl
    obtain ⟨v', w', hrun, r1, r2, _⟩ := run_append_own (P := Try.prog) w w.heap.size t ty e i z size bytes ht hi hz hsize hby hzs hsz (.slice none 0 0) 0 [] (World.ownsRow_nil w _ e size) ad m c news hl hnews h1 h63 hb (Nat.le_refl _)
    refine ⟨v', w', hrun, own_base r1 (Nat.zero_le _), r2, .inr ?_⟩
    obtain ⟨_, ⟨_, hzz⟩ | ⟨g, cap, cur, rfl, hb2, _⟩⟩ := r1
    · omega
    · exact ⟨g, rfl, hb2⟩
  · by_cases hroom : n + m ≤ cap
    · obtain ⟨w', hrun, r1, r2⟩ := run_append_own_spare (P := Try.prog) w 0 t ty e i size ht hi hsize g n cap xs h0 ad m c news hl hnews h1 hroom
      exact ⟨_, w', hrun, r1, r2, .inl rfl⟩
    · obtain ⟨v', w', hrun, r1, r2⟩ := run_append_arg_grows (P := Try.prog) w t ty e i z size bytes ht hi hz hsize hby hzs hsz ⟨g, 0, none⟩ n cap xs (by omega) (fun j u hu => h0.cells rfl j u hu) ad m c news hl hnews (by omega) h63 hb
      refine ⟨v', w', hrun, own_base r1 (Nat.zero_le _), ⟨r2.os, r2.tape, r2.output, r2.size, fun k hk _ => r2.block k hk (by simp)⟩, .inr ?_⟩
      obtain ⟨_, ⟨_, hzz⟩ | ⟨g', cap', cur', rfl, hb2, _⟩⟩ := r1
      · omega
      · exact ⟨g', rfl, hb2⟩
theorem wpList_append3 {w : World} {ops : Array Oper} {rest : List Oper} {o : Oper} {a : Act} {Q : Exit → Act → World → Prop} (hgd : o.guard = none) (s x : Operand) (t : TypeId)
    (ho : o.op = .call { callee := .builtin .append, args := #[s, x], argTypes := #[t, t] }) (v u : Value) (hs : a.eval s = v) (hx : a.eval x = u) (v' : Value) (w' : World)
    (hrun : (Builtin.append_ #[t, t] o.type #[v, u]).run Try.prog w = .ok v' w') (hK : wpList Try.prog ops Q rest (a.put o.dst v') w') : wpList Try.prog ops Q (o :: rest) a w := by
  refine wpList_plain hgd fun K hK' => ?_
  unfold Oper.wp
  simp [execOp, ho, resolve, invoke, builtin, hs, hx, hrun, Result.andThen]
  exact hK' _ _ hK
/-- a list of the call's own -/
structure Own (w w' : World) (p : Option Addr) (n cap : Nat) (xs : List S) : Prop where
  len : n = xs.length
  own : w'.ownsRow 0 38 3 (.slice p n cap) n (flat xs)
  new : ∀ b, (Value.slice p n cap).ownBlock = some b → w.heap.size ≤ b
  ap : Apart [] w w'
theorem Own.kept {w w' w2 : World} {p : Option Addr} {n cap : Nat} {xs : List S} (h : Own w w' p n cap xs) (a : Apart [] w' w2) : Own w w2 p n cap xs := ⟨h.len, own_apart h.own a (by simp), h.new, h.ap.trans a⟩
theorem Own.L {w w' : World} {p : Option Addr} {n cap : Nat} {xs : List S} (h : Own w w' p n cap xs) (hl : n ≤ 9223372036854775807) (hf : ∀ x ∈ xs, x.t < 2 ^ 64) : L w' p n xs := ⟨Sp.own h.own h.len, h.len.symm, hl, hf⟩
/-- one more, appended -/
theorem own_append {w W : World} {p : Option Addr} {n cap : Nat} {xs : List S} (h : Own w W p n cap xs) (hn : n ≤ 4398046511104) (ty : TypeId) (ad : Addr) (x : S) (h0 : W.cell? (ad.add 0) = some (.int .i64 x.n)) (h1 : W.cell? (ad.add 1) = some (.int .i64 x.b)) (h2 : W.cell? (ad.add 2) = some (.int .u64 (x.t : Int))) :
    ∃ p' cap' w', (Builtin.append_ #[26, 26] ty #[.slice p n cap, .slice (some ad) 1 1]).run Try.prog W = .ok (.slice p' (n + 1) cap') w' ∧ Own w w' p' (n + 1) cap' (xs ++ [x]) := by
  obtain ⟨i0, hi, hz0, hz1, hz2⟩ := info_parts info52
  obtain ⟨v', w', hrun, r1, r2, r3⟩ := run_append2 W 26 ty 38 i0 (.agg #[.int .i64 0, .int .i64 0, .int .u64 0]) 3 24 Try.underlying26 hi hz0 hz1 hz2 rfl (by decide) (.slice p n cap) n (flat xs) h.own ad 1 1 [.int .i64 x.n, .int .i64 x.b, .int .u64 (x.t : Int)] (by decide) rfl
    (by
      intro j u hj
      match j, hj with
      | 0, hj => simp at hj; subst hj; exact h0
      | 1, hj => simp at hj; subst hj; exact h1
      | 2, hj => simp at hj; subst hj; exact h2)
    (by intro u hu; simp at hu; rcases hu with rfl | rfl | rfl <;> rfl) (by unfold maxLen; omega) (by omega)
  rw [flat_snoc] at r1
  have hs : ∃ p' cap', v' = .slice p' (n + 1) cap' := by
    obtain ⟨_, ⟨_, hz⟩ | ⟨g, cap', cur, rfl, _⟩⟩ := id r1
    · omega
    · exact ⟨_, _, rfl⟩
  obtain ⟨p', cap', rfl⟩ := hs
  refine ⟨p', cap', w', hrun, by simp [h.len], r1, fun b hb => ?_, h.ap.trans' (apart_grown r2) (fun y hy => .inr (h.new y (by simpa using hy)))⟩
  rcases r3 with r3 | ⟨k, r3, hk⟩
  · exact h.new b (r3.symm.trans hb)
  · rw [r3] at hb; cases hb; exact Nat.le_trans h.ap.size hk
end Go.Proofs.Ytokaeiahhmaokaa.ds
