import Derived.Test.YtddffdcjhleejaaV13
import Derived.Test.YtddffdcjhleejaaV11
import Derived.Defers
import Derived.Recover
import Derived.Laws.Pointers
namespace Go.Proofs.Ytddffdcjhleejaa.ds
open Go.ChangeShapes Go.WideShapes Go.ChangeAt Go.RowKit Go.Sort
set_option linter.unusedVariables false
set_option linter.unusedSimpArgs false
/-- a part of the reader: it stays within the bytes; of bytes that are cut off it says where they end -/
structure Lc {α : Type} (q0 : Nat) (r : List Nat → Nat → Except Nat (α × Nat)) : Prop where
  ok : ∀ B q a q', q0 ≤ q → q ≤ B.length → r B q = .ok (a, q') → q ≤ q' ∧ q' ≤ B.length
  err : ∀ B q x, q0 ≤ q → q ≤ B.length → r B q = .error x → x ≤ B.length
  cut : ∀ B q a q' c, q0 ≤ q → q ≤ c → c ≤ B.length → r B q = .ok (a, q') → r (B.take c) q = if q' ≤ c then .ok (a, q') else .error c
theorem take_len {B : List Nat} {c : Nat} (h : c ≤ B.length) : (B.take c).length = c := by simp; omega
theorem take_getD {B : List Nat} {c p : Nat} (h : p < c) : (B.take c).getD p 0 = B.getD p 0 := by
  simp [List.getD_eq_getElem?_getD, List.getElem?_take, h]
theorem Lc.pure {α : Type} (q0 : Nat) (a : α) : Lc q0 (fun _ q => .ok (a, q)) :=
  ⟨fun B q a' q' _ h1 h2 => by simp only [Except.ok.injEq, Prod.mk.injEq] at h2; omega, fun B q x _ _ h => (by cases h), fun B q a' q' c _ h1 _ h2 => by simp only [Except.ok.injEq, Prod.mk.injEq] at h2; obtain ⟨rfl, rfl⟩ := h2; rw [if_pos h1]⟩
theorem Lc.rb {α β : Type} {q0 : Nat} {r : List Nat → Nat → Except Nat (α × Nat)} {f : List Nat → Nat → α → Nat → Except Nat (β × Nat)} (h : Lc q0 r) (hf : ∀ q a, q0 ≤ q → Lc q (fun B q1 => f B q a q1)) : Lc q0 (fun B q => ds.rb (r B q) (fun a q1 => f B q a q1)) := by
  refine ⟨fun B q b q' hq hl hr => ?_, fun B q x hq hl hr => ?_, fun B q b q' c hq hc hl hr => ?_⟩
  · obtain ⟨a, q1, h1, h2⟩ := rb_iff.1 hr
    have a1 := h.ok B q a q1 hq hl h1
    have a2 := (hf q a hq).ok B q1 b q' a1.1 a1.2 h2
    omega
  · cases h1 : r B q with
    | error y =>
      simp only [h1, ds.rb, Except.error.injEq] at hr
      subst hr
      exact h.err B q y hq hl h1
    | ok t =>
      obtain ⟨a, q1⟩ := t
      simp only [h1, ds.rb] at hr
      have a1 := h.ok B q a q1 hq hl h1
      exact (hf q a hq).err B q1 x a1.1 a1.2 hr
  · obtain ⟨a, q1, h1, h2⟩ := rb_iff.1 hr
    have a1 := h.ok B q a q1 hq (by omega) h1
    have a2 := (hf q a hq).ok B q1 b q' a1.1 a1.2 h2
    have a3 := h.cut B q a q1 c hq hc hl h1
    by_cases hle : q1 ≤ c
    · rw [if_pos hle] at a3
      simp only [a3, ds.rb]
      exact (hf q a hq).cut B q1 b q' c a1.1 hle hl h2
    · rw [if_neg hle] at a3
      simp only [a3, ds.rb]
      rw [if_neg (by omega)]
theorem Lc.ite {α : Type} {q0 q1 : Nat} {P : Prop} [Decidable P] {r : List Nat → Nat → Except Nat (α × Nat)} (h : Lc q0 r) (hq : q1 ≤ q0) : Lc q0 (fun B q => if P then r B q else .error q1) := by
  by_cases hp : P
  · simp only [if_pos hp]; exact h
  · simp only [if_neg hp]
    exact ⟨fun B q a q' _ _ h => (by cases h), fun B q x h1 h2 h3 => by simp only [Except.error.injEq] at h3; omega, fun B q a q' c _ _ _ h => by cases h⟩
theorem Lc.opt {α : Type} {q0 : Nat} {b : Bool} {d : α} {r : List Nat → Nat → Except Nat (α × Nat)} (h : Lc q0 r) : Lc q0 (fun B q => ropt b d q (fun q => r B q)) := by
  unfold ropt
  cases b with
  | true => simpa using h
  | false => simpa using Lc.pure q0 d
theorem Lc.mono {α : Type} {q0 q1 : Nat} {r : List Nat → Nat → Except Nat (α × Nat)} (h : Lc q0 r) (hq : q0 ≤ q1) : Lc q1 r := ⟨fun B q a q' h1 => h.ok B q a q' (by omega), fun B q x h1 => h.err B q x (by omega), fun B q a q' c h1 => h.cut B q a q' c (by omega)⟩
theorem rnum_in (B : List Nat) : ∀ (f i p acc n : Nat) (b : Bool) (q' : Nat), rnum B f i p acc = .ok (n, b, q') → p < q' ∧ q' ≤ B.length
  | 0, _, _, _, _, _, _, h => by cases h
  | f + 1, i, p, acc, n, b, q', h => by
    rw [rnum] at h
    split at h
    · split at h
      · simp only [Except.ok.injEq, Prod.mk.injEq] at h; omega
      · split at h
        · simp only [Except.ok.injEq, Prod.mk.injEq] at h; omega
        · have := rnum_in B f _ _ _ _ _ _ h; omega
    · cases h
theorem rnum_er (B : List Nat) : ∀ (f i p acc x : Nat), rnum B f i p acc = .error x → x ≤ B.length
  | 0, _, _, _, _, h => by simp only [rnum, Except.error.injEq] at h; omega
  | f + 1, i, p, acc, x, h => by
    rw [rnum] at h
    split at h
    · split at h
      · cases h
      · split at h
        · cases h
        · exact rnum_er B f _ _ _ _ h
    · simp only [Except.error.injEq] at h; omega
theorem rnum_cut (B : List Nat) (c : Nat) (hc : c ≤ B.length) : ∀ (f i p acc n : Nat) (b : Bool) (q' : Nat), p ≤ c → rnum B f i p acc = .ok (n, b, q') → rnum (B.take c) f i p acc = if q' ≤ c then .ok (n, b, q') else .error c
  | 0, _, _, _, _, _, _, _, h => by cases h
  | f + 1, i, p, acc, n, b, q', hp, h => by
    have hin := rnum_in B _ _ _ _ _ _ _ h
    by_cases hlt : p < c
    · rw [rnum, if_pos (by rw [take_len hc]; exact hlt), take_getD hlt]
      rw [rnum, if_pos (by omega)] at h
      split at h
      · rename_i h9
        rw [if_pos h9, h]
        simp only [Except.ok.injEq, Prod.mk.injEq] at h
        rw [if_pos (by omega)]
      · rename_i h9
        rw [if_neg h9]
        split at h
        · rename_i h128
          rw [if_pos h128, h]
          simp only [Except.ok.injEq, Prod.mk.injEq] at h
          rw [if_pos (by omega)]
        · rename_i h128
          rw [if_neg h128]
          exact rnum_cut B c hc f _ _ _ _ _ _ (by omega) h
    · rw [rnum, if_neg (by rw [take_len hc]; exact hlt), take_len hc, if_neg (by omega)]
theorem Lc.number (q0 : Nat) : Lc q0 (fun B q => rnumber B q) := by
  refine ⟨fun B q a q' _ _ h => ?_, fun B q x _ _ h => ?_, fun B q a q' c _ hqc hc h => ?_⟩
  · unfold rnumber at h
    split at h
    · rename_i hr
      simp only [Except.ok.injEq, Prod.mk.injEq] at h
      have := rnum_in B _ _ _ _ _ _ _ hr
      omega
    · cases h
  · unfold rnumber at h
    split at h
    · cases h
    · rename_i hr
      simp only [Except.error.injEq] at h
      subst h
      exact rnum_er B _ _ _ _ _ hr
  · unfold rnumber at h ⊢
    split at h
    · rename_i n b q2 hr
      simp only [Except.ok.injEq, Prod.mk.injEq] at h
      obtain ⟨rfl, rfl⟩ := h
      rw [rnum_cut B c hc _ _ _ _ _ _ _ hqc hr]
      by_cases hle : q2 ≤ c
      · rw [if_pos hle, if_pos hle]
      · rw [if_neg hle, if_neg hle]
    · cases h
theorem rbound_rb (B : List Nat) (q lo hi : Nat) : rbound B q lo hi = ds.rb (rnumber B q) (fun a q' => if a.2 = true ∧ lo ≤ a.1 ∧ a.1 ≤ hi then .ok (a.1, q') else .error q) := by
  unfold rbound ds.rb
  cases rnumber B q with
  | error x => rfl
  | ok t => obtain ⟨⟨n, b⟩, q'⟩ := t; rfl
theorem Lc.bound (q0 lo hi : Nat) : Lc q0 (fun B q => rbound B q lo hi) := by
  simp only [rbound_rb]
  exact Lc.rb (Lc.number q0) (fun q a hq => Lc.ite (Lc.pure q a.1) (Nat.le_refl _))
theorem Lc.bytes (q0 n : Nat) : Lc q0 (fun B q => rbytes B n q) := by
  refine ⟨fun B q a q' _ hl h => ?_, fun B q x _ _ h => ?_, fun B q a q' c _ hqc hc h => ?_⟩
  · unfold rbytes at h
    split at h
    · simp only [Except.ok.injEq, Prod.mk.injEq] at h; omega
    · cases h
  · unfold rbytes at h
    split at h
    · cases h
    · simp only [Except.error.injEq] at h; omega
  · unfold rbytes at h ⊢
    split at h
    · simp only [Except.ok.injEq, Prod.mk.injEq] at h
      obtain ⟨rfl, rfl⟩ := h
      rw [take_len hc]
      by_cases hle : q + n ≤ c
      · rw [if_pos (by omega), if_pos hle]
        have : ((B.take c).drop q).take n = (B.drop q).take n := by
          rw [List.drop_take, List.take_take, Nat.min_eq_left (by omega)]
        rw [this]
      · rw [if_neg (by omega), if_neg hle]
    · cases h
theorem Lc.text (q0 lo hi : Nat) : Lc q0 (fun B q => rtext B q lo hi) := by
  unfold rtext
  exact Lc.rb (Lc.bound q0 lo hi) (fun q a hq => Lc.bytes q a)
theorem Lc.dot (q0 : Nat) : Lc q0 (fun B q => rdot B q) := by
  unfold rdot
  exact Lc.rb (Lc.bound q0 0 7) (fun q a hq => Lc.rb (Lc.bound q 1 1048576) (fun q1 b h1 => Lc.pure q1 (a, b)))
theorem Lc.span (q0 ln mb : Nat) : Lc q0 (fun B q => rspan B q ln mb) := by
  unfold rspan
  refine Lc.rb (Lc.bound q0 ln 7) (fun q n hq => Lc.rb (Lc.bound q 0 1048576) (fun q1 b h1 => ?_))
  exact Lc.rb (Lc.number q1) (fun q2 a h2 => Lc.ite (Lc.pure q2 _) (Nat.le_refl _))
theorem Lc.spansA (mb : Nat) : ∀ (k q0 ln : Nat), Lc q0 (fun B q => rspansA B mb k ln q)
  | 0, q0, ln => by unfold rspansA; exact Lc.pure q0 []
  | k + 1, q0, ln => by
    unfold rspansA
    exact Lc.rb (Lc.span q0 ln mb) (fun q x hq => Lc.rb (Lc.spansA mb k q (x.n.toNat + 1)) (fun q1 l h1 => Lc.pure q1 (x :: l)))
theorem Lc.spans (q0 mb : Nat) : Lc q0 (fun B q => rspans B q mb) := by
  unfold rspans
  exact Lc.rb (Lc.bound q0 0 8) (fun q k hq => Lc.spansA mb k q 0)
theorem Lc.set (q0 : Nat) : Lc q0 (fun B q => rset B q) := Lc.spans q0 _
theorem Lc.value (q0 dd : Nat) : Lc q0 (fun B q => rvalue B dd q) := by
  unfold rvalue
  by_cases h : dd = 1
  · simp only [if_pos h]; exact Lc.pure q0 []
  · simp only [if_neg h]; exact Lc.text q0 0 64
theorem Lc.write (q0 : Nat) (an ac : Int) (key : ByteArray) : Lc q0 (fun B q => rwrite B q an ac key) := by
  unfold rwrite
  refine Lc.rb (Lc.dot q0) (fun q d hq => Lc.ite ?_ (Nat.le_refl _))
  refine Lc.rb (Lc.text q 1 16) (fun q1 k h1 => Lc.ite ?_ (by omega))
  refine Lc.rb (Lc.bound q1 0 1) (fun q2 dd h2 => ?_)
  refine Lc.rb (Lc.value q2 dd) (fun q3 vs h3 => ?_)
  exact Lc.rb (Lc.set q3) (fun q4 xs h4 => Lc.ite (Lc.pure q4 _) (Nat.le_refl _))
theorem Lc.lone (q0 : Nat) : Lc q0 (fun B q => rlone B q) := Lc.write q0 0 0 _
theorem Lc.writesA (key : ByteArray) : ∀ (k q0 : Nat) (an ac : Int), Lc q0 (fun B q => rwritesA B key k an ac q)
  | 0, q0, an, ac => by unfold rwritesA; exact Lc.pure q0 []
  | k + 1, q0, an, ac => by
    unfold rwritesA
    exact Lc.rb (Lc.write q0 an ac key) (fun q r hq => Lc.rb (Lc.writesA key k q r.n r.c) (fun q1 l h1 => Lc.pure q1 (r :: l)))
theorem Lc.writes (q0 most : Nat) (key : ByteArray) : Lc q0 (fun B q => rwrites B q most key) := by
  unfold rwrites
  exact Lc.rb (Lc.bound q0 0 most) (fun q k hq => Lc.writesA key k q 0 0)
theorem Lc.setOf (q0 k : Nat) : Lc q0 (fun B q => rsetOf B q k) := by
  unfold rsetOf
  by_cases h : k = 5
  · simp only [if_pos h]; exact Lc.spans q0 _
  · simp only [if_neg h]; exact Lc.set q0
theorem Lc.mws (q0 k : Nat) (key : List Nat) : Lc q0 (fun B q => rmws B k key q) := by
  unfold rmws
  refine Lc.rb (Lc.opt (Lc.rb (Lc.lone q0) (fun q r hq => Lc.pure q [r]))) (fun q w1 hq => ?_)
  exact Lc.opt (Lc.writes q (mostK k) (strB key))
theorem Lc.msgP (q0 : Nat) : Lc q0 (fun B q => rmsgP B q) := by
  unfold rmsgP
  refine Lc.rb (Lc.bound q0 1 11) (fun q k _ => ?_)
  refine Lc.rb (Lc.bound q 0 7) (fun q f _ => ?_)
  refine Lc.rb (Lc.bound q 0 7) (fun q t _ => ?_)
  refine Lc.rb (Lc.opt (Lc.bound q 0 4096)) (fun q ca _ => ?_)
  refine Lc.rb (Lc.opt (Lc.bound q 0 7)) (fun q ow _ => ?_)
  refine Lc.rb (Lc.opt (Lc.bound q 0 15)) (fun q rg _ => ?_)
  refine Lc.rb (Lc.opt (Lc.text q 1 16)) (fun q ky _ => ?_)
  refine Lc.rb (Lc.opt (Lc.dot q)) (fun q d _ => ?_)
  refine Lc.rb (Lc.opt (Lc.setOf q k)) (fun q st _ => ?_)
  exact Lc.rb (Lc.mws q k ky) (fun q ws _ => Lc.pure q _)
/-- where a message goes wrong is within its bytes -/
theorem rmsg_err {B : List Nat} {x : Nat} (h : rmsg B 0 = .error x) : x ≤ B.length := by
  rw [rmsg_P] at h
  cases h1 : rmsgP B 0 with
  | error y =>
    simp only [h1, ds.rb, Except.error.injEq] at h
    subst h
    exact (Lc.msgP 0).err B 0 y (by omega) (by omega) h1
  | ok t =>
    obtain ⟨m, q'⟩ := t
    simp only [h1, ds.rb] at h
    have := (Lc.msgP 0).ok B 0 m q' (by omega) (by omega) h1
    split at h
    · cases h
    · simp only [Except.error.injEq] at h; omega
/-- bytes that are cut off go wrong at their end -/
theorem rmsg_cut {B : List Nat} (hB : ∀ b ∈ B, b < 256) {m : Mg} (hm : VMg m) (he : encM m = B) (c : Nat) (hc : c < B.length) : rmsg (B.take c) 0 = .error c := by
  have h1 : rmsgP B 0 = .ok (m, B.length) := (rmsgP_iff hB _ _ _).2 ⟨hm, by rw [he]; exact St.whole⟩
  have h2 := (Lc.msgP 0).cut B 0 m B.length c (by omega) (by omega) (by omega) h1
  rw [if_neg (by omega)] at h2
  rw [rmsg_P, h2]
  rfl
/-- bytes behind a message go wrong where they begin -/
theorem rmsg_long {B r : List Nat} (hB : ∀ b ∈ B ++ r, b < 256) {m : Mg} (hm : VMg m) (he : encM m = B) (hr : r ≠ []) : rmsg (B ++ r) 0 = .error B.length := by
  have h1 : rmsgP (B ++ r) 0 = .ok (m, B.length) := (rmsgP_iff hB _ _ _).2 ⟨hm, by rw [he]; exact St.whole.more r⟩
  rw [rmsg_P, h1]
  simp only [ds.rb]
  rw [if_neg]
  intro h
  apply hr
  simpa using h
end Go.Proofs.Ytddffdcjhleejaa.ds
namespace Go.Proofs.Ytddffdcjhleejaa.ds
open Go.ChangeShapes Go.WideShapes Go.ChangeAt Go.RowKit Go.Sort
set_option linter.unusedVariables false
set_option linter.unusedSimpArgs false
set_option maxRecDepth 100000
theorem catch76_idle (p1 p2 : Addr) (w : World) :
    CallsD Try.prog 76 #[.pointer (some p1), .pointer (some p2)] .returning w fun e u' w' => e = .returned (.tuple #[]) ∧ u' = .returning ∧ w' = w := by
  refine callsD_of_wpS Try.func76 rfl fun c₀ cs hu => ?_
  apply wpS_seq
  apply wpS_region
  simp [wpOpsS, go_sem, recoverD, hu, Try.ntmps76, Exit.thenS]
  apply wpS_seq
  apply wpS_region
  simp [wpOpsS, go_sem, Exit.thenS]
  refine wpS_cond (t := false) (by simp [Act.eval, Array.replicate]) ?_
  simp only [Bool.false_eq_true, if_false]
  refine wpS_of_wp (wp_skip ?_)
  cases c₀
  simp_all [bodyPostS, results, Try.results76, Exit.thenS]
theorem catch76_panicking (p1 p2 : Addr) (x : Nat) (v1 v2 : Value) (w : World) (h1 : w.cell? p1 = some v1) (f1 : w.frozen? p1 = false) (h2 : w.cell? p2 = some v2) (f2 : w.frozen? p2 = false) (hne : p1.block ≠ p2.block) :
    CallsD Try.prog 76 #[.pointer (some p1), .pointer (some p2)] (.panicking [{ v := .iface 125 (.int .i64 (x : Nat)), recovered := false }]) w fun e u' w' =>
      e = .returned (.tuple #[]) ∧ u' = .panicking [{ v := .iface 125 (.int .i64 (x : Nat)), recovered := true }] ∧ w' = (w.setCell p1 (.int .i64 (x : Nat))).setCell p2 (.int .i64 60) := by
  refine callsD_of_wpS Try.func76 rfl fun c₀ cs hu => ?_
  apply wpS_seq
  apply wpS_region
  simp [wpOpsS, go_sem, recoverD, hu, Try.ntmps76, Exit.thenS]
  apply wpS_seq
  apply wpS_region
  simp [wpOpsS, go_sem, Exit.thenS]
  refine wpS_cond (t := true) (by simp [Act.eval, Array.replicate]) ?_
  simp only [if_true]
  have hta : ∀ w : World, Sem.run Try.prog (Instr.typeAssert (.iface 125 (.int .i64 (x : Nat))) 20 125 false) w = .ok (.int .i64 (x : Nat)) w := fun w => by kernel_rfl
  have h2b : (w.setCell p1 (.int .i64 (x : Nat))).cell? p2 = some v2 := (World.cell?_setCell_far w p1 p2 _ hne).trans h2
  apply wpS_region
  simp [wpOpsS, go_sem, h1, f1, h2, f2, h2b, hta, bodyPostS, results, Try.results76]
theorem catch95_idle (p1 p2 : Addr) (w : World) :
    CallsD Try.prog 95 #[.pointer (some p1), .pointer (some p2)] .returning w fun e u' w' => e = .returned (.tuple #[]) ∧ u' = .returning ∧ w' = w := by
  refine callsD_of_wpS Try.func95 rfl fun c₀ cs hu => ?_
  apply wpS_seq
  apply wpS_region
  simp [wpOpsS, go_sem, recoverD, hu, Try.ntmps95, Exit.thenS]
  apply wpS_seq
  apply wpS_region
  simp [wpOpsS, go_sem, Exit.thenS]
  refine wpS_cond (t := false) (by simp [Act.eval, Array.replicate]) ?_
  simp only [Bool.false_eq_true, if_false]
  refine wpS_of_wp (wp_skip ?_)
  cases c₀
  simp_all [bodyPostS, results, Try.results95, Exit.thenS]
theorem catch95_panicking (p1 p2 : Addr) (x : Nat) (v1 v2 : Value) (w : World) (h1 : w.cell? p1 = some v1) (f1 : w.frozen? p1 = false) (h2 : w.cell? p2 = some v2) (f2 : w.frozen? p2 = false) (hne : p1.block ≠ p2.block) :
    CallsD Try.prog 95 #[.pointer (some p1), .pointer (some p2)] (.panicking [{ v := .iface 125 (.int .i64 (x : Nat)), recovered := false }]) w fun e u' w' =>
      e = .returned (.tuple #[]) ∧ u' = .panicking [{ v := .iface 125 (.int .i64 (x : Nat)), recovered := true }] ∧ w' = (w.setCell p1 (.int .i64 (x : Nat))).setCell p2 (.int .i64 60) := by
  refine callsD_of_wpS Try.func95 rfl fun c₀ cs hu => ?_
  apply wpS_seq
  apply wpS_region
  simp [wpOpsS, go_sem, recoverD, hu, Try.ntmps95, Exit.thenS]
  apply wpS_seq
  apply wpS_region
  simp [wpOpsS, go_sem, Exit.thenS]
  refine wpS_cond (t := true) (by simp [Act.eval, Array.replicate]) ?_
  simp only [if_true]
  have hta : ∀ w : World, Sem.run Try.prog (Instr.typeAssert (.iface 125 (.int .i64 (x : Nat))) 20 125 false) w = .ok (.int .i64 (x : Nat)) w := fun w => by kernel_rfl
  have h2b : (w.setCell p1 (.int .i64 (x : Nat))).cell? p2 = some v2 := (World.cell?_setCell_far w p1 p2 _ hne).trans h2
  apply wpS_region
  simp [wpOpsS, go_sem, h1, f1, h2, f2, h2b, hta, bodyPostS, results, Try.results95]
theorem catch97_idle (p1 p2 : Addr) (w : World) :
    CallsD Try.prog 97 #[.pointer (some p1), .pointer (some p2)] .returning w fun e u' w' => e = .returned (.tuple #[]) ∧ u' = .returning ∧ w' = w := by
  refine callsD_of_wpS Try.func97 rfl fun c₀ cs hu => ?_
  apply wpS_seq
  apply wpS_region
  simp [wpOpsS, go_sem, recoverD, hu, Try.ntmps97, Exit.thenS]
  apply wpS_seq
  apply wpS_region
  simp [wpOpsS, go_sem, Exit.thenS]
  refine wpS_cond (t := false) (by simp [Act.eval, Array.replicate]) ?_
  simp only [Bool.false_eq_true, if_false]
  refine wpS_of_wp (wp_skip ?_)
  cases c₀
  simp_all [bodyPostS, results, Try.results97, Exit.thenS]
theorem catch97_panicking (p1 p2 : Addr) (x : Nat) (v1 v2 : Value) (w : World) (h1 : w.cell? p1 = some v1) (f1 : w.frozen? p1 = false) (h2 : w.cell? p2 = some v2) (f2 : w.frozen? p2 = false) (hne : p1.block ≠ p2.block) :
    CallsD Try.prog 97 #[.pointer (some p1), .pointer (some p2)] (.panicking [{ v := .iface 125 (.int .i64 (x : Nat)), recovered := false }]) w fun e u' w' =>
      e = .returned (.tuple #[]) ∧ u' = .panicking [{ v := .iface 125 (.int .i64 (x : Nat)), recovered := true }] ∧ w' = (w.setCell p1 (.int .i64 (x : Nat))).setCell p2 (.int .i64 60) := by
  refine callsD_of_wpS Try.func97 rfl fun c₀ cs hu => ?_
  apply wpS_seq
  apply wpS_region
  simp [wpOpsS, go_sem, recoverD, hu, Try.ntmps97, Exit.thenS]
  apply wpS_seq
  apply wpS_region
  simp [wpOpsS, go_sem, Exit.thenS]
  refine wpS_cond (t := true) (by simp [Act.eval, Array.replicate]) ?_
  simp only [if_true]
  have hta : ∀ w : World, Sem.run Try.prog (Instr.typeAssert (.iface 125 (.int .i64 (x : Nat))) 20 125 false) w = .ok (.int .i64 (x : Nat)) w := fun w => by kernel_rfl
  have h2b : (w.setCell p1 (.int .i64 (x : Nat))).cell? p2 = some v2 := (World.cell?_setCell_far w p1 p2 _ hne).trans h2
  apply wpS_region
  simp [wpOpsS, go_sem, h1, f1, h2, f2, h2b, hta, bodyPostS, results, Try.results97]
end Go.Proofs.Ytddffdcjhleejaa.ds
