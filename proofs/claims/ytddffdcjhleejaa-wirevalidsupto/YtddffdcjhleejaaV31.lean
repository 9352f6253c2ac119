import Derived.Test.YtddffdcjhleejaaV30
import Derived.Test.YtddffdcjhleejaaV23
import Derived.Test.YtddffdcjhleejaaV26
import Derived.Test.YtddffdcjhleejaaV27
namespace Go.Proofs.Ytddffdcjhleejaa.ds
open Go.ChangeShapes Go.WideShapes Go.ChangeAt Go.RowKit Go.Sort
set_option linter.unusedVariables false
set_option linter.unusedSimpArgs false
set_option maxHeartbeats 8000000 in
set_option maxRecDepth 100000 in
/-- GetSet at a place that is none -/
theorem getSet_bad (w : World) (p : Option Addr) (N c : Nat) (q : Int) (hN : N ≤ 1000000) (hq : q < 0 ∨ (N : Int) < q) :
    Calls Try.prog 26 #[.slice p N c, .int .i64 q] w fun e w' => Apart [] w w' ∧ e = .returned (.tuple #[.slice none 0 0, .int .i64 0, .int .i64 1]) := by
  have HC := hid (read_set_bad w p N c q hN hq)
  clear hN hq
  go_enter Try.func26, Try.ntmps26
  go_wp2_with fail
  refine HC.out.mono ?_
  rintro e w1 ⟨ap1, he⟩
  have HP := hid ap1
  subst he
  clear ap1
  try dsimp only
  go_wp2_with fail
  go_ret3
  exact ⟨HP.out, rfl⟩
set_option maxHeartbeats 8000000 in
set_option maxRecDepth 100000 in
/-- GetWrite at a place that is none -/
theorem getWrite_bad (w : World) (p : Option Addr) (N c : Nat) (q : Int) (hN : N ≤ 1000000) (hq : q < 0 ∨ (N : Int) < q) :
    Calls Try.prog 24 #[.slice p N c, .int .i64 q] w fun e w' => Apart [] w w' ∧ e = .returned (.tuple #[.agg zE, .int .i64 0, .int .i64 1]) := by
  obtain ⟨w0, hw0⟩ : ∃ w0, w0 = w.alloc (.cells #[Value.int IntKind.i64 0, Value.int IntKind.i64 0, Value.string { data := #[] }, Value.bool false, Value.slice none 0 0, Value.slice none 0 0] 41) := ⟨_, rfl⟩
  obtain ⟨G, HG⟩ : ∃ G, Hid (G = w.heap.size) := ⟨_, rfl⟩
  have a0 : Apart [] w w0 := by rw [hw0]; exact (Apart.refl [] w).alloc _
  have g0 : w0.heap[G]? = some (.cells zE 41 (0, 0)) := by rw [HG.out, hw0]; exact heap_alloc_new w _
  have HA0 := hid a0
  have HG0 := hid g0
  have HC := hid (read_wr_bad w0 p N c q hN hq)
  clear hN hq a0 g0
  go_enter Try.func24, Try.ntmps24
  go_wp2_with fail
  rw [← hw0, ← HG.out]
  clear hw0
  refine HC.out.mono ?_
  rintro e w1 ⟨ap1, he⟩
  have HA1 := hid (HA0.out.trans ap1)
  have HG1 := hid ((ap1.block _ (lt_of_heap HG0.out) (by simp)).trans HG0.out)
  subst he
  clear ap1
  have hone : True := trivial
  · unfold zE
    try dsimp only
    have z0 : w1.cell? ⟨G, 0, none⟩ = _ := crow HG1.out 0 _ rfl
    have y0 := frozen_of_row _ _ 0 _ _ HG1.out
    have z1 : w1.cell? ⟨G, 1, none⟩ = _ := crow HG1.out 1 _ rfl
    have y1 := frozen_of_row _ _ 1 _ _ HG1.out
    have z2 : w1.cell? ⟨G, 2, none⟩ = _ := crow HG1.out 2 _ rfl
    have y2 := frozen_of_row _ _ 2 _ _ HG1.out
    have z3 : w1.cell? ⟨G, 3, none⟩ = _ := crow HG1.out 3 _ rfl
    have y3 := frozen_of_row _ _ 3 _ _ HG1.out
    have z4 : w1.cell? ⟨G, 4, none⟩ = _ := crow HG1.out 4 _ rfl
    have y4 := frozen_of_row _ _ 4 _ _ HG1.out
    have z5 : w1.cell? ⟨G, 5, none⟩ = _ := crow HG1.out 5 _ rfl
    have y5 := frozen_of_row _ _ 5 _ _ HG1.out
    obtain ⟨w2, Hw2⟩ : ∃ w2, Hid (w2 = ((((((w1.setCell ⟨G, 0, none⟩ (.int .i64 0)).setCell ⟨G, 1, none⟩ (.int .i64 0)).setCell ⟨G, 2, none⟩ (.string ⟨#[]⟩)).setCell ⟨G, 3, none⟩ (.bool false)).setCell ⟨G, 4, none⟩ (.slice none 0 0)).setCell ⟨G, 5, none⟩ (.slice none 0 0))) := ⟨_, rfl⟩
    have HG2 : Hid (w2.heap[G]? = some (.cells zE 41 (0, 0))) := by
      unfold Hid
      rw [Hw2.out]
      have h1 := heap_setCell_same w1 G 0 _ 41 (.int .i64 0) HG1.out
      have h2 := heap_setCell_same _ G 1 _ 41 (.int .i64 0) h1
      have h3 := heap_setCell_same _ G 2 _ 41 (.string ⟨#[]⟩) h2
      have h4 := heap_setCell_same _ G 3 _ 41 (.bool false) h3
      have h5 := heap_setCell_same _ G 4 _ 41 (.slice none 0 0) h4
      have h6 := heap_setCell_same _ G 5 _ 41 (.slice none 0 0) h5
      simpa [zE, E.cs, Sl.v] using h6
    have HS2 : Hid (Apart [G] w1 w2) := by unfold Hid; rw [Hw2.out]; exact (((((((Apart.refl _ _).setCell (.inl (by simp)) _).setCell (.inl (by simp)) _).setCell (.inl (by simp)) _).setCell (.inl (by simp)) _).setCell (.inl (by simp)) _).setCell (.inl (by simp)) _)
    have HA2 : Hid (Apart [] w w2) := HA1.out.trans' HS2.out (by intro y hy; simp at hy; rw [hy]; have := HG.out; exact .inr (by omega))
    have HP2 : Hid (Apart [] w w2 ∧ (Ending.returned (.tuple #[.agg zE, .int .i64 0, .int .i64 1])) = .returned (.tuple #[.agg zE, .int .i64 0, .int .i64 1])) := ⟨HA2.out, rfl⟩
    go_wp2_with fail
    rw [← Hw2.out]
    clear z0 y0 z1 y1 z2 y2 z3 y3 z4 y4 z5 y5
    have c0 : w2.cell? ⟨G, 0, none⟩ = some (.int .i64 0) := crow HG2.out 0 _ rfl
    have c1 : w2.cell? ⟨G, 1, none⟩ = some (.int .i64 0) := crow HG2.out 1 _ rfl
    have c2 : w2.cell? ⟨G, 2, none⟩ = some (.string ⟨#[]⟩) := crow HG2.out 2 _ rfl
    have c3 : w2.cell? ⟨G, 3, none⟩ = some (.bool false) := crow HG2.out 3 _ rfl
    have c4 : w2.cell? ⟨G, 4, none⟩ = some (.slice none 0 0) := crow HG2.out 4 _ rfl
    have c5 : w2.cell? ⟨G, 5, none⟩ = some (.slice none 0 0) := crow HG2.out 5 _ rfl
    refine bodyPost_ret (v := .tuple #[.agg zE, .int .i64 0, .int .i64 1]) ?_ rfl ⟨HA2.out, rfl⟩
    simp [results, Try.results24, go_sem, zE, E.cs, Sl.v, c0, c1, c2, c3, c4, c5]
end Go.Proofs.Ytddffdcjhleejaa.ds
namespace Go.Proofs.Ytddffdcjhleejaa.ds
open Go.ChangeShapes Go.WideShapes Go.ChangeAt Go.RowKit Go.Sort
set_option linter.unusedVariables false
set_option linter.unusedSimpArgs false
theorem St.mem {B : List Nat} : ∀ {l : List Nat} {q q' : Nat}, St B q l q' → ∀ x ∈ l, x ∈ B
  | [], q, q', h, x, hx => by simp at hx
  | y :: l, q, q', h, x, hx => by
    obtain ⟨h1, h2, h3⟩ := h
    rcases List.mem_cons.1 hx with rfl | hx
    · rw [← h2, List.getD_eq_getElem?_getD, List.getElem?_eq_getElem h1]; exact List.getElem_mem _
    · exact St.mem h3 x hx
theorem VMg.key8 {g : Mg} (h : VMg g) {B : List Nat} (hB : ∀ b ∈ B, b < 256) {q q' : Nat} (hs : St B q (encM g) q') : ∀ b ∈ g.key, b < 256 := by
  intro b hb
  have hk := h.key
  by_cases h8 : hasF g.kind 8 = true
  · refine hB b (hs.mem b ?_)
    unfold encM encO encT
    simp [h8, hb]
  · rw [if_neg h8] at hk
    rw [hk] at hb
    simp at hb
theorem Fresh.reads {w wr : World} {e : E} {r : Wr} (h : Fresh w wr e r) : Reads wr e r :=
  ⟨h.n, h.c, h.k, h.d, h.v.rd, h.vn, h.vl, h.vb, ⟨Sp.of_rd h.x.rd, h.xn, by have := h.xl; omega, h.xf⟩, h.xl, h.v.ok, h.x.ok⟩
theorem FL.rws {w wr : World} {s : Sl} {es : List E} {rs : List Wr} (h : FL w wr s es rs) (hl : s.n ≤ 2000000) : RWs wr s es rs :=
  ⟨h.own.nw.rd, h.own.len, h.len, fun j hj => (h.fr j hj).reads, hl, h.own.nw.ok⟩
theorem VMg.ws512 {g : Mg} (h : VMg g) : g.ws.length ≤ 512 := by
  have := h.wsok.2.1
  have h2 : mostK g.kind ≤ 512 := by unfold mostK; (repeat' split) <;> omega
  omega
/-- a message that was read can be read -/
theorem VMsg.rm {wB w : World} {g : Mg} {v : Value} (h : VMsg wB g v w) (hg : VMg g) (k8 : ∀ b ∈ g.key, b < 256) : ∃ m es, v = .agg m.cs ∧ RM w m g es := by
  obtain ⟨m, es, hv, ⟨h1, h2, h3, h4, h5, h6, h7, h8, h9⟩, ⟨s, hs, hn, hl, hf⟩, hw⟩ := h
  simp only [Value.slice.injEq] at hs
  obtain ⟨e1, e2, e3⟩ := hs
  have hset : m.set = s := by cases hm : m.set; cases s; simp_all
  refine ⟨m, es, hv, h1, h2, h3, h4, h5, h6, h7, k8, h8, h9, ?_, hw.rws ?_, ?_⟩
  · rw [hset]
    exact ⟨Sp.of_rd hn.rd, hl.symm, by have := hg.okset.le8; omega, hf⟩
  · have := hg.ws512; have := hw.len; omega
  · rw [hset]; exact hn.ok
theorem enc_256 (n : Nat) : ∀ b ∈ enc n, b < 256 := by
  induction n using Nat.strongRecOn with
  | ind n ih =>
    intro b hb
    by_cases h : n < 128
    · rw [enc_small h] at hb; simp at hb; omega
    · rw [enc_big h] at hb
      rcases List.mem_cons.1 hb with rfl | hb
      · omega
      · exact ih (n / 128) (by omega) b hb
theorem encT_256 {l : List Nat} (h : ∀ b ∈ l, b < 256) : ∀ b ∈ encT l, b < 256 := by
  intro b hb
  rcases List.mem_append.1 hb with hb | hb
  · exact enc_256 _ b hb
  · exact h b hb
theorem encSet_256 (xs : List S) : ∀ b ∈ encSet xs, b < 256 := by
  intro b hb
  rcases List.mem_append.1 hb with hb | hb
  · exact enc_256 _ b hb
  · obtain ⟨x, _, hx⟩ := List.mem_flatMap.1 hb
    unfold encS at hx
    rcases List.mem_append.1 hx with hx | hx
    · exact enc_256 _ b hx
    · rcases List.mem_append.1 hx with hx | hx <;> exact enc_256 _ b hx
theorem encW_256 {r : Wr} (h : ∀ b ∈ r.vs, b < 256) : ∀ b ∈ encW r, b < 256 := by
  intro b hb
  unfold encW at hb
  rcases List.mem_append.1 hb with hb | hb
  · rcases List.mem_append.1 hb with hb | hb <;> exact enc_256 _ b hb
  · rcases List.mem_append.1 hb with hb | hb
    · exact encT_256 (bsk_lt _) b hb
    · rcases List.mem_append.1 hb with hb | hb
      · unfold encV at hb
        split at hb
        · exact enc_256 _ b hb
        · rcases List.mem_append.1 hb with hb | hb
          · exact enc_256 _ b hb
          · exact encT_256 h b hb
      · exact encSet_256 _ b hb
theorem encO_256 {v : Bool} {l : List Nat} (h : ∀ b ∈ l, b < 256) : ∀ b ∈ encO v l, b < 256 := by
  intro b hb
  unfold encO at hb
  split at hb
  · exact h b hb
  · simp at hb
theorem app_256 {l m : List Nat} (h : ∀ b ∈ l, b < 256) (k : ∀ b ∈ m, b < 256) : ∀ b ∈ l ++ m, b < 256 := by
  intro b hb
  rcases List.mem_append.1 hb with hb | hb
  · exact h b hb
  · exact k b hb
theorem RM.bytes {w : World} {m : MM} {g : Mg} {es : List E} (h : RM w m g es) : ∀ b ∈ encM g, b < 256 := by
  unfold encM
  refine app_256 (enc_256 _) (app_256 (enc_256 _) (app_256 (enc_256 _) (app_256 (encO_256 (enc_256 _)) (app_256 (encO_256 (enc_256 _)) (app_256 (encO_256 (enc_256 _)) (app_256 (encO_256 (encT_256 h.k8)) (app_256 (encO_256 (app_256 (enc_256 _) (enc_256 _))) (app_256 (encO_256 (encSet_256 _)) (app_256 (encO_256 (enc_256 _)) ?_)))))))))
  intro b hb
  obtain ⟨r, hr, hb⟩ := List.mem_flatMap.1 hb
  obtain ⟨j, hj, rfl⟩ := List.getElem_of_mem hr
  have := (h.ws.each j (by rw [← h.ws.rl]; exact hj)).vb
  rw [gR_eq _ _ hj] at this
  exact encW_256 this b hb
theorem Bf.dat {wB w : World} {s : Sl} {l : List Nat} (h : Bf wB w s l) (h8 : ∀ b ∈ l, b < 256) (hl : l.length ≤ 1000000) : Dat w s.p s.n s.c l := by
  have hlen := h.len
  refine ⟨h.nw.rd, hlen.symm, by omega, ?_, h.nw.ok, fun P o e => ?_, h8⟩
  · obtain ⟨_, ⟨hv, hz⟩ | ⟨g, cap, cur, hv, _, _, hle, _⟩⟩ := h.nw.own
    · unfold Sl.v at hv; simp at hv; omega
    · unfold Sl.v at hv; simp at hv; omega
  · exact (h.nw.own.lt P (by unfold Sl.v; rw [e]; rfl)).2
theorem Bf.rbs {wB w : World} {s : Sl} {l : List Nat} (h : Bf wB w s l) (h8 : ∀ b ∈ l, b < 256) : RBs w s l := ⟨h.nw.rd, h.len.symm, h8, h.nw.ok⟩
/-- bytes that were just laid in a row -/
theorem rbs_made (w : World) (l : List Nat) (h8 : ∀ b ∈ l, b < 256) : RBs (w.alloc (.cells (l.map fun (n : Nat) => Value.int .u8 (n : Int)).toArray 5)) ⟨some ⟨w.heap.size, 0, none⟩, l.length, l.length⟩ l := by
  refine ⟨fun h0 => ⟨w.heap.size, 0, rfl, by simp, fun j u hj => ?_⟩, rfl, h8, fun e => by cases e⟩
  rw [Nat.zero_add, cell_of_row _ _ _ _ _ _ (heap_alloc_new w _)]
  simpa [byts] using hj
theorem dat_made (w : World) (l : List Nat) (h8 : ∀ b ∈ l, b < 256) (hl : l.length ≤ 1000000) : Dat (w.alloc (.cells (l.map fun (n : Nat) => Value.int .u8 (n : Int)).toArray 5)) (some ⟨w.heap.size, 0, none⟩) l.length l.length l := by
  have := rbs_made w l h8
  exact ⟨this.rd, rfl, hl, Nat.le_refl _, fun e => (by cases e), fun P o e => (by simp at e; obtain ⟨rfl, rfl⟩ := e; simp), h8⟩
/-- the message of the document's examples -/
def gA : Mg := ⟨2, 1, 0, 7, 0, 1, [], 0, 0, [], []⟩
theorem gA_ok : VMg gA := by
  refine ⟨by decide, by decide, by decide, ?_, ?_, ?_, ?_, ?_, ?_, ?_⟩
  all_goals first | decide | (rw [if_neg (by decide)]; rfl) | (rw [if_neg (by decide), if_neg (by decide)]; rfl)
theorem gA_enc : encM gA = [2, 1, 0, 7, 1] := by
  unfold encM
  rw [show hasF gA.kind 1 = true from by decide, show hasF gA.kind 2 = true from by decide, show hasF gA.kind 4 = false from by decide, show hasF gA.kind 8 = false from by decide, show hasF gA.kind 16 = false from by decide, show hasF gA.kind 32 = false from by decide, show hasF gA.kind 128 = false from by decide]
  simp only [gA, encO, if_true, Bool.false_eq_true, if_false, List.flatMap_nil, List.nil_append, List.append_nil]
  rw [enc_small (show 2 < 128 by decide), enc_small (show 1 < 128 by decide), enc_small (show 0 < 128 by decide), enc_small (show 7 < 128 by decide)]
  rfl
theorem gA_rm (w : World) (m : MM) (h : m = ⟨2, 1, 0, 7, 0, 1, ⟨#[]⟩, 0, 0, ⟨none, 0, 0⟩, ⟨none, 0, 0⟩⟩) : RM w m gA [] := by
  subst h
  exact ⟨rfl, rfl, rfl, rfl, rfl, rfl, rfl, by simp [gA], rfl, rfl, L.nil _ _, ⟨Rd.nil _ _, rfl, rfl, fun j hj => absurd hj (by simp), by decide, fun _ => ⟨rfl, rfl⟩⟩, fun _ => ⟨rfl, rfl⟩⟩
theorem gA_dec : rmsg [2, 1, 0, 7, 1] 0 = .ok (gA, 5) := (rmsg_iff (by decide) 0 gA 5).2 ⟨gA_ok, by have := St.whole (l := encM gA); rw [gA_enc] at this ⊢; exact this, rfl⟩
theorem sA_ok : OkL 64 [(⟨2, 5, 10⟩ : S)] := OkL.one.2 ⟨by decide, by decide, by decide, by decide, by decide, by decide, by decide, by decide⟩
theorem sA_enc : encSet [(⟨2, 5, 10⟩ : S)] = [1, 2, 5, 10] := by
  unfold encSet
  simp only [List.length_singleton, List.flatMap_cons, List.flatMap_nil, List.append_nil, encS]
  rw [enc_small (show 1 < 128 by decide), enc_small (show (2 : Int).toNat < 128 by decide), enc_small (show (5 : Int).toNat < 128 by decide), enc_small (show 10 < 128 by decide)]
  rfl
end Go.Proofs.Ytddffdcjhleejaa.ds
namespace Go.Proofs.Ytddffdcjhleejaa.ds
open Go.ChangeShapes Go.WideShapes Go.ChangeAt Go.RowKit Go.Sort
set_option linter.unusedVariables false
set_option linter.unusedSimpArgs false
theorem VMsg.gA {wB w : World} {v : Value} (h : VMsg wB gA v w) : ∃ (ss ws : Sl) (es : List E), v = .agg #[.int .i64 2, .int .i64 1, .int .i64 0, .int .i64 7, .int .i64 0, .int .i64 1, .string ⟨#[]⟩, .int .i64 0, .int .i64 0, .slice ss.p ss.n ss.c, .slice ws.p ws.n ws.c] ∧ RM w ⟨2, 1, 0, 7, 0, 1, ⟨#[]⟩, 0, 0, ss, ws⟩ ds.gA es := by
  obtain ⟨m, es, hv, hm⟩ := h.rm gA_ok (by simp [ds.gA])
  obtain ⟨k, f, t, c, r, o, ky, dn, dc, ss, ws⟩ := m
  have e1 : k = 2 := hm.kind
  have e2 : f = 1 := hm.frm
  have e3 : t = 0 := hm.dst
  have e4 : c = 7 := hm.call
  have e5 : r = 0 := hm.rng
  have e6 : o = 1 := hm.own
  have e7 : ky = ⟨#[]⟩ := hm.key
  have e8 : dn = 0 := hm.dn
  have e9 : dc = 0 := hm.dc
  subst e1 e2 e3 e4 e5 e6 e7 e8 e9
  exact ⟨ss, ws, es, hv, hm⟩
set_option maxHeartbeats 8000000 in
set_option maxRecDepth 100000 in
theorem alive_ok (w : World) : Calls Try.prog 13 #[] w fun r w' => r = .returned (.bool true) ∧ Apart [] w w' := by
  have HC1 : Hid (Calls Try.prog 17 #[.agg #[.int .i64 2, .int .i64 1, .int .i64 0, .int .i64 7, .int .i64 0, .int .i64 1, .string ⟨#[]⟩, .int .i64 0, .int .i64 0, .slice none 0 0, .slice none 0 0]] w fun r w' => EncP w [2, 1, 0, 7, 1] r w') := by
    have := encode_yes w ⟨2, 1, 0, 7, 0, 1, ⟨#[]⟩, 0, 0, ⟨none, 0, 0⟩, ⟨none, 0, 0⟩⟩ gA [] (gA_rm w _ rfl) gA_ok
    rw [gA_enc] at this
    exact this
  have HC2 : Hid (∀ W, Calls Try.prog 14 #[.slice (some ⟨W.heap.size, 0, none⟩) 5 5] (W.alloc (.cells #[.int .u8 2, .int .u8 1, .int .u8 0, .int .u8 7, .int .u8 1] 5)) fun e w' => ∃ (ss ws : Sl) (es : List E), e = .returned (.tuple #[.agg #[.int .i64 2, .int .i64 1, .int .i64 0, .int .i64 7, .int .i64 0, .int .i64 1, .string ⟨#[]⟩, .int .i64 0, .int .i64 0, .slice ss.p ss.n ss.c, .slice ws.p ws.n ws.c], .int .i64 0, .int .i64 0]) ∧ RM w' ⟨2, 1, 0, 7, 0, 1, ⟨#[]⟩, 0, 0, ss, ws⟩ gA es ∧ Apart [] W w') := fun W => by
    have := decode_ok (dat_made W [2, 1, 0, 7, 1] (by decide) (by decide))
    refine (this.mono ?_)
    intro e w' hp
    obtain ⟨v, he, hv⟩ := hp.ok gA 5 gA_dec
    obtain ⟨ss, ws, es, hv1, hv2⟩ := VMsg.gA hv
    exact ⟨ss, ws, es, by rw [he, hv1], hv2, ((Apart.refl [] W).alloc _).trans hp.ap⟩
  have HC3 : Hid (∀ W, Calls Try.prog 22 #[.slice (some ⟨W.heap.size, 0, none⟩) 1 1] (W.alloc (.cells #[.int .i64 2, .int .i64 5, .int .u64 10] 86)) fun e w' => ∃ s : Sl, e = .returned (.tuple #[.slice s.p s.n s.c, .int .i64 0]) ∧ Bf W w' s [1, 2, 5, 10]) := fun W => by
    have a : Apart [] W (W.alloc (.cells #[.int .i64 2, .int .i64 5, .int .u64 10] 86)) := (Apart.refl [] W).alloc _
    have := putSet_ok (W.alloc (.cells #[.int .i64 2, .int .i64 5, .int .u64 10] 86)) (some ⟨W.heap.size, 0, none⟩) 1 1 [⟨2, 5, 10⟩] (rowL (x := ⟨2, 5, 10⟩) (heap_alloc_new W _) (by decide)) true (by simp [sA_ok])
    rw [sA_enc] at this
    refine this.mono ?_
    intro e w' hp
    obtain ⟨s, h1, h2⟩ := hp.yes rfl
    exact ⟨s, h1, h2.nw.from a, h2.len⟩
  have HC4 : Hid (∀ W, Calls Try.prog 20 #[.agg #[.int .i64 0, .int .i64 0, .string ⟨#[]⟩, .bool false, .slice none 0 0, .slice none 0 0]] W fun e w' => e = .returned (.tuple #[.slice none 0 0, .int .i64 52]) ∧ Apart [] W w') := fun W => by
    have := putWrite_ok W E.z Wr.z ⟨rfl, rfl, rfl, rfl, Rd.nil _ _, rfl, by decide, by simp [Wr.z], L.nil _ _, by decide, fun _ => ⟨rfl, rfl⟩, fun _ => ⟨rfl, rfl⟩⟩ false (by
      simp only [Bool.false_eq_true, false_iff]
      intro h
      have := h.dot.2.1
      simp [Wr.z] at this)
    refine this.mono ?_
    intro e w' hp
    exact ⟨hp.no rfl, hp.ap⟩
  go_enter Try.func13, Try.ntmps13
  go_wp2_with fail
  refine HC1.out.mono ?_
  rintro _ w2 ⟨s2, rfl, hb2⟩
  have HB2 := hid hb2
  clear hb2
  try dsimp only
  go_wp2_with fail
  refine (HC2.out w2).mono ?_
  rintro _ w3 ⟨ss, ws, es, rfl, hm3, ha3⟩
  have HM3 := hid hm3
  have HA3 := hid ha3
  clear hm3 ha3
  try dsimp only
  obtain ⟨w4, hw4⟩ : ∃ w4, w4 = w3.alloc (.cells #[.int .i64 2, .int .i64 1, .int .i64 0, .int .i64 7, .int .i64 0, .int .i64 1, .string ⟨#[]⟩, .int .i64 0, .int .i64 0, .slice ss.p ss.n ss.c, .slice ws.p ws.n ws.c] 29) := ⟨_, rfl⟩
  have HX4 : Hid (w4.heap[w3.heap.size]? = some (.cells #[.int .i64 2, .int .i64 1, .int .i64 0, .int .i64 7, .int .i64 0, .int .i64 1, .string ⟨#[]⟩, .int .i64 0, .int .i64 0, .slice ss.p ss.n ss.c, .slice ws.p ws.n ws.c] 29 (0, 0))) := by unfold Hid; rw [hw4]; exact heap_alloc_new w3 _
  have HA4 : Hid (Apart [] w3 w4) := by unfold Hid; rw [hw4]; exact (Apart.refl [] w3).alloc _
  obtain ⟨X, HXX⟩ : ∃ X, Hid (X = w3.heap.size) := ⟨_, rfl⟩
  rw [← HXX.out] at HX4
  go_upto_region 3 with fail
  rw [← hw4, ← HXX.out]
  clear hw4
  go_wp2_with fail
  refine (HC3.out w4).mono ?_
  rintro _ w5 ⟨s5, rfl, hb5⟩
  have HB5 := hid hb5
  clear hb5
  try dsimp only
  go_wp2_with fail
  refine (HC4.out w5).mono ?_
  rintro _ w6 ⟨rfl, ha6⟩
  have HA6 := hid ha6
  clear ha6
  try dsimp only
  have HB6 := hid (HB5.out.kept HA6.out)
  have HS46 : Hid (Apart [] w4 w6) := HB5.out.nw.ap.trans HA6.out
  have HB26 := hid (HB2.out.kept ((HA3.out.trans HA4.out).trans HS46.out))
  have HX6 : Hid (w6.heap[X]? = some (.cells #[.int .i64 2, .int .i64 1, .int .i64 0, .int .i64 7, .int .i64 0, .int .i64 1, .string ⟨#[]⟩, .int .i64 0, .int .i64 0, .slice ss.p ss.n ss.c, .slice ws.p ws.n ws.c] 29 (0, 0))) := (HS46.out.block _ (lt_of_heap HX4.out) (by simp)).trans HX4.out
  have HM6 := hid (HM3.out.kept0 (HA4.out.trans HS46.out))
  have HC5 : Hid (Calls Try.prog 18 #[.slice s2.p s2.n s2.c, .slice (some ⟨w6.heap.size, 0, none⟩) 5 5] (w6.alloc (.cells #[.int .u8 2, .int .u8 1, .int .u8 0, .int .u8 7, .int .u8 1] 5)) fun r w' => r = .returned (.bool true) ∧ w' = w6.alloc (.cells #[.int .u8 2, .int .u8 1, .int .u8 0, .int .u8 7, .int .u8 1] 5)) :=
    sameBytes_ok ((HB26.out.kept ((Apart.refl [] w6).alloc _)).rbs (by decide)) (rbs_made w6 [2, 1, 0, 7, 1] (by decide)) true (by simp)
  go_wp2_with fail
  refine HC5.out.mono ?_
  obtain ⟨w7, hw7⟩ : ∃ w7, w7 = w6.alloc (.cells #[.int .u8 2, .int .u8 1, .int .u8 0, .int .u8 7, .int .u8 1] 5) := ⟨_, rfl⟩
  have HA7 : Hid (Apart [] w6 w7) := by unfold Hid; rw [hw7]; exact (Apart.refl [] w6).alloc _
  rw [← hw7]
  clear hw7
  rintro _ wn ⟨rfl, hwn⟩
  rw [hwn]
  clear hwn wn
  try dsimp only
  have HX7 : Hid (w7.heap[X]? = some (.cells #[.int .i64 2, .int .i64 1, .int .i64 0, .int .i64 7, .int .i64 0, .int .i64 1, .string ⟨#[]⟩, .int .i64 0, .int .i64 0, .slice ss.p ss.n ss.c, .slice ws.p ws.n ws.c] 29 (0, 0))) := (HA7.out.block _ (lt_of_heap HX6.out) (by simp)).trans HX6.out
  have z0 : w7.cell? ⟨X, 0, none⟩ = some (.int .i64 2) := by rw [cell_of_row _ _ _ _ _ _ HX7.out]; rfl
  have z3 : w7.cell? ⟨X, 3, none⟩ = some (.int .i64 7) := by rw [cell_of_row _ _ _ _ _ _ HX7.out]; rfl
  have HC6 : Hid (Calls Try.prog 18 #[.slice s5.p s5.n s5.c, .slice (some ⟨w7.heap.size, 0, none⟩) 4 4] (w7.alloc (.cells #[.int .u8 1, .int .u8 2, .int .u8 5, .int .u8 10] 5)) fun r w' => r = .returned (.bool true) ∧ w' = w7.alloc (.cells #[.int .u8 1, .int .u8 2, .int .u8 5, .int .u8 10] 5)) :=
    sameBytes_ok ((HB6.out.kept (HA7.out.trans ((Apart.refl [] w7).alloc _))).rbs (by decide)) (rbs_made w7 [1, 2, 5, 10] (by decide)) true (by simp)
  go_wp2_with fail
  refine HC6.out.mono ?_
  obtain ⟨w8, hw8⟩ : ∃ w8, w8 = w7.alloc (.cells #[.int .u8 1, .int .u8 2, .int .u8 5, .int .u8 10] 5) := ⟨_, rfl⟩
  have HA8 : Hid (Apart [] w7 w8) := by unfold Hid; rw [hw8]; exact (Apart.refl [] w7).alloc _
  rw [← hw8]
  clear hw8 z0 z3
  rintro _ wn ⟨rfl, hwn⟩
  rw [hwn]
  clear hwn wn
  try dsimp only
  have HX8 : Hid (w8.heap[X]? = some (.cells #[.int .i64 2, .int .i64 1, .int .i64 0, .int .i64 7, .int .i64 0, .int .i64 1, .string ⟨#[]⟩, .int .i64 0, .int .i64 0, .slice ss.p ss.n ss.c, .slice ws.p ws.n ws.c] 29 (0, 0))) := (HA8.out.block _ (lt_of_heap HX7.out) (by simp)).trans HX7.out
  obtain ⟨⟨z0, z1, z2, z3, z4, z5⟩, z6, z7, z8, z9, z10⟩ := mrow11 (m := ⟨2, 1, 0, 7, 0, 1, ⟨#[]⟩, 0, 0, ss, ws⟩) HX8.out
  simp only at z0 z1 z2 z3 z4 z5 z6 z7 z8 z9 z10
  have HC7 : Hid (Calls Try.prog 33 #[.agg #[.int .i64 2, .int .i64 1, .int .i64 0, .int .i64 7, .int .i64 0, .int .i64 1, .string ⟨#[]⟩, .int .i64 0, .int .i64 0, .slice ss.p ss.n ss.c, .slice ws.p ws.n ws.c]] w8 fun r w' => r = .returned (.bool true) ∧ Apart [] w8 w') := valid_yes w8 ⟨2, 1, 0, 7, 0, 1, ⟨#[]⟩, 0, 0, ss, ws⟩ gA es (HM6.out.kept0 (HA7.out.trans HA8.out)) gA_ok
  go_wp2_with fail
  refine HC7.out.mono ?_
  rintro _ w9 ⟨rfl, ha9⟩
  have HA9 : Hid (Apart [] w w9) := (HB26.out.nw.ap.trans (HA7.out.trans HA8.out)).trans ha9
  clear ha9
  try dsimp only
  go_wp2_with fail
  go_ret
  exact ⟨rfl, HA9.out⟩
end Go.Proofs.Ytddffdcjhleejaa.ds
namespace Go.Proofs.Ytddffdcjhleejaa.ds
open Go.ChangeShapes Go.WideShapes Go.ChangeAt Go.RowKit Go.Sort
set_option linter.unusedVariables false
set_option linter.unusedSimpArgs false
/-- two bytes more -/
theorem app_two {wB w : World} {s : Sl} {us : List Nat} (h : Bf wB w s us) (hl : us.length + 2 ≤ 1099511627776) :
    ∃ s' W', (Builtin.append_ #[22, 22] 22 #[.slice s.p s.n s.c, .slice (some ⟨w.heap.size, 0, none⟩) 2 2]).run Try.prog (w.alloc (Obj.cells #[.int .u8 165, .int .u8 90] 5)) = .ok (.slice s'.p s'.n s'.c) W' ∧ Bf wB W' s' (us ++ [165, 90]) ∧ Gw w W' s s' := by
  obtain ⟨i0, hif, hz0, hz1, hz2⟩ := info_parts infoB
  have hlen := h.len
  obtain ⟨s5, w5, hrun, hnw5, hs5, ap5, k5, hk5, -, hk6⟩ := run_appM (s := s) 22 22 5 i0 _ 1 1 Try.underlying22 hif hz0 hz1 hz2 rfl (by decide) h.nw 2 [.int .u8 165, .int .u8 90] (by decide) rfl (fun u hu => by simp at hu; rcases hu with rfl | rfl <;> rfl) (by unfold maxLen; omega) (by omega)
  refine ⟨s5, w5, hrun, ⟨by rw [byts_app]; exact hnw5, by simp; omega⟩, ap5, fun k hk => ?_⟩
  have e1 : k5 = k := by unfold Sl.v at hk; rw [hk5] at hk; simpa [Value.ownBlock] using hk
  rw [← e1]; exact hk6
theorem RBs.byte {w : World} {s : Sl} {bs : List Nat} (h : RBs w s bs) (i : Nat) (hi : i < s.n) : ∃ P o, s.p = some ⟨P, o, none⟩ ∧ P < w.heap.size ∧ w.cell? ⟨P, o + i, none⟩ = some (.int .u8 ((bs.getD i 0 : Nat) : Int)) := by
  have hl := h.len
  obtain ⟨P, o, e, hP, hc⟩ := h.rd (by simp [byts]; omega)
  refine ⟨P, o, e, hP, hc i _ ?_⟩
  rw [byts, List.getElem?_map, List.getElem?_eq_getElem (by omega), List.getD_eq_getElem?_getD, List.getElem?_eq_getElem (by omega)]
  rfl
structure BP (w : World) (l : List Nat) (e : Ending) (w' : World) : Prop where
  ex : ∃ s : Sl, e = .returned (.slice s.p s.n s.c) ∧ Bf w w' s l
theorem take_snoc {bs : List Nat} {i : Nat} (hi : i < bs.length) : bs.take (i + 1) = bs.take i ++ [bs.getD i 0] := by
  rw [List.take_add_one, List.getD_eq_getElem?_getD, List.getElem?_eq_getElem hi]; rfl
set_option maxHeartbeats 4000000 in
set_option maxRecDepth 100000 in
/-- a copy of bytes, with two marks behind it -/
theorem bytes_ok {w : World} {s : Sl} {bs : List Nat} (h : RBs w s bs) (hl : bs.length ≤ 1000000000) : Calls Try.prog 15 #[.slice s.p s.n s.c] w fun r w' => BP w (bs ++ [165, 90]) r w' := by
  have HR := hid h
  have HLE := hid h.len
  have hlim : s.n ≤ 1000000000 := by rw [← h.len]; exact hl
  clear h hl
  go_enter Try.func15, Try.ntmps15
  go_wp2_with fail
  go_loopw [3, 4] (fun a b wt => ∃ (i : Nat) (t : Sl), a = .slice t.p t.n t.c ∧ b = .int .i64 (i : Nat) ∧ i ≤ s.n ∧ Bf w wt t (bs.take i)) (fun _ b _ => s.n - (intOf b).toNat)
  case atStart => exact ⟨0, ⟨none, 0, 0⟩, rfl, rfl, Nat.zero_le _, Bf.nil (Apart.refl _ _)⟩
  case round =>
    obtain ⟨i, t, rfl, rfl, hi, hb⟩ := hrel
    have HB := hid hb
    clear hb
    by_cases hlt : i < s.n
    · have hlti : ((i : Nat) : Int) < (s.n : Int) := by omega
      obtain ⟨P, o, hP, hPl, hc⟩ := (HR.out.kept0 HB.out.nw.ap).byte i hlt
      obtain ⟨d, Hd⟩ : ∃ d, Hid (d = bs.getD i 0) := ⟨_, rfl⟩
      rw [← Hd.out] at hc
      obtain ⟨s2, w2, hrun, hb2, hg2⟩ := app_byte HB.out d (by simp; omega)
      have HRUN := hid hrun
      have HB2 : Hid (Bf w w2 s2 (bs.take (i + 1))) := by unfold Hid; rw [take_snoc (by rw [HLE.out]; exact hlt), ← Hd.out]; exact hb2
      clear hrun hb2 hg2
      generalize s.p = sp at *
      subst hP
      go_wp2_with (at_builtin; refine wpList_app2 rfl (.tmp 11) (.tmp 16) 22 22 rfl _ _ rfl rfl _ _ HRUN.out ?_)
      go_roundw
      case rel => exact ⟨i + 1, s2, rfl, by go_num, by omega, HB2.out⟩
      case measure => simp [intOf]; omega
    · have hlti : ¬ ((i : Nat) : Int) < (s.n : Int) := by omega
      have HB1 : Hid (Bf w wr t bs) := by
        unfold Hid
        have := HB.out
        rw [List.take_of_length_le (by rw [HLE.out]; omega)] at this
        exact this
      obtain ⟨s2, w2, hrun, hb2, hg2⟩ := app_two HB1.out (by rw [HLE.out]; omega)
      have HRUN := hid hrun
      have HB2 := hid hb2
      clear hrun hb2 hg2
      go_wp2_with (at_builtin; refine wpList_app2 rfl (.tmp 18) (.tmp 19) 22 22 rfl _ _ rfl rfl _ _ HRUN.out ?_)
      go_ret
      exact ⟨s2, rfl, HB2.out⟩
/-- the beginning of bytes of one's own -/
theorem Bf.pre {wB w : World} {s : Sl} {l r : List Nat} (h : Bf wB w s (l ++ r)) (h8 : ∀ b ∈ l, b < 256) (hl : l.length ≤ 1000000) (hr : r ≠ []) : Dat w s.p l.length s.c l := by
  have hlen := h.len
  have hrl : 0 < r.length := List.length_pos_iff.2 hr
  rw [List.length_append] at hlen
  refine ⟨fun h0 => ?_, rfl, hl, ?_, fun e => ?_, fun P o e => ?_, h8⟩
  · obtain ⟨P, o, e, hP, hc⟩ := h.nw.rd (by simp [byts]; omega)
    refine ⟨P, o, e, hP, fun j u hj => hc j u ?_⟩
    rw [byts_app]
    have hj' : j < (byts l).length := by
      by_cases hq : j < (byts l).length
      · exact hq
      · rw [List.getElem?_eq_none (by omega)] at hj; cases hj
    rw [List.getElem?_append_left hj']
    exact hj
  · obtain ⟨_, ⟨hv, hz⟩ | ⟨g, cap, cur, hv, _, _, hle, _⟩⟩ := h.nw.own
    · omega
    · unfold Sl.v at hv; simp at hv; omega
  · have := (h.nw.ok e).1; omega
  · exact (h.nw.own.lt P (by unfold Sl.v; rw [e]; rfl)).2
def gZ : Mg := ⟨0, 0, 0, 0, 0, 0, [], 0, 0, [], []⟩
theorem gZ_rm (w : World) : RM w MM.z gZ [] := ⟨rfl, rfl, rfl, rfl, rfl, rfl, rfl, by simp [gZ], rfl, rfl, L.nil _ _, ⟨Rd.nil _ _, rfl, rfl, fun j hj => absurd hj (by simp [MM.z]), by decide, fun _ => ⟨rfl, rfl⟩⟩, fun _ => ⟨rfl, rfl⟩⟩
theorem Dat.rbs {w : World} {p : Option Addr} {N c : Nat} {B : List Nat} (h : Dat w p N c B) : RBs w ⟨p, N, c⟩ B := ⟨h.rd, h.len, h.b8, h.ok⟩
theorem slice_cap {wB w : World} {s : Sl} {l r : List Nat} (h : Bf wB w s (l ++ r)) (hr : r ≠ []) : l.length ≤ s.c ∧ ∃ g, s.p = some ⟨g, 0, none⟩ := by
  have hlen := h.len
  have hrl : 0 < r.length := List.length_pos_iff.2 hr
  rw [List.length_append] at hlen
  obtain ⟨_, ⟨hv, hz⟩ | ⟨g, cap, cur, hv, _, _, hle, _⟩⟩ := h.nw.own
  · omega
  · unfold Sl.v at hv
    simp at hv
    exact ⟨by omega, g, hv.1⟩
set_option maxHeartbeats 8000000 in
set_option maxRecDepth 100000 in
theorem one_walk (w : World) (s : Sl) (bs : List Nat) (h : RBs w s bs) (hlim : s.n ≤ 9223372036854775807) : Calls Try.prog 3 #[.slice s.p s.n s.c] w fun r w' => r = .returned (.bool true) ∧ Apart [] w w' := by
  have HR := hid h
  have HLE := hid h.len
  clear h
  by_cases hbig : s.n ≤ 200000
  · have hbi : ¬ ((s.n : Nat) : Int) > 200000 := by omega
    have HC0 := hid (alive_ok w)
    go_enter Try.func3, Try.ntmps3
    go_wp2_with fail
    refine HC0.out.mono ?_
    rintro _ w1 ⟨rfl, ha1⟩
    have HA1 := hid ha1
    have HR1 := hid (HR.out.kept0 ha1)
    clear ha1
    try dsimp only
    go_wp2_with fail
    refine (bytes_ok HR1.out (by rw [HLE.out]; omega)).mono ?_
    rintro _ w2 ⟨t, rfl, hb2⟩
    have HB2 := hid hb2
    obtain ⟨hcap, gg, hgp⟩ := slice_cap hb2 (by simp)
    have HD2 : Hid (Dat w2 t.p s.n t.c bs) := by
      unfold Hid
      have := hb2.pre HR.out.b8 (by rw [HLE.out]; omega) (by simp)
      rw [HLE.out] at this
      exact this
    have hcap2 : s.n ≤ t.c := by rw [← HLE.out]; exact hcap
    clear hb2 hcap
    obtain ⟨tp, tn, tc⟩ := t
    simp only at hgp hcap2 HD2 ⊢
    subst hgp
    have hcap3 : ((s.n : Nat) : Int) ≤ (tc : Int) := by omega
    try dsimp only
    go_wp2_with fail
    refine (decode_ok HD2.out).mono ?_
    rintro e w3 hp
    have HA3 : Hid (Apart [] w w3) := (HA1.out.trans HB2.out.nw.ap).trans hp.ap
    have HR3 := hid (HR.out.kept0 HA3.out)
    cases hr : rmsg bs 0 with
    | error x =>
      have he := hp.no x hr
      have hxl := rmsg_err hr
      rw [HLE.out] at hxl
      have hxi : ((x : Nat) : Int) ≤ (s.n : Int) := by omega
      have hx0 : ((x : Nat) : Int) ≥ 0 := by omega
      subst he
      clear hp hr
      have hz : MM.z.cs = #[.int .i64 0, .int .i64 0, .int .i64 0, .int .i64 0, .int .i64 0, .int .i64 0, .string ⟨#[]⟩, .int .i64 0, .int .i64 0, .slice none 0 0, .slice none 0 0] := rfl
      rw [hz]
      clear hz
      try dsimp only
      obtain ⟨w4, hw4⟩ : ∃ w4, w4 = w3.alloc (.cells #[.int .i64 0, .int .i64 0, .int .i64 0, .int .i64 0, .int .i64 0, .int .i64 0, .string ⟨#[]⟩, .int .i64 0, .int .i64 0, .slice none 0 0, .slice none 0 0] 29) := ⟨_, rfl⟩
      have HX4 : Hid (w4.heap[w3.heap.size]? = some (.cells #[.int .i64 0, .int .i64 0, .int .i64 0, .int .i64 0, .int .i64 0, .int .i64 0, .string ⟨#[]⟩, .int .i64 0, .int .i64 0, .slice none 0 0, .slice none 0 0] 29 (0, 0))) := by unfold Hid; rw [hw4]; exact heap_alloc_new w3 _
      have HA4 : Hid (Apart [] w w4) := by unfold Hid; rw [hw4]; exact HA3.out.alloc _
      obtain ⟨X, HXX⟩ : ∃ X, Hid (X = w3.heap.size) := ⟨_, rfl⟩
      rw [← HXX.out] at HX4
      obtain ⟨⟨z0, z1, z2, z3, z4, z5⟩, z6, z7, z8, z9, z10⟩ := mrow11 (m := MM.z) HX4.out
      simp only [MM.z, Int.natCast_zero] at z0 z1 z2 z3 z4 z5 z6 z7 z8 z9 z10
      have HCm : Hid (Calls Try.prog 16 #[.agg #[.int .i64 0, .int .i64 0, .int .i64 0, .int .i64 0, .int .i64 0, .int .i64 0, .string ⟨#[]⟩, .int .i64 0, .int .i64 0, .slice none 0 0, .slice none 0 0], .agg #[.int .i64 0, .int .i64 0, .int .i64 0, .int .i64 0, .int .i64 0, .int .i64 0, .string ⟨#[]⟩, .int .i64 0, .int .i64 0, .slice none 0 0, .slice none 0 0]] w4 fun r w' => r = .returned (.bool true) ∧ Apart [] w4 w') := sameMsg_ok MM.z MM.z gZ gZ [] [] (gZ_rm w4) (gZ_rm w4) true (by simp)
      go_upto_region 5 with fail
      rw [← hw4, ← HXX.out]
      clear hw4
      go_wp2_with fail
      refine HCm.out.mono ?_
      rintro _ w5 ⟨rfl, ha5⟩
      have HA5 : Hid (Apart [] w w5) := HA4.out.trans ha5
      clear ha5 z0 z1 z2 z3 z4 z5 z6 z7 z8 z9 z10
      try dsimp only
      go_wp2_with fail
      go_ret
      exact ⟨rfl, HA5.out⟩
    | ok t =>
      obtain ⟨g, q⟩ := t
      obtain ⟨v, he, hv⟩ := hp.ok g q hr
      obtain ⟨hg, hst, hq⟩ := (rmsg_iff HR.out.b8 0 g q).1 hr
      rw [hq] at hst
      obtain ⟨m, es, hvm, hm⟩ := hv.rm hg (hg.key8 HR.out.b8 hst)
      have HEQ : Hid (encM g = bs) := hst.eq
      subst he hvm
      have HM3 := hid hm
      have HG := hid hg
      clear hp hr hv hm hg hst hq
      unfold MM.cs
      try dsimp only
      obtain ⟨w4, hw4⟩ : ∃ w4, w4 = w3.alloc (.cells #[.int .i64 (m.kind : Nat), .int .i64 (m.frm : Nat), .int .i64 (m.dst : Nat), .int .i64 (m.call : Nat), .int .i64 (m.rng : Nat), .int .i64 (m.own : Nat), .string m.key, .int .i64 (m.dn : Nat), .int .i64 (m.dc : Nat), .slice m.set.p m.set.n m.set.c, .slice m.ws.p m.ws.n m.ws.c] 29) := ⟨_, rfl⟩
      have HX4 : Hid (w4.heap[w3.heap.size]? = some (.cells m.cs 29 (0, 0))) := by unfold Hid; rw [hw4]; exact heap_alloc_new w3 _
      have HS4 : Hid (Apart [] w3 w4) := by unfold Hid; rw [hw4]; exact (Apart.refl [] w3).alloc _
      obtain ⟨X, HXX⟩ : ∃ X, Hid (X = w3.heap.size) := ⟨_, rfl⟩
      rw [← HXX.out] at HX4
      obtain ⟨⟨z0, z1, z2, z3, z4, z5⟩, z6, z7, z8, z9, z10⟩ := mrow11 HX4.out
      have HCe := hid (encode_yes w4 m g es (HM3.out.kept0 HS4.out) HG.out)
      go_upto_region 5 with fail
      rw [← hw4, ← HXX.out]
      clear hw4
      go_wp2_with fail
      refine HCe.out.mono ?_
      rintro _ w5 ⟨s5, rfl, hb5⟩
      have HB5 := hid hb5
      have HA5 : Hid (Apart [] w w5) := HA3.out.trans (HS4.out.trans hb5.nw.ap)
      clear hb5 z0 z1 z2 z3 z4 z5 z6 z7 z8 z9 z10
      have HCb : Hid (Calls Try.prog 18 #[.slice s5.p s5.n s5.c, .slice s.p s.n s.c] w5 fun r w' => r = .returned (.bool true) ∧ w' = w5) := sameBytes_ok (HB5.out.rbs (by rw [HEQ.out]; exact HR.out.b8)) (HR.out.kept0 HA5.out) true (by simp [HEQ.out])
      try dsimp only
      go_wp2_with fail
      refine HCb.out.mono ?_
      rintro _ wn ⟨rfl, hwn⟩
      rw [hwn]
      clear hwn wn
      try dsimp only
      go_wp2_with fail
      go_ret
      exact ⟨rfl, HA5.out⟩
  · have hbi : ((s.n : Nat) : Int) > 200000 := by omega
    go_enter Try.func3, Try.ntmps3
    go_wp2_with fail
    go_ret
    exact ⟨rfl, Apart.refl _ _⟩
end Go.Proofs.Ytddffdcjhleejaa.ds
