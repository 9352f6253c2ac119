import Derived.Test.YtddffdcjhleejaaGreatG30
import Derived.Test.YtddffdcjhleejaaGreatG31
import Derived.Test.YtddffdcjhleejaaGreatG15
import Derived.Test.YtddffdcjhleejaaGreatG33
namespace Go.Proofs.YtddffdcjhleejaaGreat.ds
open Go.ChangeShapes Go.WideShapes Go.ChangeAt Go.RowKit Go.Sort
set_option linter.unusedVariables false
set_option linter.unusedSimpArgs false
theorem Fresh.reads {w wr : World} {e : E} {r : Wr} (h : Fresh w wr e r) : Reads wr e r :=
  ⟨h.n, h.c, h.k, h.d, h.v.rd, h.vn, h.vl, h.vb, ⟨Sp.of_rd h.x.rd, h.xn, by have := h.xl; omega, h.xf⟩, h.xl, h.v.ok, h.x.ok⟩
theorem FL.rws {w wr : World} {s : Sl} {es : List E} {rs : List Wr} (h : FL w wr s es rs) (hl : s.n ≤ 2000000) : RWs wr s es rs :=
  ⟨h.own.nw.rd, h.own.len, h.len, fun j hj => (h.fr j hj).reads, hl, h.own.nw.ok⟩
theorem VMg.ws512 {g : Mg} (h : VMg g) : g.ws.length ≤ 512 := by
  have := h.wsok.2.1
  have h2 : mostK g.kind ≤ 512 := by unfold mostK; (repeat' split) <;> omega
  omega
/-- a message that was read can be read -/
theorem VMsg.rm {wB w : World} {g : Mg} {v : Value} (h : VMsg wB g v w) (hg : VMg g) (k8 : ∀ b ∈ g.key, b < 256) : ∃ m es, v = .agg m.cs ∧ RM w m g es := by
  obtain ⟨m, es, hv, ⟨h1, h2, h3, h4, h5, h6, h7, h8, h9⟩, ⟨s, hs, hn, hl, hf⟩, hw⟩ := h
  simp only [Value.slice.injEq] at hs
  obtain ⟨e1, e2, e3⟩ := hs
  have hset : m.set = s := by cases hm : m.set; cases s; simp_all
  refine ⟨m, es, hv, h1, h2, h3, h4, h5, h6, h7, k8, h8, h9, ?_, hw.rws ?_, ?_⟩
  · rw [hset]
    exact ⟨Sp.of_rd hn.rd, hl.symm, by have := hg.okset.le8; omega, hf⟩
  · have := hg.ws512; have := hw.len; omega
  · rw [hset]; exact hn.ok
theorem enc_256 (n : Nat) : ∀ b ∈ enc n, b < 256 := by
  induction n using Nat.strongRecOn with
  | ind n ih =>
    intro b hb
    by_cases h : n < 128
    · rw [enc_small h] at hb; simp at hb; omega
    · rw [enc_big h] at hb
      rcases List.mem_cons.1 hb with rfl | hb
      · omega
      · exact ih (n / 128) (by omega) b hb
theorem encT_256 {l : List Nat} (h : ∀ b ∈ l, b < 256) : ∀ b ∈ encT l, b < 256 := by
  intro b hb
  rcases List.mem_append.1 hb with hb | hb
  · exact enc_256 _ b hb
  · exact h b hb
theorem encSet_256 (xs : List S) : ∀ b ∈ encSet xs, b < 256 := by
  intro b hb
  rcases List.mem_append.1 hb with hb | hb
  · exact enc_256 _ b hb
  · obtain ⟨x, _, hx⟩ := List.mem_flatMap.1 hb
    unfold encS at hx
    rcases List.mem_append.1 hx with hx | hx
    · exact enc_256 _ b hx
    · rcases List.mem_append.1 hx with hx | hx <;> exact enc_256 _ b hx
theorem encW_256 {r : Wr} (h : ∀ b ∈ r.vs, b < 256) : ∀ b ∈ encW r, b < 256 := by
  intro b hb
  unfold encW at hb
  rcases List.mem_append.1 hb with hb | hb
  · rcases List.mem_append.1 hb with hb | hb <;> exact enc_256 _ b hb
  · rcases List.mem_append.1 hb with hb | hb
    · exact encT_256 (bsk_lt _) b hb
    · rcases List.mem_append.1 hb with hb | hb
      · unfold encV at hb
        split at hb
        · exact enc_256 _ b hb
        · rcases List.mem_append.1 hb with hb | hb
          · exact enc_256 _ b hb
          · exact encT_256 h b hb
      · exact encSet_256 _ b hb
theorem encO_256 {v : Bool} {l : List Nat} (h : ∀ b ∈ l, b < 256) : ∀ b ∈ encO v l, b < 256 := by
  intro b hb
  unfold encO at hb
  split at hb
  · exact h b hb
  · simp at hb
theorem app_256 {l m : List Nat} (h : ∀ b ∈ l, b < 256) (k : ∀ b ∈ m, b < 256) : ∀ b ∈ l ++ m, b < 256 := by
  intro b hb
  rcases List.mem_append.1 hb with hb | hb
  · exact h b hb
  · exact k b hb
theorem RM.bytes {w : World} {m : MM} {g : Mg} {es : List E} (h : RM w m g es) : ∀ b ∈ encM g, b < 256 := by
  unfold encM
  refine app_256 (enc_256 _) (app_256 (enc_256 _) (app_256 (enc_256 _) (app_256 (encO_256 (enc_256 _)) (app_256 (encO_256 (enc_256 _)) (app_256 (encO_256 (enc_256 _)) (app_256 (encO_256 (encT_256 h.k8)) (app_256 (encO_256 (app_256 (enc_256 _) (enc_256 _))) (app_256 (encO_256 (encSet_256 _)) (app_256 (encO_256 (enc_256 _)) ?_)))))))))
  intro b hb
  obtain ⟨r, hr, hb⟩ := List.mem_flatMap.1 hb
  obtain ⟨j, hj, rfl⟩ := List.getElem_of_mem hr
  have := (h.ws.each j (by rw [← h.ws.rl]; exact hj)).vb
  rw [gR_eq _ _ hj] at this
  exact encW_256 this b hb
theorem Bf.rbs {wB w : World} {s : Sl} {l : List Nat} (h : Bf wB w s l) (h8 : ∀ b ∈ l, b < 256) : RBs w s l := ⟨h.nw.rd, h.len.symm, h8, h.nw.ok⟩
/-- bytes that were just laid in a row -/
theorem rbs_made (w : World) (l : List Nat) (h8 : ∀ b ∈ l, b < 256) : RBs (w.alloc (.cells (l.map fun (n : Nat) => Value.int .u8 (n : Int)).toArray 5)) ⟨some ⟨w.heap.size, 0, none⟩, l.length, l.length⟩ l := by
  refine ⟨fun h0 => ⟨w.heap.size, 0, rfl, by simp, fun j u hj => ?_⟩, rfl, h8, fun e => by cases e⟩
  rw [Nat.zero_add, cell_of_row _ _ _ _ _ _ (heap_alloc_new w _)]
  simpa [byts] using hj
theorem dat_made (w : World) (l : List Nat) (h8 : ∀ b ∈ l, b < 256) (hl : l.length ≤ 1000000) : Dat (w.alloc (.cells (l.map fun (n : Nat) => Value.int .u8 (n : Int)).toArray 5)) (some ⟨w.heap.size, 0, none⟩) l.length l.length l := by
  have := rbs_made w l h8
  exact ⟨this.rd, rfl, hl, Nat.le_refl _, fun e => (by cases e), fun P o e => (by simp at e; obtain ⟨rfl, rfl⟩ := e; simp), h8⟩
/-- the message of the document's examples -/
def gA : Mg := ⟨2, 1, 0, 7, 0, 1, [], 0, 0, [], []⟩
theorem gA_ok : VMg gA := by
  refine ⟨by decide, by decide, by decide, ?_, ?_, ?_, ?_, ?_, ?_, ?_⟩
  all_goals first | decide | (rw [if_neg (by decide)]; rfl) | (rw [if_neg (by decide), if_neg (by decide)]; rfl)
theorem gA_enc : encM gA = [2, 1, 0, 7, 1] := by
  unfold encM
  rw [show hasF gA.kind 1 = true from by decide, show hasF gA.kind 2 = true from by decide, show hasF gA.kind 4 = false from by decide, show hasF gA.kind 8 = false from by decide, show hasF gA.kind 16 = false from by decide, show hasF gA.kind 32 = false from by decide, show hasF gA.kind 128 = false from by decide]
  simp only [gA, encO, if_true, Bool.false_eq_true, if_false, List.flatMap_nil, List.nil_append, List.append_nil]
  rw [enc_small (show 2 < 128 by decide), enc_small (show 1 < 128 by decide), enc_small (show 0 < 128 by decide), enc_small (show 7 < 128 by decide)]
  rfl
theorem gA_rm (w : World) (m : MM) (h : m = ⟨2, 1, 0, 7, 0, 1, ⟨#[]⟩, 0, 0, ⟨none, 0, 0⟩, ⟨none, 0, 0⟩⟩) : RM w m gA [] := by
  subst h
  exact ⟨rfl, rfl, rfl, rfl, rfl, rfl, rfl, by simp [gA], rfl, rfl, L.nil _ _, ⟨Rd.nil _ _, rfl, rfl, fun j hj => absurd hj (by simp), by decide, fun _ => ⟨rfl, rfl⟩⟩, fun _ => ⟨rfl, rfl⟩⟩
theorem gA_dec : rmsg [2, 1, 0, 7, 1] 0 = .ok (gA, 5) := (rmsg_iff (by decide) 0 gA 5).2 ⟨gA_ok, by have := St.whole (l := encM gA); rw [gA_enc] at this ⊢; exact this, rfl⟩
theorem sA_ok : OkL 64 [(⟨2, 5, 10⟩ : S)] := OkL.one.2 ⟨by decide, by decide, by decide, by decide, by decide, by decide, by decide, by decide⟩
theorem sA_enc : encSet [(⟨2, 5, 10⟩ : S)] = [1, 2, 5, 10] := by
  unfold encSet
  simp only [List.length_singleton, List.flatMap_cons, List.flatMap_nil, List.append_nil, encS]
  rw [enc_small (show 1 < 128 by decide), enc_small (show (2 : Int).toNat < 128 by decide), enc_small (show (5 : Int).toNat < 128 by decide), enc_small (show 10 < 128 by decide)]
  rfl
end Go.Proofs.YtddffdcjhleejaaGreat.ds
namespace Go.Proofs.YtddffdcjhleejaaGreat.ds
open Go.ChangeShapes Go.WideShapes Go.ChangeAt Go.RowKit Go.Sort
set_option linter.unusedVariables false
set_option linter.unusedSimpArgs false
/-- two bytes more -/
theorem app_two {wB w : World} {s : Sl} {us : List Nat} (h : Bf wB w s us) (hl : us.length + 2 ≤ 1099511627776) :
    ∃ s' W', (Builtin.append_ #[30, 30] 30 #[.slice s.p s.n s.c, .slice (some ⟨w.heap.size, 0, none⟩) 2 2]).run Tryz.prog (w.alloc (Obj.cells #[.int .u8 165, .int .u8 90] 5)) = .ok (.slice s'.p s'.n s'.c) W' ∧ Bf wB W' s' (us ++ [165, 90]) ∧ Gw w W' s s' := by
  obtain ⟨i0, hif, hz0, hz1, hz2⟩ := info_parts infoB
  have hlen := h.len
  obtain ⟨s5, w5, hrun, hnw5, hs5, ap5, k5, hk5, -, hk6⟩ := run_appM (s := s) 30 30 5 i0 _ 1 1 Tryz.underlying30 hif hz0 hz1 hz2 rfl (by decide) h.nw 2 [.int .u8 165, .int .u8 90] (by decide) rfl (fun u hu => by simp at hu; rcases hu with rfl | rfl <;> rfl) (by unfold maxLen; omega) (by omega)
  refine ⟨s5, w5, hrun, ⟨by rw [byts_app]; exact hnw5, by simp; omega⟩, ap5, fun k hk => ?_⟩
  have e1 : k5 = k := by unfold Sl.v at hk; rw [hk5] at hk; simpa [Value.ownBlock] using hk
  rw [← e1]; exact hk6
theorem RBs.byte {w : World} {s : Sl} {bs : List Nat} (h : RBs w s bs) (i : Nat) (hi : i < s.n) : ∃ P o, s.p = some ⟨P, o, none⟩ ∧ P < w.heap.size ∧ w.cell? ⟨P, o + i, none⟩ = some (.int .u8 ((bs.getD i 0 : Nat) : Int)) := by
  have hl := h.len
  obtain ⟨P, o, e, hP, hc⟩ := h.rd (by simp [byts]; omega)
  refine ⟨P, o, e, hP, hc i _ ?_⟩
  rw [byts, List.getElem?_map, List.getElem?_eq_getElem (by omega), List.getD_eq_getElem?_getD, List.getElem?_eq_getElem (by omega)]
  rfl
structure BP (w : World) (l : List Nat) (e : Ending) (w' : World) : Prop where
  ex : ∃ s : Sl, e = .returned (.slice s.p s.n s.c) ∧ Bf w w' s l
theorem take_snoc {bs : List Nat} {i : Nat} (hi : i < bs.length) : bs.take (i + 1) = bs.take i ++ [bs.getD i 0] := by
  rw [List.take_add_one, List.getD_eq_getElem?_getD, List.getElem?_eq_getElem hi]; rfl
set_option maxHeartbeats 4000000 in
set_option maxRecDepth 100000 in
/-- a copy of bytes, with two marks behind it -/
theorem bytes_ok {w : World} {s : Sl} {bs : List Nat} (h : RBs w s bs) (hl : bs.length ≤ 1000000000) : Calls Tryz.prog 18 #[.slice s.p s.n s.c] w fun r w' => BP w (bs ++ [165, 90]) r w' := by
  have HR := hid h
  have HLE := hid h.len
  have hlim : s.n ≤ 1000000000 := by rw [← h.len]; exact hl
  clear h hl
  go_enter Tryz.func18, Tryz.ntmps18
  go_wp2_with fail
  go_loopw [3, 4] (fun a b wt => ∃ (i : Nat) (t : Sl), a = .slice t.p t.n t.c ∧ b = .int .i64 (i : Nat) ∧ i ≤ s.n ∧ Bf w wt t (bs.take i)) (fun _ b _ => s.n - (intOf b).toNat)
  case atStart => exact ⟨0, ⟨none, 0, 0⟩, rfl, rfl, Nat.zero_le _, Bf.nil (Apart.refl _ _)⟩
  case round =>
    obtain ⟨i, t, rfl, rfl, hi, hb⟩ := hrel
    have HB := hid hb
    clear hb
    by_cases hlt : i < s.n
    · have hlti : ((i : Nat) : Int) < (s.n : Int) := by omega
      obtain ⟨P, o, hP, hPl, hc⟩ := (HR.out.kept0 HB.out.nw.ap).byte i hlt
      obtain ⟨d, Hd⟩ : ∃ d, Hid (d = bs.getD i 0) := ⟨_, rfl⟩
      rw [← Hd.out] at hc
      obtain ⟨s2, w2, hrun, hb2, hg2⟩ := app_byte HB.out d (by simp; omega)
      have HRUN := hid hrun
      have HB2 : Hid (Bf w w2 s2 (bs.take (i + 1))) := by unfold Hid; rw [take_snoc (by rw [HLE.out]; exact hlt), ← Hd.out]; exact hb2
      clear hrun hb2 hg2
      generalize s.p = sp at *
      subst hP
      go_wp2_with (at_builtin; refine wpList_app2 rfl (.tmp 11) (.tmp 16) 30 30 rfl _ _ rfl rfl _ _ HRUN.out ?_)
      go_roundw
      case rel => exact ⟨i + 1, s2, rfl, by go_num, by omega, HB2.out⟩
      case measure => simp [intOf]; omega
    · have hlti : ¬ ((i : Nat) : Int) < (s.n : Int) := by omega
      have HB1 : Hid (Bf w wr t bs) := by
        unfold Hid
        have := HB.out
        rw [List.take_of_length_le (by rw [HLE.out]; omega)] at this
        exact this
      obtain ⟨s2, w2, hrun, hb2, hg2⟩ := app_two HB1.out (by rw [HLE.out]; omega)
      have HRUN := hid hrun
      have HB2 := hid hb2
      clear hrun hb2 hg2
      go_wp2_with (at_builtin; refine wpList_app2 rfl (.tmp 18) (.tmp 19) 30 30 rfl _ _ rfl rfl _ _ HRUN.out ?_)
      go_ret
      exact ⟨s2, rfl, HB2.out⟩
/-- the beginning of bytes of one's own -/
theorem Bf.pre {wB w : World} {s : Sl} {l r : List Nat} (h : Bf wB w s (l ++ r)) (h8 : ∀ b ∈ l, b < 256) (hl : l.length ≤ 1000000) (hr : r ≠ []) : Dat w s.p l.length s.c l := by
  have hlen := h.len
  have hrl : 0 < r.length := List.length_pos_iff.2 hr
  rw [List.length_append] at hlen
  refine ⟨fun h0 => ?_, rfl, hl, ?_, fun e => ?_, fun P o e => ?_, h8⟩
  · obtain ⟨P, o, e, hP, hc⟩ := h.nw.rd (by simp [byts]; omega)
    refine ⟨P, o, e, hP, fun j u hj => hc j u ?_⟩
    rw [byts_app]
    have hj' : j < (byts l).length := by
      by_cases hq : j < (byts l).length
      · exact hq
      · rw [List.getElem?_eq_none (by omega)] at hj; cases hj
    rw [List.getElem?_append_left hj']
    exact hj
  · obtain ⟨_, ⟨hv, hz⟩ | ⟨g, cap, cur, hv, _, _, hle, _⟩⟩ := h.nw.own
    · omega
    · unfold Sl.v at hv; simp at hv; omega
  · have := (h.nw.ok e).1; omega
  · exact (h.nw.own.lt P (by unfold Sl.v; rw [e]; rfl)).2
theorem slice_cap {wB w : World} {s : Sl} {l r : List Nat} (h : Bf wB w s (l ++ r)) (hr : r ≠ []) : l.length ≤ s.c ∧ ∃ g, s.p = some ⟨g, 0, none⟩ := by
  have hlen := h.len
  have hrl : 0 < r.length := List.length_pos_iff.2 hr
  rw [List.length_append] at hlen
  obtain ⟨_, ⟨hv, hz⟩ | ⟨g, cap, cur, hv, _, _, hle, _⟩⟩ := h.nw.own
  · omega
  · unfold Sl.v at hv
    simp at hv
    exact ⟨by omega, g, hv.1⟩
end Go.Proofs.YtddffdcjhleejaaGreat.ds
namespace Go.Proofs.YtddffdcjhleejaaGreat.ds
open Go.ChangeShapes Go.WideShapes Go.ChangeAt Go.RowKit Go.Sort
set_option linter.unusedVariables false
set_option linter.unusedSimpArgs false
def mkS : S := ⟨77, 77, 77⟩
/-- a list of spans in memory of the call's own -/
structure Ss (wB w : World) (s : Sl) (xs : List S) : Prop where
  nw : Nw wB w 48 3 s (flat xs)
  len : s.n = xs.length
  fit : ∀ x ∈ xs, x.t < 2 ^ 64
theorem Ss.kept {wB w w' : World} {s : Sl} {xs : List S} (h : Ss wB w s xs) (a : Apart [] w w') : Ss wB w' s xs := ⟨h.nw.kept a, h.len, h.fit⟩
theorem Ss.nil {wB w : World} (a : Apart [] wB w) : Ss wB w ⟨none, 0, 0⟩ [] := ⟨⟨World.ownsRow_nil _ _ _ _, by simp [Sl.v, Value.ownBlock], a⟩, rfl, by simp⟩
theorem app_span {wB w : World} {s : Sl} {xs : List S} (h : Ss wB w s xs) (x : S) (hx : x.t < 2 ^ 64) (hl : xs.length ≤ 2000000) :
    ∃ s' W', (Builtin.append_ #[26, 26] 26 #[.slice s.p s.n s.c, .slice (some ⟨w.heap.size, 0, none⟩) 1 1]).run Tryz.prog (w.alloc (Obj.cells #[.int .i64 x.n, .int .i64 x.b, .int .u64 (x.t : Int)] 48)) = .ok (.slice s'.p s'.n s'.c) W' ∧ Ss wB W' s' (xs ++ [x]) := by
  obtain ⟨i0, hif, hz0, hz1, hz2⟩ := info_parts info52
  have hlen := h.len
  obtain ⟨s5, w5, hrun, hnw5, hs5, ap5, k5, hk5, -, hk6⟩ := run_appM (s := s) 26 26 48 i0 _ 3 24 Tryz.underlying26 hif hz0 hz1 hz2 rfl (by decide) h.nw 1 [.int .i64 x.n, .int .i64 x.b, .int .u64 (x.t : Int)] (by decide) rfl (fun u hu => by simp at hu; rcases hu with rfl | rfl | rfl <;> rfl) (by unfold maxLen; omega) (by omega)
  exact ⟨s5, w5, hrun, ⟨by rw [flat_snoc]; exact hnw5, by simp; omega, fun y hy => by
    rcases List.mem_append.1 hy with hy | hy
    · exact h.fit y hy
    · simp at hy; rw [hy]; exact hx⟩⟩
structure SpP (w : World) (xs : List S) (e : Ending) (w' : World) : Prop where
  ex : ∃ s : Sl, e = .returned (.slice s.p s.n s.c) ∧ Ss w w' s xs
set_option maxHeartbeats 4000000 in
set_option maxRecDepth 100000 in
/-- a copy of spans, with a mark behind it -/
theorem spansL_ok {w : World} {p : Option Addr} {n c : Nat} {xs : List S} (h : L w p n xs) (hl : n ≤ 2000000) : Calls Tryz.prog 21 #[.slice p n c] w fun r w' => SpP w (xs ++ [mkS]) r w' := by
  have HR := hid h
  have HLE := hid h.len
  clear h
  go_enter Tryz.func21, Tryz.ntmps21
  go_wp2_with fail
  go_loopw [3, 4] (fun a b wt => ∃ (i : Nat) (t : Sl), a = .slice t.p t.n t.c ∧ b = .int .i64 (i : Nat) ∧ i ≤ n ∧ Ss w wt t (xs.take i)) (fun _ b _ => n - (intOf b).toNat)
  case atStart => exact ⟨0, ⟨none, 0, 0⟩, rfl, rfl, Nat.zero_le _, Ss.nil (Apart.refl _ _)⟩
  case round =>
    obtain ⟨i, t, rfl, rfl, hi, hb⟩ := hrel
    have HB := hid hb
    clear hb
    by_cases hlt : i < n
    · have hlti : ((i : Nat) : Int) < (n : Int) := by omega
      have hil : i < xs.length := by rw [HLE.out]; exact hlt
      obtain ⟨P, o, hP, hPl, hc⟩ := (HR.out.kept0 HB.out.nw.ap).sp (by omega)
      obtain ⟨c0, c1, c2⟩ := hc i hil
      subst hP
      clear hc
      obtain ⟨x, Hx⟩ : ∃ x, Hid (x = g xs i) := ⟨_, rfl⟩
      rw [← Hx.out] at c0 c1 c2
      obtain ⟨s2, w2, hrun, hb2⟩ := app_span HB.out x (HR.out.fit x (by rw [Hx.out]; exact g_mem hil)) (by simp; omega)
      have HRUN := hid hrun
      have HB2 : Hid (Ss w w2 s2 (xs.take (i + 1))) := by unfold Hid; rw [take_g hil, ← Hx.out]; exact hb2
      clear hrun hb2
      go_wp2_with (at_builtin; refine wpList_app2 rfl (.tmp 11) (.tmp 16) 26 26 rfl _ _ rfl rfl _ _ HRUN.out ?_)
      go_roundw
      case rel => exact ⟨i + 1, s2, rfl, by go_num, by omega, HB2.out⟩
      case measure => simp [intOf]; omega
    · have hlti : ¬ ((i : Nat) : Int) < (n : Int) := by omega
      have HB1 : Hid (Ss w wr t xs) := by
        unfold Hid
        have := HB.out
        rw [List.take_of_length_le (by rw [HLE.out]; omega)] at this
        exact this
      obtain ⟨s2, w2, hrun, hb2⟩ := app_span HB1.out mkS (by decide) (by rw [HLE.out]; omega)
      have HRUN : Hid ((Builtin.append_ #[26, 26] 26 #[.slice t.p t.n t.c, .slice (some ⟨wr.heap.size, 0, none⟩) 1 1]).run Tryz.prog (wr.alloc (Obj.cells #[.int .i64 77, .int .i64 77, .int .u64 77] 48)) = .ok (.slice s2.p s2.n s2.c) w2) := hrun
      have HB2 := hid hb2
      clear hrun hb2
      go_wp2_with (at_builtin; refine wpList_app2 rfl (.tmp 18) (.tmp 20) 26 26 rfl _ _ rfl rfl _ _ HRUN.out ?_)
      go_ret
      exact ⟨s2, rfl, HB2.out⟩
/-- a write that is lent: its lists are the beginnings of lists with marks behind -/
structure Ln (w W : World) (e : E) (r : Wr) (sv sx : Sl) : Prop where
  n : e.n = r.n
  c : e.c = r.c
  k : e.k = r.k
  d : e.d = r.d
  v : e.v = ⟨sv.p, r.vs.length, sv.c⟩
  x : e.x = ⟨sx.p, r.xs.length, sx.c⟩
  bv : Bf w W sv (r.vs ++ [165, 90])
  bx : Ss w W sx (r.xs ++ [mkS])
  vb : ∀ b ∈ r.vs, b < 256
  vl : r.vs.length ≤ 2000000
  xl : r.xs.length ≤ 2000000
theorem Bf.keepT {wB w w' : World} {s : Sl} {us : List Nat} {X : List Nat} (h : Bf wB w s us) (a : Apart X w w') (ap : Apart [] wB w') (hX : ∀ k ∈ X, ∀ cur, w.heap[k]? ≠ some (.cells cur 5 (0, 0))) : Bf wB w' s us := ⟨h.nw.keepT a ap hX, h.len⟩
theorem Ss.keepT {wB w w' : World} {s : Sl} {us : List S} {X : List Nat} (h : Ss wB w s us) (a : Apart X w w') (ap : Apart [] wB w') (hX : ∀ k ∈ X, ∀ cur, w.heap[k]? ≠ some (.cells cur 48 (0, 0))) : Ss wB w' s us := ⟨h.nw.keepT a ap hX, h.len, h.fit⟩
theorem Ln.keepT {w W W' : World} {e : E} {r : Wr} {sv sx : Sl} {X : List Nat} (h : Ln w W e r sv sx) (a : Apart X W W') (ap : Apart [] w W') (hX : ∀ k ∈ X, ∀ cur, W.heap[k]? ≠ some (.cells cur 5 (0, 0)) ∧ W.heap[k]? ≠ some (.cells cur 48 (0, 0))) : Ln w W' e r sv sx :=
  { h with bv := h.bv.keepT a ap (fun k hk cur => (hX k hk cur).1), bx := h.bx.keepT a ap (fun k hk cur => (hX k hk cur).2) }
theorem Ln.kept {w W W' : World} {e : E} {r : Wr} {sv sx : Sl} (h : Ln w W e r sv sx) (a : Apart [] W W') : Ln w W' e r sv sx := h.keepT a (h.bv.nw.ap.trans a) (by simp)
theorem Rd.pre {w : World} {p : Option Addr} {us vs : List Value} (h : Rd w p (us ++ vs)) : Rd w p us := by
  intro h0
  obtain ⟨P, o, e, hP, hc⟩ := h (by simp; omega)
  refine ⟨P, o, e, hP, fun j u hj => hc j u ?_⟩
  have hj' : j < us.length := by
    by_cases hq : j < us.length
    · exact hq
    · rw [List.getElem?_eq_none (by omega)] at hj; cases hj
  rw [List.getElem?_append_left hj']
  exact hj
theorem Ln.reads {w W : World} {e : E} {r : Wr} {sv sx : Sl} (h : Ln w W e r sv sx) : Reads W e r := by
  have hv := h.v
  have hx := h.x
  have e1 : e.v.p = sv.p ∧ e.v.n = r.vs.length ∧ e.v.c = sv.c := by rw [hv]; exact ⟨rfl, rfl, rfl⟩
  have e2 : e.x.p = sx.p ∧ e.x.n = r.xs.length ∧ e.x.c = sx.c := by rw [hx]; exact ⟨rfl, rfl, rfl⟩
  refine ⟨h.n, h.c, h.k, h.d, ?_, e1.2.1.symm, by rw [e1.2.1]; exact h.vl, h.vb, ?_, by rw [e2.2.1]; exact h.xl, ?_, ?_⟩
  · rw [e1.1]
    have := h.bv.nw.rd
    rw [byts_app] at this
    exact this.pre
  · rw [e2.1, e2.2.1]
    have := h.bx.nw.rd
    rw [flat_snoc] at this
    exact ⟨Sp.of_rd this.pre, rfl, by have := h.xl; omega, fun y hy => h.bx.fit y (List.mem_append_left _ hy)⟩
  · intro hp
    rw [e1.1] at hp
    have := (h.bv.nw.ok hp).1
    have := h.bv.len
    simp at this
    omega
  · intro hp
    rw [e2.1] at hp
    have := (h.bx.nw.ok hp).1
    have := h.bx.len
    simp at this
    omega
theorem Ss.cap {wB w : World} {s : Sl} {xs : List S} (h : Ss wB w s (xs ++ [mkS])) : xs.length ≤ s.c ∧ ∃ g, s.p = some ⟨g, 0, none⟩ := by
  have hlen := h.len
  rw [List.length_append] at hlen
  simp at hlen
  obtain ⟨_, ⟨hv, hz⟩ | ⟨g, cap, cur, hv, _, _, hle, _⟩⟩ := h.nw.own
  · omega
  · unfold Sl.v at hv
    simp at hv
    exact ⟨by omega, g, hv.1⟩
end Go.Proofs.YtddffdcjhleejaaGreat.ds
