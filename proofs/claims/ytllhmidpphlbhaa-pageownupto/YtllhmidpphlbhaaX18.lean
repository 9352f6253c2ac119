import Derived.Test.YtllhmidpphlbhaaX14
namespace Go.Proofs.Ytllhmidpphlbhaa.ds
open Go.ChangeShapes Go.WideShapes Go.ChangeAt Go.RowKit Go.Sort
set_option linter.unusedVariables false
set_option linter.unusedSimpArgs false

theorem rsT_pos {B : List Nat} (hB : B.length = 2048) (h8 : ∀ b ∈ B, b < 256) (h : (endR B).bad = false) (hk : (headR B ⟨0, false⟩).1.k ≠ 1) : 0 < (rsT B).length := by
  obtain ⟨hv, hp, -⟩ := check_one hB h8 h
  unfold rsT
  rw [if_neg hk, rsOf_len]
  cases hc : pcR B with
  | clocks g cs => exact absurd (pcR_C hc).1 hk
  | key k ws =>
    rw [hc] at hv
    obtain ⟨e1, e2, e3⟩ := pcR_K hc
    have := hv.2.1.1
    rw [← e3, List.length_map] at this
    unfold wsR at this
    rw [writesR_len] at this
    omega
  | hint o k w => rw [headR_3 (pcR_H (endR_ok1 h) hB h8 hc).1]; decide
theorem keyOf_1 {B : List Nat} (hk : (headR B ⟨0, false⟩).1.k = 1) : keyOf B = ⟨#[]⟩ := by
  unfold keyOf
  rw [headR_kn B ⟨0, false⟩ (by omega), List.take_zero]
  rfl
theorem rsT_at {B : List Nat} {i : Nat} (hk : (headR B ⟨0, false⟩).1.k ≠ 1) (hg : (endR B).bad = false) (h : i < (rsT B).length) : vErr B (i : Int) = 0 ∧ gR (rsT B) i = wfn B (keyOf B) (vPw B (i : Int)) := by
  have hb := endR_ok1 hg
  unfold bodyR at hb
  dsimp only at hb
  rw [if_neg hk] at hb
  unfold rsT at h ⊢
  rw [if_neg hk] at h ⊢
  rw [rsOf_len] at h
  obtain ⟨h1, h2⟩ := rsOf_at hk h hb
  refine ⟨h1, ?_⟩
  unfold gR
  rw [List.getD_eq_getElem?_getD, h2]
  rfl
theorem csT_at {B : List Nat} {i : Nat} (hk : (headR B ⟨0, false⟩).1.k = 1) (hg : (endR B).bad = false) (h : i < (csT B).length) : argC (headR B ⟨0, false⟩).1 (i : Int) = false ∧ (clocksR B (i + 1) 0 (headR B ⟨0, false⟩).2).2.bad = false ∧ gC (csT B) i = cfn (lastC (clocksR B (i + 1) 0 (headR B ⟨0, false⟩).2).1) := by
  have hb := endR_ok1 hg
  unfold bodyR at hb
  dsimp only at hb
  rw [if_pos hk] at hb
  unfold csT at h ⊢
  rw [if_pos hk] at h ⊢
  rw [csOf_len] at h
  obtain ⟨h1, h2, h3⟩ := csOf_at hk h hb
  refine ⟨h1, h2, ?_⟩
  unfold gC
  rw [List.getD_eq_getElem?_getD, h3]
  rfl
theorem lists_len {B : List Nat} : (csT B).length + (rsT B).length = (headR B ⟨0, false⟩).1.m := by
  unfold csT rsT
  split
  · rw [csOf_len]; rfl
  · rw [rsOf_len]; simp
theorem argW_yes {h : Ph} {z : Int} (hz : h.k = 1 ∨ z < 0 ∨ (h.m : Int) ≤ z) : argW h z = true := by
  unfold argW
  rcases hz with hz | hz | hz
  · simp [hz]
  · rw [decide_eq_false (p := 0 ≤ z ∧ z ≤ (h.m : Int) - 1) (by omega)]; simp
  · rw [decide_eq_false (p := 0 ≤ z ∧ z ≤ (h.m : Int) - 1) (by omega)]; simp
theorem argC_yes {h : Ph} {z : Int} (hz : h.k ≠ 1 ∨ z < 0 ∨ (h.m : Int) ≤ z) : argC h z = true := by
  unfold argC
  rcases hz with hz | hz | hz
  · simp [hz]
  · rw [decide_eq_false (p := 0 ≤ z ∧ z ≤ (h.m : Int) - 1) (by omega)]; simp
  · rw [decide_eq_false (p := 0 ≤ z ∧ z ≤ (h.m : Int) - 1) (by omega)]; simp
/-- all of a round where there is no write of that number -/
theorem noW {B : List Nat} {z : Int} (P o : Nat) (hz : (headR B ⟨0, false⟩).1.k = 1 ∨ z < 0 ∨ ((headR B ⟨0, false⟩).1.m : Int) ≤ z) : vErr B z = 1 ∧ vSl P o B z = slz := by
  have h1 : vErr B z = 1 := by unfold vErr; rw [if_pos (argW_yes hz)]
  refine ⟨h1, ?_⟩
  unfold vSl
  rw [if_neg (by rw [h1]; decide)]
/-- what was told of a write can be read -/
theorem reads_of {w0 W : World} {n c : Int} {k : ByteArray} {d : Bool} {v x : Sl} {r : Wr} (hn : n = r.n) (hc : c = r.c) (hk : k = r.k) (hd : d = r.d) (hv : Bf w0 W v r.vs) (hx : Nw w0 W 85 3 x (flat r.xs)) (f1 : ∀ s ∈ r.xs, s.t < 2 ^ 64) (f2 : r.xs.length ≤ 2000000) (f3 : ∀ b ∈ r.vs, b < 256) (f4 : r.vs.length ≤ 2000000) : Reads W ⟨n, c, k, d, v, x⟩ r := by
  have r5 := hv.rbs f3
  have l6 := hx.lst f1 f2
  have n5 := r5.len
  have n6 := l6.len
  exact ⟨hn, hc, hk, hd, r5.rd, n5, by show v.n ≤ _; omega, f3, l6, by show x.n ≤ _; omega, r5.ok, hx.ok⟩

theorem v21_no {w : World} {s : Sl} {B : List Nat} {V : Nat} (h : Pb w s B) (hn : s.n = 2048) (hv : Vw w V s) {z : Int} (hz : (headR B ⟨0, false⟩).1.k = 1 ∨ z < 0 ∨ ((headR B ⟨0, false⟩).1.m : Int) ≤ z) : Calls Try.prog 21 #[.pointer (some ⟨V, 0, none⟩), .int .i64 z] w fun e w' => e = .returned (.tuple #[.slice none 0 0, .int .i64 1]) ∧ Apart [] w w' := by
  obtain ⟨P, o, -, hc⟩ := vvalue_ok h hn hv z
  obtain ⟨h1, h2⟩ := noW (B := B) (z := z) P o hz
  rw [h1, h2] at hc
  exact hc
theorem v26_no {w : World} {s : Sl} {B : List Nat} {V : Nat} (h : Pb w s B) (hn : s.n = 2048) (hv : Vw w V s) {z : Int} (hz : (headR B ⟨0, false⟩).1.k = 1 ∨ z < 0 ∨ ((headR B ⟨0, false⟩).1.m : Int) ≤ z) : Calls Try.prog 26 #[.pointer (some ⟨V, 0, none⟩), .int .i64 z] w fun e w' => e = .returned (.tuple #[.agg #[.int .i64 0, .int .i64 0, .string ⟨#[]⟩, .bool false, .slice none 0 0, .slice none 0 0], .int .i64 1]) ∧ Apart [] w w' := by
  refine (vwriteW_ok h hn hv z).mono (fun e w' hh => ?_)
  obtain ⟨h1, -⟩ := noW (B := B) (z := z) 0 0 hz
  have := hh.no (by rw [h1]; decide)
  rw [h1] at this
  exact ⟨this, hh.a⟩
theorem v32_no {w : World} {s : Sl} {B : List Nat} {V : Nat} (h : Pb w s B) (hn : s.n = 2048) (hv : Vw w V s) {z : Int} (hz : (headR B ⟨0, false⟩).1.k ≠ 1 ∨ z < 0 ∨ ((headR B ⟨0, false⟩).1.m : Int) ≤ z) : Calls Try.prog 32 #[.pointer (some ⟨V, 0, none⟩), .int .i64 z] w fun e w' => e = .returned (.tuple #[.agg #[.int .i64 0, .slice none 0 0], .int .i64 1]) ∧ Apart [] w w' :=
  (vclock_ok h hn hv z).mono (fun e w' hh => ⟨hh.arg (argC_yes hz), hh.a⟩)
theorem v21_yes {w : World} {s : Sl} {B : List Nat} {V i : Nat} (h : Pb w s B) (hn : s.n = 2048) (hv : Vw w V s) (hk : (headR B ⟨0, false⟩).1.k ≠ 1) (hg : (endR B).bad = false) (hi : i < (rsT B).length) : ∃ vs : Sl, RBs w vs (gR (rsT B) i).vs ∧ ∀ W, Apart [] w W → Calls Try.prog 21 #[.pointer (some ⟨V, 0, none⟩), .int .i64 (i : Nat)] W fun e w' => e = .returned (.tuple #[.slice vs.p vs.n vs.c, .int .i64 0]) ∧ Apart [] W w' := by
  obtain ⟨h1, h2⟩ := rsT_at hk hg hi
  obtain ⟨P, o, hp, -, -⟩ := h.reader hn
  refine ⟨vSl P o B (i : Int), ?_, fun W a => ?_⟩
  · have hrd := h.rd
    rw [hp] at hrd
    rw [h2]
    unfold vSl
    rw [if_pos h1]
    obtain ⟨t1, t2⟩ := tsl_rd hrd (by rw [h.len, hn]) (vErr_0 h.b8 h1).2.2.2.2.2.1
    exact ⟨t1, t2, fun b hb => h.b8 b (List.mem_of_mem_drop (List.mem_of_mem_take hb)), fun h => by simp at h⟩
  · obtain ⟨P', o', hp', hc⟩ := vvalue_ok (h.kept0 a) hn (keep0 a hv) (i : Int)
    rw [hp] at hp'
    simp at hp'
    obtain ⟨rfl, rfl⟩ := hp'
    rw [h1] at hc
    exact hc
theorem v26_yes {w : World} {s : Sl} {B : List Nat} {V i : Nat} (h : Pb w s B) (hn : s.n = 2048) (hv : Vw w V s) (hk : (headR B ⟨0, false⟩).1.k ≠ 1) (hg : (endR B).bad = false) (hi : i < (rsT B).length) : Calls Try.prog 26 #[.pointer (some ⟨V, 0, none⟩), .int .i64 (i : Nat)] w fun e w' => ∃ e1 : E, e = .returned (.tuple #[.agg #[.int .i64 e1.n, .int .i64 e1.c, .string e1.k, .bool e1.d, .slice e1.v.p e1.v.n e1.v.c, .slice e1.x.p e1.x.n e1.x.c], .int .i64 0]) ∧ Apart [] w w' ∧ Reads w' e1 (gR (rsT B) i) := by
  obtain ⟨h1, h2⟩ := rsT_at hk hg hi
  obtain ⟨⟨⟨f1, f2⟩, f3, f4⟩, -⟩ := (rsT_fit h.b8).1 i hi
  refine (vwriteW_ok h hn hv (i : Int)).mono (fun e w' hh => ?_)
  obtain ⟨v, x, he, hb, hx⟩ := hh.ok h1
  rw [h2] at f1 f2 f3 f4 ⊢
  exact ⟨⟨(vPw B (i : Int)).n, (vPw B (i : Int)).c, keyOf B, (vPw B (i : Int)).d, v, x⟩, he, hh.a, reads_of rfl rfl rfl rfl hb hx f1 f2 f3 f4⟩
theorem v32_yes {w : World} {s : Sl} {B : List Nat} {V i : Nat} (h : Pb w s B) (hn : s.n = 2048) (hv : Vw w V s) (hk : (headR B ⟨0, false⟩).1.k = 1) (hg : (endR B).bad = false) (hi : i < (csT B).length) : Calls Try.prog 32 #[.pointer (some ⟨V, 0, none⟩), .int .i64 (i : Nat)] w fun e w' => ∃ x : Sl, e = .returned (.tuple #[.agg #[.int .i64 (gC (csT B) i).1, .slice x.p x.n x.c], .int .i64 0]) ∧ Apart [] w w' ∧ L w' x.p x.n (gC (csT B) i).2 := by
  obtain ⟨h1, h2, h3⟩ := csT_at hk hg hi
  obtain ⟨f1, f2⟩ := (csT_fit h.b8).1 i hi
  refine (vclock_ok h hn hv (i : Int)).mono (fun e w' hh => ?_)
  obtain ⟨x, he, hx⟩ := hh.ok h1 (by rw [Int.toNat_natCast]; exact h2)
  rw [Int.toNat_natCast] at he hx
  rw [h3] at f1 f2 ⊢
  exact ⟨x, he, hh.a, hx.lst f1 f2⟩
set_option maxHeartbeats 32000000 in
set_option maxRecDepth 100000 in
theorem looks_ok {w : World} {s : Sl} {B : List Nat} {V : Nat} (h : Pb w s B) (hn : s.n = 2048) (hv : Vw w V s) (hg : (endR B).bad = false) (sk sl : Sl) (kk : List Ck) (ee : List E) (hc : RCs w sk kk (csT B)) (hw : RWs w sl ee (rsT B)) : Calls Try.prog 59 #[.pointer (some ⟨V, 0, none⟩), .agg (pgL ((headR B ⟨0, false⟩).1.k : Nat) ((headR B ⟨0, false⟩).1.g : Nat) ((headR B ⟨0, false⟩).1.o : Nat) sk sl)] w fun r w' => r = .returned (.bool true) ∧ Apart [] w w' := by
  unfold pgL
  have HB8 := hid h.b8
  have HBL : Hid (B.length = 2048) := by unfold Hid; rw [h.len, hn]
  have HGD := hid hg
  obtain ⟨P, q, hsp, -, -⟩ := h.reader hn
  have HSP := hid hsp
  obtain ⟨k, HK⟩ : ∃ k, Hid (k = (headR B ⟨0, false⟩).1.k) := ⟨_, rfl⟩
  obtain ⟨g, HG⟩ : ∃ k, Hid (k = (headR B ⟨0, false⟩).1.g) := ⟨_, rfl⟩
  obtain ⟨o, HO⟩ : ∃ k, Hid (k = (headR B ⟨0, false⟩).1.o) := ⟨_, rfl⟩
  obtain ⟨m, HM⟩ : ∃ k, Hid (k = (headR B ⟨0, false⟩).1.m) := ⟨_, rfl⟩
  rw [← HK.out, ← HG.out, ← HO.out]
  obtain ⟨A, HXA⟩ : ∃ A, Hid (A = w.heap.size) := ⟨_, rfl⟩
  obtain ⟨w1, hw1⟩ : ∃ V, V = w.alloc (.cells #[.int .i64 (k : Nat), .int .i64 (g : Nat), .int .i64 (o : Nat), .slice sk.p sk.n sk.c, .slice sl.p sl.n sl.c] 119) := ⟨_, rfl⟩
  have a1 : Apart [] w w1 := by rw [hw1]; exact (Apart.refl [] w).alloc _
  have hA1 : w1.heap[A]? = some (.cells #[.int .i64 (k : Nat), .int .i64 (g : Nat), .int .i64 (o : Nat), .slice sk.p sk.n sk.c, .slice sl.p sl.n sl.c] 119 (0, 0)) := by rw [hw1, HXA.out]; exact heap_alloc_new w _
  have HA1 := hid a1
  have HROW := hid hA1
  have HPB : Hid (∀ W, Apart [] w1 W → Pb W s B) := fun W a => h.kept0 (a1.trans a)
  have HVW : Hid (∀ W, Apart [] w1 W → Vw W V s) := fun W a => keep0 (a1.trans a) hv
  have HRC : Hid (∀ W, Apart [] w1 W → RCs W sk kk (csT B)) := fun W a => hc.kept0 (a1.trans a)
  have HRW : Hid (∀ W, Apart [] w1 W → RWs W sl ee (rsT B)) := fun W a => hw.kept0 (a1.trans a)
  have HN := hid hn
  have hlm : sk.n + sl.n = m := by rw [← hc.cl, ← hw.rl, lists_len, HM.out]
  have hm16 : m ≤ 16 := by rw [HM.out]; exact (headR_at B ⟨0, false⟩).2.2.2.1
  have HLM := hid hlm
  have HC1 : Hid (∀ W, Apart [] w1 W → Calls Try.prog 29 #[.pointer (some ⟨V, 0, none⟩)] W fun e w' => e = .returned (.int .i64 (k : Nat)) ∧ Apart [] W w') := fun W a => by rw [HK.out]; exact vkind_ok (HPB.out W a) hn (HVW.out W a)
  have HC2 : Hid (∀ W, Apart [] w1 W → Calls Try.prog 30 #[.pointer (some ⟨V, 0, none⟩)] W fun e w' => e = .returned (.int .i64 (g : Nat)) ∧ Apart [] W w') := fun W a => by rw [HG.out]; exact vgen_ok (HPB.out W a) hn (HVW.out W a)
  have HC3 : Hid (∀ W, Apart [] w1 W → Calls Try.prog 31 #[.pointer (some ⟨V, 0, none⟩)] W fun e w' => e = .returned (.int .i64 (o : Nat)) ∧ Apart [] W w') := fun W a => by rw [HO.out]; exact vowner_ok (HPB.out W a) hn (HVW.out W a)
  have HC4 : Hid (∀ W, Apart [] w1 W → Calls Try.prog 20 #[.pointer (some ⟨V, 0, none⟩)] W fun e w' => e = .returned (.int .i64 (m : Nat)) ∧ Apart [] W w') := fun W a => by rw [HM.out]; exact vlen_ok (HPB.out W a) hn (HVW.out W a)
  have HCK : Hid (∀ W, Apart [] w1 W → Calls Try.prog 22 #[.pointer (some ⟨V, 0, none⟩)] W fun e w' => e = .returned (keyV P q (headR B ⟨0, false⟩).1) ∧ Apart [] W w') := fun W a => by
    obtain ⟨P', q', hp', hcc⟩ := vkey_ok (HPB.out W a) hn (HVW.out W a)
    rw [hsp] at hp'
    simp at hp'
    obtain ⟨rfl, rfl⟩ := hp'
    exact hcc
  have HCV : Hid (∀ W, Apart [] w1 W → Rd W (some ⟨P, q, none⟩) (byts B)) := fun W a => by
    have := (HPB.out W a).rd
    rw [hsp] at this
    exact this
  have HCL : Hid (∀ W, Apart [] w1 W → W.cell? ⟨A, 0, none⟩ = some (.int .i64 (k : Nat)) ∧ W.cell? ⟨A, 1, none⟩ = some (.int .i64 (g : Nat)) ∧ W.cell? ⟨A, 2, none⟩ = some (.int .i64 (o : Nat)) ∧ W.cell? ⟨A, 3, none⟩ = some (.slice sk.p sk.n sk.c) ∧ W.cell? ⟨A, 4, none⟩ = some (.slice sl.p sl.n sl.c)) := fun W a => row5v (keep0 a HROW.out)
  clear h hn hv hg hc hw a1 hA1 hsp hlm
  have hwn : IntKind.i64.wrap (((sk.n : Nat) : Int) + ((sl.n : Nat) : Int)) = ((m : Nat) : Int) := by rw [IntKind.wrap_i64]; have := HLM.out; omega
  obtain ⟨x0, x1, x2, x3, x4⟩ := row5v HROW.out
  go_enter Try.func59, Try.ntmps59
  go_upto_region 1 with fail
  rw [← hw1, ← HXA.out]
  clear hw1
  go_upto_region 2 with fail
  clear x0 x1 x2 x3 x4 hwn
  have hAd : Apart [] w1 w1.drew := (Apart.refl [] w1).drew
  refine wp_region_held_drew (S := fun W => Apart [] w1 W) (by kernel_rfl) hAd (fun hHeld => ?_)
  generalize w1.drew = wd at *
  refine tk 0 22 (.pointer (some ⟨V, 0, none⟩)) rfl ?_ ?_
  · intro W hSW; go_simp
  simp only [Act.put, List.setIfInBounds_toArray, List.set_cons_zero, List.set_cons_succ]
  refine tk 2 24 (.pointer (some ⟨A, 0, none⟩)) rfl ?_ ?_
  · intro W hSW; go_simp
  simp only [Act.put, List.setIfInBounds_toArray, List.set_cons_zero, List.set_cons_succ]
  refine tk 3 25 (.int .i64 (k : Nat)) rfl ?_ ?_
  · intro W hSW; obtain ⟨c0, c1, c2, c3, c4⟩ := HCL.out W hSW; go_simp
  simp only [Act.put, List.setIfInBounds_toArray, List.set_cons_zero, List.set_cons_succ]
  refine wpAnyH_ready (rs := [1]) (by kernel_rfl) (by simp) ?_
  refine AllReadyH.cons rfl (fun KK hKK => ?_) AllReadyH.nil
  go_simp
  refine (HC1.out _ hHeld).mono ?_
  rintro _ wa ⟨rfl, ha⟩
  have hSa := hHeld.trans ha
  clear ha
  try dsimp only
  refine hKK.out _ _ hSa (fun hHeld => ?_)
  clear hKK KK
  try simp only [Act.put, List.setIfInBounds_toArray, List.set_cons_zero, List.set_cons_succ]
  refine tk 4 26 (.bool false) rfl ?_ ?_
  · intro W hSW; go_simp
  simp only [Act.put, List.setIfInBounds_toArray, List.set_cons_zero, List.set_cons_succ]
  refine tk 5 27 (.bool false) rfl ?_ ?_
  · intro W hSW; go_simp
  simp only [Act.put, List.setIfInBounds_toArray, List.set_cons_zero, List.set_cons_succ]
  refine tk 6 28 (.pointer (some ⟨V, 0, none⟩)) rfl ?_ ?_
  · intro W hSW; go_simp
  simp only [Act.put, List.setIfInBounds_toArray, List.set_cons_zero, List.set_cons_succ]
  refine tk 8 30 (.int .i64 (m : Nat)) rfl ?_ ?_
  · intro W hSW; go_simp
  simp only [Act.put, List.setIfInBounds_toArray, List.set_cons_zero, List.set_cons_succ]
  refine wpAnyH_ready (rs := [7]) (by kernel_rfl) (by simp) ?_
  refine AllReadyH.cons rfl (fun KK hKK => ?_) AllReadyH.nil
  go_simp
  refine (HC4.out _ hHeld).mono ?_
  rintro _ wa ⟨rfl, ha⟩
  have hSa := hHeld.trans ha
  clear ha
  try dsimp only
  refine hKK.out _ _ hSa (fun hHeld => ?_)
  clear hKK KK
  try simp only [Act.put, List.setIfInBounds_toArray, List.set_cons_zero, List.set_cons_succ]
  refine tk 9 31 (.bool false) rfl ?_ ?_
  · intro W hSW; go_simp
  simp only [Act.put, List.setIfInBounds_toArray, List.set_cons_zero, List.set_cons_succ]
  refine tk 10 32 (.bool false) rfl ?_ ?_
  · intro W hSW; go_simp
  simp only [Act.put, List.setIfInBounds_toArray, List.set_cons_zero, List.set_cons_succ]
  refine tk 11 33 (.bool false) rfl ?_ ?_
  · intro W hSW; go_simp
  simp only [Act.put, List.setIfInBounds_toArray, List.set_cons_zero, List.set_cons_succ]
  refine tk 12 34 (.pointer (some ⟨V, 0, none⟩)) rfl ?_ ?_
  · intro W hSW; go_simp
  simp only [Act.put, List.setIfInBounds_toArray, List.set_cons_zero, List.set_cons_succ]
  refine tk 14 36 (.pointer (some ⟨A, 1, none⟩)) rfl ?_ ?_
  · intro W hSW; go_simp
  simp only [Act.put, List.setIfInBounds_toArray, List.set_cons_zero, List.set_cons_succ]
  refine tk 15 37 (.int .i64 (g : Nat)) rfl ?_ ?_
  · intro W hSW; obtain ⟨c0, c1, c2, c3, c4⟩ := HCL.out W hSW; go_simp
  simp only [Act.put, List.setIfInBounds_toArray, List.set_cons_zero, List.set_cons_succ]
  refine wpAnyH_ready (rs := [13]) (by kernel_rfl) (by simp) ?_
  refine AllReadyH.cons rfl (fun KK hKK => ?_) AllReadyH.nil
  go_simp
  refine (HC2.out _ hHeld).mono ?_
  rintro _ wa ⟨rfl, ha⟩
  have hSa := hHeld.trans ha
  clear ha
  try dsimp only
  refine hKK.out _ _ hSa (fun hHeld => ?_)
  clear hKK KK
  try simp only [Act.put, List.setIfInBounds_toArray, List.set_cons_zero, List.set_cons_succ]
  refine tk 16 38 (.bool false) rfl ?_ ?_
  · intro W hSW; go_simp
  simp only [Act.put, List.setIfInBounds_toArray, List.set_cons_zero, List.set_cons_succ]
  refine tk 17 39 (.bool false) rfl ?_ ?_
  · intro W hSW; go_simp
  simp only [Act.put, List.setIfInBounds_toArray, List.set_cons_zero, List.set_cons_succ]
  refine tk 18 40 (.bool false) rfl ?_ ?_
  · intro W hSW; go_simp
  simp only [Act.put, List.setIfInBounds_toArray, List.set_cons_zero, List.set_cons_succ]
  refine tk 19 41 (.pointer (some ⟨V, 0, none⟩)) rfl ?_ ?_
  · intro W hSW; go_simp
  simp only [Act.put, List.setIfInBounds_toArray, List.set_cons_zero, List.set_cons_succ]
  refine tk 21 43 (.pointer (some ⟨A, 2, none⟩)) rfl ?_ ?_
  · intro W hSW; go_simp
  simp only [Act.put, List.setIfInBounds_toArray, List.set_cons_zero, List.set_cons_succ]
  refine tk 22 44 (.int .i64 (o : Nat)) rfl ?_ ?_
  · intro W hSW; obtain ⟨c0, c1, c2, c3, c4⟩ := HCL.out W hSW; go_simp
  simp only [Act.put, List.setIfInBounds_toArray, List.set_cons_zero, List.set_cons_succ]
  refine wpAnyH_ready (rs := [20]) (by kernel_rfl) (by simp) ?_
  refine AllReadyH.cons rfl (fun KK hKK => ?_) AllReadyH.nil
  go_simp
  refine (HC3.out _ hHeld).mono ?_
  rintro _ wa ⟨rfl, ha⟩
  have hSa := hHeld.trans ha
  clear ha
  try dsimp only
  refine hKK.out _ _ hSa (fun hHeld => ?_)
  clear hKK KK
  try simp only [Act.put, List.setIfInBounds_toArray, List.set_cons_zero, List.set_cons_succ]
  refine tk 23 45 (.bool false) rfl ?_ ?_
  · intro W hSW; go_simp
  simp only [Act.put, List.setIfInBounds_toArray, List.set_cons_zero, List.set_cons_succ]
  refine tk 24 46 (.bool false) rfl ?_ ?_
  · intro W hSW; go_simp
  simp only [Act.put, List.setIfInBounds_toArray, List.set_cons_zero, List.set_cons_succ]
  refine wpAnyH_done (by kernel_rfl) ?_ _
  have HAP2 := hid hSa
  clear hHeld hSa hAd HC1 HC2 HC3 HC4
  obtain ⟨x0, x1, x2, x3, x4⟩ := HCL.out _ HAP2.out
  obtain ⟨ky, Hky⟩ : ∃ y, Hid (y = keyOf B) := ⟨_, rfl⟩
  go_upto_if 50 with fail
  go_cut [6, 50] from 51 to 55 (fun s6 _ wx => .string ky = s6 ∧ wx = wa)
  case first =>
    by_cases h1 : k = 1
    · have hsl : sl.n = 0 := by
        rw [← (HRW.out w1 (Apart.refl _ _)).rl]
        unfold rsT
        rw [if_pos (by rw [← HK.out]; exact h1)]
        rfl
      have hb : ¬ ((sl.n : Nat) : Int) > 0 := by omega
      have HE : Hid (ky = ⟨#[]⟩) := by unfold Hid; rw [Hky.out]; exact keyOf_1 (by rw [← HK.out]; exact h1)
      clear h1 hsl
      go_wp2_with fail
      go_meet
      exact ⟨by rw [HE.out], rfl⟩
    · have hsl : 0 < sl.n := by
        rw [← (HRW.out w1 (Apart.refl _ _)).rl]
        exact rsT_pos HBL.out HB8.out HGD.out (by rw [← HK.out]; exact h1)
      have hb : ((sl.n : Nat) : Int) > 0 := by omega
      obtain ⟨Q, r, hQ, -, -, -, c2, -⟩ := (HRW.out wa HAP2.out).cells 0 hsl
      have hre := ((HRW.out wa HAP2.out).each 0 hsl).k
      rw [(rsT_at (B := B) (i := 0) (by rw [← HK.out]; exact h1) HGD.out (by rw [(HRW.out w1 (Apart.refl _ _)).rl]; exact hsl)).2] at hre
      have HE : Hid ((gE ee 0).k = ky) := by unfold Hid; rw [Hky.out, hre]; rfl
      rw [HE.out] at c2
      have c2' : wa.cell? ⟨Q, r + 2, none⟩ = some (.string ky) := by simpa using c2
      rw [hQ] at x4
      clear h1 hsl hre hQ c2
      go_wp2_with fail
      go_meet
      exact ⟨rfl, rfl⟩
  obtain ⟨rfl, hwc⟩ := hcut
  rw [hwc]
  clear hwc wc
  have c1 : Sem.run Try.prog (convert 28 9 (keyV P q (headR B ⟨0, false⟩).1)) wa = .ok (.string ky) wa := by rw [Hky.out]; exact conv_key (HCV.out wa HAP2.out) HBL.out
  have HCONV : Hid (∀ W, Apart [] w1 W → Sem.run Try.prog (convert 28 9 (keyV P q (headR B ⟨0, false⟩).1)) W = .ok (.string ky) W) := fun W a => by rw [Hky.out]; exact conv_key (HCV.out W a) HBL.out
  clear c1
  obtain ⟨kp, kn, kc, hkv⟩ := keyV_sl P q (headR B ⟨0, false⟩).1
  rw [hkv] at HCONV HCK
  clear hkv
  go_wp2_with fail
  refine (HCK.out wa HAP2.out).mono ?_
  rintro _ wb ⟨rfl, ab⟩
  have HAPb := hid (HAP2.out.trans ab)
  have cb := HCONV.out wb HAPb.out
  clear ab x0 x1 x2 x3 x4 HAP2 HCK HCONV
  try dsimp only
  go_wp2_with fail
  clear cb
  go_loopw [7, 8, 9, 10, 11, 12, 13, 14] (fun b _ _ _ _ _ _ _ wt => ∃ z : Int, b = .int .i64 z ∧ -1 ≤ z ∧ z ≤ (m : Int) + 1 ∧ Apart [] w1 wt) (fun b _ _ _ _ _ _ _ _ => ((m : Int) + 1 - intOf b).toNat)
  case atStart => exact ⟨-1, rfl, by omega, by omega, HAPb.out⟩
  case round =>
    obtain ⟨z, rfl, hz0, hz1, hI⟩ := hrel
    have HAP := hid hI
    clear hI HAPb
    by_cases hle : z ≤ (m : Int)
    · have hwz : IntKind.i64.wrap (z + 1) = z + 1 := by rw [IntKind.wrap_i64]; omega
      by_cases hin : z ≥ 0 ∧ z < (m : Int)
      · obtain ⟨hin0, hin1⟩ := hin
        by_cases h1 : k = 1
        · skip
          obtain ⟨i, rfl⟩ := Int.eq_ofNat_of_zero_le hin0
          have hK1 : (headR B ⟨0, false⟩).1.k = 1 := by rw [← HK.out]; exact h1
          have hcs0 : sl.n = 0 := by
            rw [← (HRW.out w1 (Apart.refl _ _)).rl]
            unfold rsT
            rw [if_pos hK1]
            rfl
          have hi : i < sk.n := by have := HLM.out; omega
          have hi' : i < (csT B).length := by rw [(HRC.out w1 (Apart.refl _ _)).cl]; exact hi
          have hkn : (((k : Nat) : Int) != 1) = false := by rw [h1]; rfl
          have hke : (((k : Nat) : Int) == 1) = true := by rw [h1]; rfl
          have HC21 : Hid (Calls Try.prog 21 #[.pointer (some ⟨V, 0, none⟩), .int .i64 (i : Nat)] wr fun e w' => e = .returned (.tuple #[.slice none 0 0, .int .i64 1]) ∧ Apart [] wr w') := v21_no (HPB.out wr HAP.out) HN.out (HVW.out wr HAP.out) (.inl hK1)
          have HC26 : Hid (∀ W, Apart [] w1 W → Calls Try.prog 26 #[.pointer (some ⟨V, 0, none⟩), .int .i64 (i : Nat)] W fun e w' => e = .returned (.tuple #[.agg #[.int .i64 0, .int .i64 0, .string ⟨#[]⟩, .bool false, .slice none 0 0, .slice none 0 0], .int .i64 1]) ∧ Apart [] W w') := fun W a => v26_no (HPB.out W a) HN.out (HVW.out W a) (.inl hK1)
          obtain ⟨cc, Hcc⟩ : ∃ r, Hid (r = gC (csT B) i) := ⟨_, rfl⟩
          have HC32 : Hid (∀ W, Apart [] w1 W → Calls Try.prog 32 #[.pointer (some ⟨V, 0, none⟩), .int .i64 (i : Nat)] W fun e w' => ∃ x : Sl, e = .returned (.tuple #[.agg #[.int .i64 cc.1, .slice x.p x.n x.c], .int .i64 0]) ∧ Apart [] W w' ∧ L w' x.p x.n cc.2) := fun W a => by rw [Hcc.out]; exact v32_yes (HPB.out W a) HN.out (HVW.out W a) hK1 HGD.out hi'
          obtain ⟨k0, Hk0⟩ : ∃ e, Hid (e = gK kk i) := ⟨_, rfl⟩
          obtain ⟨Q, r, hQ, -⟩ := (HRC.out w1 (Apart.refl _ _)).cells i hi
          have HCW : Hid (∀ W, Apart [] w1 W → L W k0.s.p k0.s.n cc.2 ∧ (W.cell? ⟨Q, r + i * 2, none⟩ = some (.int .i64 cc.1) ∧ W.cell? ⟨Q, r + i * 2 + 1, none⟩ = some (.slice k0.s.p k0.s.n k0.s.c)) ∧ W.cell? ⟨A, 3, none⟩ = some (.slice (some ⟨Q, r, none⟩) sk.n sk.c)) := fun W a => by
            obtain ⟨Q', r', hQ', _, c0, c1⟩ := (HRC.out W a).cells i hi
            obtain ⟨d0, d1, -⟩ := (HRC.out W a).each i hi
            rw [hQ] at hQ'
            simp at hQ'
            obtain ⟨rfl, rfl⟩ := hQ'
            rw [d0, ← Hcc.out] at c0
            rw [← Hk0.out] at c1 d1
            rw [← Hcc.out] at d1
            refine ⟨d1, ⟨c0, c1⟩, ?_⟩
            rw [← hQ]; exact (HCL.out W a).2.2.2.1
          have HI := hid hi
          clear hK1 hcs0 hQ hi' h1 hin0
          go_wp2_with fail
          refine HC21.out.mono ?_
          rintro _ wa ⟨rfl, aa⟩
          have HAPwa := hid (HAP.out.trans aa)
          clear aa HC21
          try dsimp only
          go_wp2_with fail
          refine (HC26.out wa HAPwa.out).mono ?_
          rintro _ wb ⟨rfl, ab⟩
          have HAPwb := hid (HAPwa.out.trans ab)
          clear ab HC26
          try dsimp only
          obtain ⟨X, HX⟩ : ∃ X, Hid (X = wb.heap.size) := ⟨_, rfl⟩
          obtain ⟨wc, hwc⟩ : ∃ V, V = wb.alloc (.cells #[.int .i64 0, .int .i64 0, .string ⟨#[]⟩, .bool false, .slice none 0 0, .slice none 0 0] 50) := ⟨_, rfl⟩
          have bwc : Apart [] wb wc := by rw [hwc]; exact (Apart.refl [] wb).alloc _
          have HBX : Hid (wc.heap[X]? = some (.cells #[.int .i64 0, .int .i64 0, .string ⟨#[]⟩, .bool false, .slice none 0 0, .slice none 0 0] 50 (0, 0))) := by unfold Hid; rw [hwc, HX.out]; exact heap_alloc_new wb _
          have HAPwc := hid (HAPwb.out.trans bwc)
          clear bwc
          go_upto_region 14 with fail
          rw [← hwc, ← HX.out]
          clear hwc
          go_wp2_with fail
          refine (HC32.out wc HAPwc.out).mono ?_
          rintro _ we ⟨x, rfl, ae, hlx⟩
          have HLX := hid hlx
          clear hlx
          have HAPwe := hid (HAPwc.out.trans ae)
          have HBX2 := hid (keep0 ae HBX.out)
          clear ae HC32
          try dsimp only
          obtain ⟨Y, HY⟩ : ∃ X, Hid (X = we.heap.size) := ⟨_, rfl⟩
          obtain ⟨w6, hw6⟩ : ∃ V, V = we.alloc (.cells #[.int .i64 cc.1, .slice x.p x.n x.c] 61) := ⟨_, rfl⟩
          have bw6 : Apart [] we w6 := by rw [hw6]; exact (Apart.refl [] we).alloc _
          have HBY : Hid (w6.heap[Y]? = some (.cells #[.int .i64 cc.1, .slice x.p x.n x.c] 61 (0, 0))) := by unfold Hid; rw [hw6, HY.out]; exact heap_alloc_new we _
          have HAPw6 := hid (HAPwe.out.trans bw6)
          have HBCe := hid bw6
          clear bw6
          go_upto_region 15 with fail
          rw [← hw6, ← HY.out]
          clear hw6
          have hX6 := keep0 HBCe.out HBX2.out
          have hHY := HBY.out
          obtain ⟨x0, x1, x2, x3, x4, x5⟩ := rowv6 hX6
          obtain ⟨y0, y1⟩ := row2v hHY
          obtain ⟨z0, z1, z2, z3, z4⟩ := HCL.out w6 HAPw6.out
          go_wp2_with fail
          refine (lnum_ok w6 _).mono ?_
          rintro _ wn ⟨rfl, hwn⟩
          rw [hwn]
          clear hwn wn
          try dsimp only
          go_wp2_with fail
          refine (lnum_ok w6 _).mono ?_
          rintro _ wn ⟨rfl, hwn⟩
          rw [hwn]
          clear hwn wn
          try dsimp only
          go_wp2_with fail
          refine (lnum_ok w6 _).mono ?_
          rintro _ wn ⟨rfl, hwn⟩
          rw [hwn]
          clear hwn wn
          try dsimp only
          go_wp2_with fail
          refine (lnum_ok w6 _).mono ?_
          rintro _ wn ⟨rfl, hwn⟩
          rw [hwn]
          clear hwn wn
          try dsimp only
          go_wp2_with fail
          refine (lnum_ok w6 _).mono ?_
          rintro _ wn ⟨rfl, hwn⟩
          rw [hwn]
          clear hwn wn
          try dsimp only
          go_wp2_with fail
          refine (lnum_ok w6 _).mono ?_
          rintro _ wn ⟨rfl, hwn⟩
          rw [hwn]
          clear hwn wn
          try dsimp only
          go_wp2_with fail
          refine (lwrites_ok E.z E.z Wr.z Wr.z (reads_z w6) (reads_z w6) true (by simp)).mono ?_
          rintro _ w7 ⟨rfl, a7⟩
          have HAPw7 := hid (HAPw6.out.trans a7)
          have y7 := keep0 a7 HBY.out
          have A67 := hid a7
          clear a7 x0 x1 x2 x3 x4 x5 y0 y1 z0 z1 z2 z3 z4
          obtain ⟨y0, y1⟩ := row2v y7
          obtain ⟨z0, z1, z2, z3, z4⟩ := HCL.out w7 HAPw7.out
          try dsimp only
          go_wp2_with fail
          refine (lnum_ok w7 _).mono ?_
          rintro _ wn ⟨rfl, hwn⟩
          rw [hwn]
          clear hwn wn
          try dsimp only
          go_upto_region 20 with fail
          go_quiet (fail)
          go_upto_region 22 with fail
          clear y0 y1 z0 z1 z2 z3 z4 hX6 hHY y7
          have hAd : Apart [] w7 (w7.drewN nq).drew := ((Apart.refl [] w7).drewN _).drew
          have hii : ((i : Nat) : Int) < (sk.n : Int) := by have := HI.out; omega
          refine wp_region_held_drew (S := fun W => Apart [] w7 W) (by kernel_rfl) hAd (fun hHeld => ?_)
          generalize (w7.drewN nq).drew = wd at *
          refine tk 0 187 (.bool true) rfl ?_ ?_
          · intro W hSW; go_simp
          simp only [Act.put, List.setIfInBounds_toArray, List.set_cons_zero, List.set_cons_succ]
          refine tk 1 188 (.bool true) rfl ?_ ?_
          · intro W hSW; go_simp
          simp only [Act.put, List.setIfInBounds_toArray, List.set_cons_zero, List.set_cons_succ]
          refine tk 2 189 (.pointer (some ⟨A, 0, none⟩)) rfl ?_ ?_
          · intro W hSW; go_simp
          simp only [Act.put, List.setIfInBounds_toArray, List.set_cons_zero, List.set_cons_succ]
          refine tk 3 190 (.int .i64 (k : Nat)) rfl ?_ ?_
          · intro W hSW; obtain ⟨rd0, ⟨c0, c1⟩, k3⟩ := HCW.out W (HAPw7.out.trans hSW); obtain ⟨q0, -⟩ := HCL.out W (HAPw7.out.trans hSW); obtain ⟨g0, g1⟩ := row2v (keep0 hSW (keep0 A67.out HBY.out)); go_simp
          simp only [Act.put, List.setIfInBounds_toArray, List.set_cons_zero, List.set_cons_succ]
          refine tk 4 191 (.bool true) rfl ?_ ?_
          · intro W hSW; go_simp
          simp only [Act.put, List.setIfInBounds_toArray, List.set_cons_zero, List.set_cons_succ]
          refine tk 5 192 (.bool true) rfl ?_ ?_
          · intro W hSW; go_simp
          simp only [Act.put, List.setIfInBounds_toArray, List.set_cons_zero, List.set_cons_succ]
          refine tk 6 193 (.bool true) rfl ?_ ?_
          · intro W hSW; go_simp
          simp only [Act.put, List.setIfInBounds_toArray, List.set_cons_zero, List.set_cons_succ]
          refine tk 7 194 (.pointer (some ⟨Y, 0, none⟩)) rfl ?_ ?_
          · intro W hSW; go_simp
          simp only [Act.put, List.setIfInBounds_toArray, List.set_cons_zero, List.set_cons_succ]
          refine tk 8 195 (.int .i64 cc.1) rfl ?_ ?_
          · intro W hSW; obtain ⟨rd0, ⟨c0, c1⟩, k3⟩ := HCW.out W (HAPw7.out.trans hSW); obtain ⟨q0, -⟩ := HCL.out W (HAPw7.out.trans hSW); obtain ⟨g0, g1⟩ := row2v (keep0 hSW (keep0 A67.out HBY.out)); go_simp
          simp only [Act.put, List.setIfInBounds_toArray, List.set_cons_zero, List.set_cons_succ]
          refine tk 9 196 (.pointer (some ⟨A, 3, none⟩)) rfl ?_ ?_
          · intro W hSW; go_simp
          simp only [Act.put, List.setIfInBounds_toArray, List.set_cons_zero, List.set_cons_succ]
          refine tk 10 197 (.slice (some ⟨Q, r, none⟩) sk.n sk.c) rfl ?_ ?_
          · intro W hSW; obtain ⟨rd0, ⟨c0, c1⟩, k3⟩ := HCW.out W (HAPw7.out.trans hSW); obtain ⟨q0, -⟩ := HCL.out W (HAPw7.out.trans hSW); obtain ⟨g0, g1⟩ := row2v (keep0 hSW (keep0 A67.out HBY.out)); go_simp
          simp only [Act.put, List.setIfInBounds_toArray, List.set_cons_zero, List.set_cons_succ]
          refine tk 11 198 (.int .i64 (i : Nat)) rfl ?_ ?_
          · intro W hSW; go_simp
          simp only [Act.put, List.setIfInBounds_toArray, List.set_cons_zero, List.set_cons_succ]
          refine tk 12 199 (.pointer (some ⟨Q, r + i * 2, none⟩)) rfl ?_ ?_
          · intro W hSW; go_simp
          simp only [Act.put, List.setIfInBounds_toArray, List.set_cons_zero, List.set_cons_succ]
          refine tk 13 200 (.pointer (some ⟨Q, r + i * 2, none⟩)) rfl ?_ ?_
          · intro W hSW; go_simp
          simp only [Act.put, List.setIfInBounds_toArray, List.set_cons_zero, List.set_cons_succ]
          refine tk 14 201 (.int .i64 cc.1) rfl ?_ ?_
          · intro W hSW; obtain ⟨rd0, ⟨c0, c1⟩, k3⟩ := HCW.out W (HAPw7.out.trans hSW); obtain ⟨q0, -⟩ := HCL.out W (HAPw7.out.trans hSW); obtain ⟨g0, g1⟩ := row2v (keep0 hSW (keep0 A67.out HBY.out)); go_simp
          simp only [Act.put, List.setIfInBounds_toArray, List.set_cons_zero, List.set_cons_succ]
          refine tk 15 202 (.bool false) rfl ?_ ?_
          · intro W hSW; go_simp
          simp only [Act.put, List.setIfInBounds_toArray, List.set_cons_zero, List.set_cons_succ]
          refine tk 16 203 (.bool false) rfl ?_ ?_
          · intro W hSW; go_simp
          simp only [Act.put, List.setIfInBounds_toArray, List.set_cons_zero, List.set_cons_succ]
          refine tk 17 204 (.pointer (some ⟨Y, 1, none⟩)) rfl ?_ ?_
          · intro W hSW; go_simp
          simp only [Act.put, List.setIfInBounds_toArray, List.set_cons_zero, List.set_cons_succ]
          refine tk 18 205 (.slice x.p x.n x.c) rfl ?_ ?_
          · intro W hSW; obtain ⟨rd0, ⟨c0, c1⟩, k3⟩ := HCW.out W (HAPw7.out.trans hSW); obtain ⟨q0, -⟩ := HCL.out W (HAPw7.out.trans hSW); obtain ⟨g0, g1⟩ := row2v (keep0 hSW (keep0 A67.out HBY.out)); go_simp
          simp only [Act.put, List.setIfInBounds_toArray, List.set_cons_zero, List.set_cons_succ]
          refine tk 19 206 (.pointer (some ⟨A, 3, none⟩)) rfl ?_ ?_
          · intro W hSW; go_simp
          simp only [Act.put, List.setIfInBounds_toArray, List.set_cons_zero, List.set_cons_succ]
          refine tk 20 207 (.slice (some ⟨Q, r, none⟩) sk.n sk.c) rfl ?_ ?_
          · intro W hSW; obtain ⟨rd0, ⟨c0, c1⟩, k3⟩ := HCW.out W (HAPw7.out.trans hSW); obtain ⟨q0, -⟩ := HCL.out W (HAPw7.out.trans hSW); obtain ⟨g0, g1⟩ := row2v (keep0 hSW (keep0 A67.out HBY.out)); go_simp
          simp only [Act.put, List.setIfInBounds_toArray, List.set_cons_zero, List.set_cons_succ]
          refine tk 21 208 (.int .i64 (i : Nat)) rfl ?_ ?_
          · intro W hSW; go_simp
          simp only [Act.put, List.setIfInBounds_toArray, List.set_cons_zero, List.set_cons_succ]
          refine tk 22 209 (.pointer (some ⟨Q, r + i * 2, none⟩)) rfl ?_ ?_
          · intro W hSW; go_simp
          simp only [Act.put, List.setIfInBounds_toArray, List.set_cons_zero, List.set_cons_succ]
          refine tk 23 210 (.pointer (some ⟨Q, r + i * 2 + 1, none⟩)) rfl ?_ ?_
          · intro W hSW; go_simp
          simp only [Act.put, List.setIfInBounds_toArray, List.set_cons_zero, List.set_cons_succ]
          refine tk 24 211 (.slice k0.s.p k0.s.n k0.s.c) rfl ?_ ?_
          · intro W hSW; obtain ⟨rd0, ⟨c0, c1⟩, k3⟩ := HCW.out W (HAPw7.out.trans hSW); obtain ⟨q0, -⟩ := HCL.out W (HAPw7.out.trans hSW); obtain ⟨g0, g1⟩ := row2v (keep0 hSW (keep0 A67.out HBY.out)); go_simp
          simp only [Act.put, List.setIfInBounds_toArray, List.set_cons_zero, List.set_cons_succ]
          refine wpAnyH_ready (rs := [25]) (by kernel_rfl) (by simp) ?_
          refine AllReadyH.cons rfl (fun KK hKK => ?_) AllReadyH.nil
          go_simp
          refine (spans_ok (HLX.out.kept0 ((HBCe.out.trans A67.out).trans hHeld)) (HCW.out _ (HAPw7.out.trans hHeld)).1 true (by simp)).mono ?_
          rintro _ w8 ⟨rfl, a8⟩
          have hSa := hHeld.trans a8
          clear a8
          try dsimp only
          refine hKK.out _ _ hSa (fun hHeld => ?_)
          clear hKK KK
          try simp only [Act.put, List.setIfInBounds_toArray, List.set_cons_zero, List.set_cons_succ]
          refine tk 26 213 (.bool false) rfl ?_ ?_
          · intro W hSW; go_simp
          simp only [Act.put, List.setIfInBounds_toArray, List.set_cons_zero, List.set_cons_succ]
          refine tk 27 214 (.bool false) rfl ?_ ?_
          · intro W hSW; go_simp
          simp only [Act.put, List.setIfInBounds_toArray, List.set_cons_zero, List.set_cons_succ]
          refine tk 28 215 (.bool false) rfl ?_ ?_
          · intro W hSW; go_simp
          simp only [Act.put, List.setIfInBounds_toArray, List.set_cons_zero, List.set_cons_succ]
          refine wpAnyH_done (by kernel_rfl) ?_ _
          have HAPw8 := hid (HAPw7.out.trans hSa)
          clear hHeld hSa hAd
          go_wp2_with fail
          go_roundw
          case rel => exact ⟨((i : Nat) : Int) + 1, by first | rfl | (rw [hwz]), by omega, by omega, by first | exact HAPw8.out | exact HAPw8.out.drewN _ | exact (HAPw8.out.drewN _).drewN _⟩
          case measure => simp [intOf]; omega
        · skip
          obtain ⟨i, rfl⟩ := Int.eq_ofNat_of_zero_le hin0
          have hK1 : (headR B ⟨0, false⟩).1.k ≠ 1 := by rw [← HK.out]; exact h1
          have hcs0 : sk.n = 0 := by
            rw [← (HRC.out w1 (Apart.refl _ _)).cl]
            unfold csT
            rw [if_neg hK1]
            rfl
          have hi : i < sl.n := by have := HLM.out; omega
          have hi' : i < (rsT B).length := by rw [(HRW.out w1 (Apart.refl _ _)).rl]; exact hi
          have hkn : (((k : Nat) : Int) != 1) = true := by rw [bne_iff_ne]; omega
          have hke : (((k : Nat) : Int) == 1) = false := by rw [beq_eq_false_iff_ne]; omega
          obtain ⟨vs, hrb, hc21⟩ := v21_yes (HPB.out wr HAP.out) HN.out (HVW.out wr HAP.out) hK1 HGD.out hi'
          have HRB := hid hrb
          have HC21 := hid (hc21 wr (Apart.refl _ _))
          have HC26 : Hid (∀ W, Apart [] w1 W → Calls Try.prog 26 #[.pointer (some ⟨V, 0, none⟩), .int .i64 (i : Nat)] W fun e w' => ∃ e1 : E, e = .returned (.tuple #[.agg #[.int .i64 e1.n, .int .i64 e1.c, .string e1.k, .bool e1.d, .slice e1.v.p e1.v.n e1.v.c, .slice e1.x.p e1.x.n e1.x.c], .int .i64 0]) ∧ Apart [] W w' ∧ Reads w' e1 (gR (rsT B) i)) := fun W a => v26_yes (HPB.out W a) HN.out (HVW.out W a) hK1 HGD.out hi'
          have HC32 : Hid (∀ W, Apart [] w1 W → Calls Try.prog 32 #[.pointer (some ⟨V, 0, none⟩), .int .i64 (i : Nat)] W fun e w' => e = .returned (.tuple #[.agg #[.int .i64 0, .slice none 0 0], .int .i64 1]) ∧ Apart [] W w') := fun W a => v32_no (HPB.out W a) HN.out (HVW.out W a) (.inl hK1)
          obtain ⟨rr, Hrr⟩ : ∃ r, Hid (r = gR (rsT B) i) := ⟨_, rfl⟩
          rw [← Hrr.out] at HRB HC26
          obtain ⟨e0, He0⟩ : ∃ e, Hid (e = gE ee i) := ⟨_, rfl⟩
          obtain ⟨Q, r, hQ, -⟩ := (HRW.out w1 (Apart.refl _ _)).cells i hi
          have HCW : Hid (∀ W, Apart [] w1 W → Reads W e0 rr ∧ (W.cell? ⟨Q, r + i * 6, none⟩ = some (.int .i64 e0.n) ∧ W.cell? ⟨Q, r + i * 6 + 1, none⟩ = some (.int .i64 e0.c) ∧ W.cell? ⟨Q, r + i * 6 + 2, none⟩ = some (.string e0.k) ∧ W.cell? ⟨Q, r + i * 6 + 3, none⟩ = some (.bool e0.d) ∧ W.cell? ⟨Q, r + i * 6 + 4, none⟩ = some (.slice e0.v.p e0.v.n e0.v.c) ∧ W.cell? ⟨Q, r + i * 6 + 5, none⟩ = some (.slice e0.x.p e0.x.n e0.x.c)) ∧ W.cell? ⟨A, 4, none⟩ = some (.slice (some ⟨Q, r, none⟩) sl.n sl.c)) := fun W a => by
            obtain ⟨Q', r', hQ', _, c0, c1, c2, c3, c4, c5⟩ := (HRW.out W a).cells i hi
            rw [hQ] at hQ'
            simp at hQ'
            obtain ⟨rfl, rfl⟩ := hQ'
            rw [← He0.out] at c0 c1 c2 c3 c4 c5
            refine ⟨?_, ⟨c0, c1, c2, c3, c4, c5⟩, ?_⟩
            · rw [He0.out, Hrr.out]; exact (HRW.out W a).each i hi
            · rw [← hQ]; exact (HCL.out W a).2.2.2.2
          have HI := hid hi
          have HHI := hid hi'
          clear hK1 hcs0 hrb hc21 hQ hi' h1 hin0
          go_wp2_with fail
          refine HC21.out.mono ?_
          rintro _ wa ⟨rfl, aa⟩
          have HAPwa := hid (HAP.out.trans aa)
          have HAwa := hid aa
          clear aa HC21
          try dsimp only
          go_wp2_with fail
          refine (HC26.out wa HAPwa.out).mono ?_
          rintro _ wb ⟨e1, rfl, ab, hre⟩
          have HRE := hid hre
          clear hre
          have HAPwb := hid (HAPwa.out.trans ab)
          have HABw := hid ab
          clear ab HC26
          try dsimp only
          obtain ⟨X, HX⟩ : ∃ X, Hid (X = wb.heap.size) := ⟨_, rfl⟩
          obtain ⟨wc, hwc⟩ : ∃ V, V = wb.alloc (.cells #[.int .i64 e1.n, .int .i64 e1.c, .string e1.k, .bool e1.d, .slice e1.v.p e1.v.n e1.v.c, .slice e1.x.p e1.x.n e1.x.c] 50) := ⟨_, rfl⟩
          have bwc : Apart [] wb wc := by rw [hwc]; exact (Apart.refl [] wb).alloc _
          have HBX : Hid (wc.heap[X]? = some (.cells #[.int .i64 e1.n, .int .i64 e1.c, .string e1.k, .bool e1.d, .slice e1.v.p e1.v.n e1.v.c, .slice e1.x.p e1.x.n e1.x.c] 50 (0, 0))) := by unfold Hid; rw [hwc, HX.out]; exact heap_alloc_new wb _
          have HAPwc := hid (HAPwb.out.trans bwc)
          have HBCw := hid bwc
          clear bwc
          go_upto_region 14 with fail
          rw [← hwc, ← HX.out]
          clear hwc
          go_wp2_with fail
          refine (HC32.out wc HAPwc.out).mono ?_
          rintro _ we ⟨rfl, ae⟩
          have HAPwe := hid (HAPwc.out.trans ae)
          have HAr := hid (HAwa.out.trans (HABw.out.trans (HBCw.out.trans ae)))
          have HBX2 := hid (keep0 ae HBX.out)
          have HRE2 := hid (HRE.out.kept0 ((show Apart [] wb wc from HBCw.out).trans ae))
          clear ae HC32
          try dsimp only
          obtain ⟨Y, HY⟩ : ∃ X, Hid (X = we.heap.size) := ⟨_, rfl⟩
          obtain ⟨w6, hw6⟩ : ∃ V, V = we.alloc (.cells #[.int .i64 0, .slice none 0 0] 61) := ⟨_, rfl⟩
          have bw6 : Apart [] we w6 := by rw [hw6]; exact (Apart.refl [] we).alloc _
          have HBY : Hid (w6.heap[Y]? = some (.cells #[.int .i64 0, .slice none 0 0] 61 (0, 0))) := by unfold Hid; rw [hw6, HY.out]; exact heap_alloc_new we _
          have HAPw6 := hid (HAPwe.out.trans bw6)
          have HBCe := hid bw6
          have HAPr6 := hid (HAr.out.trans bw6)
          clear bw6
          go_upto_region 15 with fail
          rw [← hw6, ← HY.out]
          clear hw6
          have hX6 := keep0 HBCe.out HBX2.out
          have hHY := HBY.out
          obtain ⟨x0, x1, x2, x3, x4, x5⟩ := rowv6 hX6
          obtain ⟨y0, y1⟩ := row2v hHY
          obtain ⟨z0, z1, z2, z3, z4⟩ := HCL.out w6 HAPw6.out
          go_wp2_with fail
          refine (lnum_ok w6 _).mono ?_
          rintro _ wn ⟨rfl, hwn⟩
          rw [hwn]
          clear hwn wn
          try dsimp only
          go_wp2_with fail
          refine (lnum_ok w6 _).mono ?_
          rintro _ wn ⟨rfl, hwn⟩
          rw [hwn]
          clear hwn wn
          try dsimp only
          go_wp2_with fail
          refine (lnum_ok w6 _).mono ?_
          rintro _ wn ⟨rfl, hwn⟩
          rw [hwn]
          clear hwn wn
          try dsimp only
          go_wp2_with fail
          refine (lnum_ok w6 _).mono ?_
          rintro _ wn ⟨rfl, hwn⟩
          rw [hwn]
          clear hwn wn
          try dsimp only
          go_wp2_with fail
          refine (lnum_ok w6 _).mono ?_
          rintro _ wn ⟨rfl, hwn⟩
          rw [hwn]
          clear hwn wn
          try dsimp only
          go_wp2_with fail
          refine (lnum_ok w6 _).mono ?_
          rintro _ wn ⟨rfl, hwn⟩
          rw [hwn]
          clear hwn wn
          try dsimp only
          go_wp2_with fail
          refine (lnum_ok w6 _).mono ?_
          rintro _ wn ⟨rfl, hwn⟩
          rw [hwn]
          clear hwn wn
          try dsimp only
          go_upto_region 20 with fail
          clear x0 x1 x2 x3 x4 x5 y0 y1 z0 z1 z2 z3 z4 hX6 hHY
          have hAd : Apart [] w6 w6.drew := (Apart.refl [] w6).drew
          have hii : ((i : Nat) : Int) < (sl.n : Int) := by have := HI.out; omega
          refine wp_region_held_drew (S := fun W => Apart [] w6 W) (by kernel_rfl) hAd (fun hHeld => ?_)
          generalize w6.drew = wd at *
          refine tk 0 160 (.bool true) rfl ?_ ?_
          · intro W hSW; go_simp
          simp only [Act.put, List.setIfInBounds_toArray, List.set_cons_zero, List.set_cons_succ]
          refine tk 1 161 (.bool true) rfl ?_ ?_
          · intro W hSW; go_simp
          simp only [Act.put, List.setIfInBounds_toArray, List.set_cons_zero, List.set_cons_succ]
          refine tk 2 162 (.pointer (some ⟨A, 0, none⟩)) rfl ?_ ?_
          · intro W hSW; go_simp
          simp only [Act.put, List.setIfInBounds_toArray, List.set_cons_zero, List.set_cons_succ]
          refine tk 3 163 (.int .i64 (k : Nat)) rfl ?_ ?_
          · intro W hSW; obtain ⟨rd0, ⟨c0, c1, c2, c3, c4, c5⟩, k4⟩ := HCW.out W (HAPw6.out.trans hSW); obtain ⟨q0, -⟩ := HCL.out W (HAPw6.out.trans hSW); obtain ⟨g0, g1, g2, g3, g4, g5⟩ := rowv6 (keep0 hSW (keep0 HBCe.out HBX2.out)); go_simp
          simp only [Act.put, List.setIfInBounds_toArray, List.set_cons_zero, List.set_cons_succ]
          refine tk 4 164 (.bool true) rfl ?_ ?_
          · intro W hSW; go_simp
          simp only [Act.put, List.setIfInBounds_toArray, List.set_cons_zero, List.set_cons_succ]
          refine tk 5 165 (.bool true) rfl ?_ ?_
          · intro W hSW; go_simp
          simp only [Act.put, List.setIfInBounds_toArray, List.set_cons_zero, List.set_cons_succ]
          refine tk 6 166 (.bool true) rfl ?_ ?_
          · intro W hSW; go_simp
          simp only [Act.put, List.setIfInBounds_toArray, List.set_cons_zero, List.set_cons_succ]
          refine tk 7 167 (.slice vs.p vs.n vs.c) rfl ?_ ?_
          · intro W hSW; go_simp
          simp only [Act.put, List.setIfInBounds_toArray, List.set_cons_zero, List.set_cons_succ]
          refine tk 8 168 (.pointer (some ⟨A, 4, none⟩)) rfl ?_ ?_
          · intro W hSW; go_simp
          simp only [Act.put, List.setIfInBounds_toArray, List.set_cons_zero, List.set_cons_succ]
          refine tk 9 169 (.slice (some ⟨Q, r, none⟩) sl.n sl.c) rfl ?_ ?_
          · intro W hSW; obtain ⟨rd0, ⟨c0, c1, c2, c3, c4, c5⟩, k4⟩ := HCW.out W (HAPw6.out.trans hSW); obtain ⟨q0, -⟩ := HCL.out W (HAPw6.out.trans hSW); obtain ⟨g0, g1, g2, g3, g4, g5⟩ := rowv6 (keep0 hSW (keep0 HBCe.out HBX2.out)); go_simp
          simp only [Act.put, List.setIfInBounds_toArray, List.set_cons_zero, List.set_cons_succ]
          refine tk 10 170 (.int .i64 (i : Nat)) rfl ?_ ?_
          · intro W hSW; go_simp
          simp only [Act.put, List.setIfInBounds_toArray, List.set_cons_zero, List.set_cons_succ]
          refine tk 11 171 (.pointer (some ⟨Q, r + i * 6, none⟩)) rfl ?_ ?_
          · intro W hSW; go_simp
          simp only [Act.put, List.setIfInBounds_toArray, List.set_cons_zero, List.set_cons_succ]
          refine tk 12 172 (.pointer (some ⟨Q, r + i * 6 + 4, none⟩)) rfl ?_ ?_
          · intro W hSW; go_simp
          simp only [Act.put, List.setIfInBounds_toArray, List.set_cons_zero, List.set_cons_succ]
          refine tk 13 173 (.slice e0.v.p e0.v.n e0.v.c) rfl ?_ ?_
          · intro W hSW; obtain ⟨rd0, ⟨c0, c1, c2, c3, c4, c5⟩, k4⟩ := HCW.out W (HAPw6.out.trans hSW); obtain ⟨q0, -⟩ := HCL.out W (HAPw6.out.trans hSW); obtain ⟨g0, g1, g2, g3, g4, g5⟩ := rowv6 (keep0 hSW (keep0 HBCe.out HBX2.out)); go_simp
          simp only [Act.put, List.setIfInBounds_toArray, List.set_cons_zero, List.set_cons_succ]
          refine wpAnyH_ready (rs := [14]) (by kernel_rfl) (by simp) ?_
          refine AllReadyH.cons rfl (fun KK hKK => ?_) AllReadyH.nil
          go_simp
          have hrr := (HCW.out _ (HAPw6.out.trans hHeld)).1
          refine (same_self (s := vs) (t := e0.v) (a := rr.vs) (HRB.out.rd.kept0 (HAPr6.out.trans hHeld)) HRB.out.len HRB.out.ok hrr.v hrr.vn hrr.vo).mono ?_
          rintro _ wg ⟨rfl, hwg⟩
          rw [hwg]
          clear hwg wg hrr
          try dsimp only
          refine hKK.out _ _ hHeld (fun hHeld => ?_)
          clear hKK KK
          try simp only [Act.put, List.setIfInBounds_toArray, List.set_cons_zero, List.set_cons_succ]
          refine tk 15 175 (.bool false) rfl ?_ ?_
          · intro W hSW; go_simp
          simp only [Act.put, List.setIfInBounds_toArray, List.set_cons_zero, List.set_cons_succ]
          refine tk 16 176 (.bool false) rfl ?_ ?_
          · intro W hSW; go_simp
          simp only [Act.put, List.setIfInBounds_toArray, List.set_cons_zero, List.set_cons_succ]
          refine tk 17 177 (.agg #[.int .i64 e1.n, .int .i64 e1.c, .string e1.k, .bool e1.d, .slice e1.v.p e1.v.n e1.v.c, .slice e1.x.p e1.x.n e1.x.c]) rfl ?_ ?_
          · intro W hSW; obtain ⟨rd0, ⟨c0, c1, c2, c3, c4, c5⟩, k4⟩ := HCW.out W (HAPw6.out.trans hSW); obtain ⟨q0, -⟩ := HCL.out W (HAPw6.out.trans hSW); obtain ⟨g0, g1, g2, g3, g4, g5⟩ := rowv6 (keep0 hSW (keep0 HBCe.out HBX2.out)); go_simp
          simp only [Act.put, List.setIfInBounds_toArray, List.set_cons_zero, List.set_cons_succ]
          refine tk 18 178 (.pointer (some ⟨A, 4, none⟩)) rfl ?_ ?_
          · intro W hSW; go_simp
          simp only [Act.put, List.setIfInBounds_toArray, List.set_cons_zero, List.set_cons_succ]
          refine tk 19 179 (.slice (some ⟨Q, r, none⟩) sl.n sl.c) rfl ?_ ?_
          · intro W hSW; obtain ⟨rd0, ⟨c0, c1, c2, c3, c4, c5⟩, k4⟩ := HCW.out W (HAPw6.out.trans hSW); obtain ⟨q0, -⟩ := HCL.out W (HAPw6.out.trans hSW); obtain ⟨g0, g1, g2, g3, g4, g5⟩ := rowv6 (keep0 hSW (keep0 HBCe.out HBX2.out)); go_simp
          simp only [Act.put, List.setIfInBounds_toArray, List.set_cons_zero, List.set_cons_succ]
          refine tk 20 180 (.int .i64 (i : Nat)) rfl ?_ ?_
          · intro W hSW; go_simp
          simp only [Act.put, List.setIfInBounds_toArray, List.set_cons_zero, List.set_cons_succ]
          refine tk 21 181 (.pointer (some ⟨Q, r + i * 6, none⟩)) rfl ?_ ?_
          · intro W hSW; go_simp
          simp only [Act.put, List.setIfInBounds_toArray, List.set_cons_zero, List.set_cons_succ]
          refine tk 22 182 (.agg #[.int .i64 e0.n, .int .i64 e0.c, .string e0.k, .bool e0.d, .slice e0.v.p e0.v.n e0.v.c, .slice e0.x.p e0.x.n e0.x.c]) rfl ?_ ?_
          · intro W hSW; obtain ⟨rd0, ⟨c0, c1, c2, c3, c4, c5⟩, k4⟩ := HCW.out W (HAPw6.out.trans hSW); obtain ⟨q0, -⟩ := HCL.out W (HAPw6.out.trans hSW); obtain ⟨g0, g1, g2, g3, g4, g5⟩ := rowv6 (keep0 hSW (keep0 HBCe.out HBX2.out)); go_simp
          simp only [Act.put, List.setIfInBounds_toArray, List.set_cons_zero, List.set_cons_succ]
          refine wpAnyH_ready (rs := [23]) (by kernel_rfl) (by simp) ?_
          refine AllReadyH.cons rfl (fun KK hKK => ?_) AllReadyH.nil
          go_simp
          refine (lwrites_ok e1 e0 rr rr (HRE2.out.kept0 (HBCe.out.trans hHeld)) (HCW.out _ (HAPw6.out.trans hHeld)).1 true (by simp)).mono ?_
          rintro _ w7 ⟨rfl, a7⟩
          have hSa := hHeld.trans a7
          clear a7
          try dsimp only
          refine hKK.out _ _ hSa (fun hHeld => ?_)
          clear hKK KK
          try simp only [Act.put, List.setIfInBounds_toArray, List.set_cons_zero, List.set_cons_succ]
          refine tk 24 184 (.bool false) rfl ?_ ?_
          · intro W hSW; go_simp
          simp only [Act.put, List.setIfInBounds_toArray, List.set_cons_zero, List.set_cons_succ]
          refine tk 25 185 (.bool false) rfl ?_ ?_
          · intro W hSW; go_simp
          simp only [Act.put, List.setIfInBounds_toArray, List.set_cons_zero, List.set_cons_succ]
          refine tk 26 186 (.bool false) rfl ?_ ?_
          · intro W hSW; go_simp
          simp only [Act.put, List.setIfInBounds_toArray, List.set_cons_zero, List.set_cons_succ]
          refine wpAnyH_done (by kernel_rfl) ?_ _
          have HAPw7 := hid (HAPw6.out.trans hSa)
          clear hHeld hSa hAd
          obtain ⟨z0, z1, z2, z3, z4⟩ := HCL.out w7 HAPw7.out
          go_upto_region 22 with fail
          go_quiet (fail)
          go_wp2_with fail
          go_roundw
          case rel => exact ⟨((i : Nat) : Int) + 1, by first | rfl | (rw [hwz]), by omega, by omega, by first | exact HAPw7.out | exact HAPw7.out.drewN _ | exact (HAPw7.out.drewN _).drewN _⟩
          case measure => simp [intOf]; omega
      · skip
        have hzz : z < 0 ∨ ((headR B ⟨0, false⟩).1.m : Int) ≤ z := by rw [← HM.out]; omega
        have HC21 : Hid (Calls Try.prog 21 #[.pointer (some ⟨V, 0, none⟩), .int .i64 z] wr fun e w' => e = .returned (.tuple #[.slice none 0 0, .int .i64 1]) ∧ Apart [] wr w') := v21_no (HPB.out wr HAP.out) HN.out (HVW.out wr HAP.out) (.inr hzz)
        have HC26 : Hid (∀ W, Apart [] w1 W → Calls Try.prog 26 #[.pointer (some ⟨V, 0, none⟩), .int .i64 z] W fun e w' => e = .returned (.tuple #[.agg #[.int .i64 0, .int .i64 0, .string ⟨#[]⟩, .bool false, .slice none 0 0, .slice none 0 0], .int .i64 1]) ∧ Apart [] W w') := fun W a => v26_no (HPB.out W a) HN.out (HVW.out W a) (.inr hzz)
        have HC32 : Hid (∀ W, Apart [] w1 W → Calls Try.prog 32 #[.pointer (some ⟨V, 0, none⟩), .int .i64 z] W fun e w' => e = .returned (.tuple #[.agg #[.int .i64 0, .slice none 0 0], .int .i64 1]) ∧ Apart [] W w') := fun W a => v32_no (HPB.out W a) HN.out (HVW.out W a) (.inr hzz)
        have HIN := hid hin
        clear hzz hin
        go_wp2_with fail
        refine HC21.out.mono ?_
        rintro _ wa ⟨rfl, aa⟩
        have HAPwa := hid (HAP.out.trans aa)
        clear aa HC21
        try dsimp only
        go_wp2_with fail
        refine (HC26.out wa HAPwa.out).mono ?_
        rintro _ wb ⟨rfl, ab⟩
        have HAPwb := hid (HAPwa.out.trans ab)
        clear ab HC26
        try dsimp only
        obtain ⟨X, HX⟩ : ∃ X, Hid (X = wb.heap.size) := ⟨_, rfl⟩
        obtain ⟨wc, hwc⟩ : ∃ V, V = wb.alloc (.cells #[.int .i64 0, .int .i64 0, .string ⟨#[]⟩, .bool false, .slice none 0 0, .slice none 0 0] 50) := ⟨_, rfl⟩
        have bwc : Apart [] wb wc := by rw [hwc]; exact (Apart.refl [] wb).alloc _
        have HBX : Hid (wc.heap[X]? = some (.cells #[.int .i64 0, .int .i64 0, .string ⟨#[]⟩, .bool false, .slice none 0 0, .slice none 0 0] 50 (0, 0))) := by unfold Hid; rw [hwc, HX.out]; exact heap_alloc_new wb _
        have HAPwc := hid (HAPwb.out.trans bwc)
        clear bwc
        go_upto_region 14 with fail
        rw [← hwc, ← HX.out]
        clear hwc
        go_wp2_with fail
        refine (HC32.out wc HAPwc.out).mono ?_
        rintro _ we ⟨rfl, ae⟩
        have HAPwe := hid (HAPwc.out.trans ae)
        have HBX2 := hid (keep0 ae HBX.out)
        clear ae HC32
        try dsimp only
        obtain ⟨Y, HY⟩ : ∃ X, Hid (X = we.heap.size) := ⟨_, rfl⟩
        obtain ⟨w6, hw6⟩ : ∃ V, V = we.alloc (.cells #[.int .i64 0, .slice none 0 0] 61) := ⟨_, rfl⟩
        have bw6 : Apart [] we w6 := by rw [hw6]; exact (Apart.refl [] we).alloc _
        have HBY : Hid (w6.heap[Y]? = some (.cells #[.int .i64 0, .slice none 0 0] 61 (0, 0))) := by unfold Hid; rw [hw6, HY.out]; exact heap_alloc_new we _
        have HAPw6 := hid (HAPwe.out.trans bw6)
        have HBCe := hid bw6
        clear bw6
        go_upto_region 15 with fail
        rw [← hw6, ← HY.out]
        clear hw6
        go_cut [14] from 84 to 90 (fun s14 wx => .bool false = s14 ∧ wx = w6)
        case first =>
          by_cases hz : z ≥ 0
          · have hnl : ¬ z < (m : Int) := by have := HIN.out; omega
            go_wp2_with fail
            go_meet
            exact ⟨by first | rfl | simp, rfl⟩
          · go_wp2_with fail
            go_meet
            exact ⟨by first | rfl | simp, rfl⟩
        obtain ⟨rfl, hwc⟩ := hcut
        rw [hwc]
        clear hwc
        have hX6 := keep0 HBCe.out HBX2.out
        have hHY := HBY.out
        obtain ⟨x0, x1, x2, x3, x4, x5⟩ := rowv6 hX6
        obtain ⟨y0, y1⟩ := row2v hHY
        obtain ⟨z0, z1, z2, z3, z4⟩ := HCL.out w6 HAPw6.out
        go_wp2_with fail
        refine (lnum_ok w6 _).mono ?_
        rintro _ wn ⟨rfl, hwn⟩
        rw [hwn]
        clear hwn wn
        try dsimp only
        go_wp2_with fail
        refine (lnum_ok w6 _).mono ?_
        rintro _ wn ⟨rfl, hwn⟩
        rw [hwn]
        clear hwn wn
        try dsimp only
        go_wp2_with fail
        refine (lnum_ok w6 _).mono ?_
        rintro _ wn ⟨rfl, hwn⟩
        rw [hwn]
        clear hwn wn
        try dsimp only
        go_wp2_with fail
        refine (lnum_ok w6 _).mono ?_
        rintro _ wn ⟨rfl, hwn⟩
        rw [hwn]
        clear hwn wn
        try dsimp only
        go_wp2_with fail
        refine (lnum_ok w6 _).mono ?_
        rintro _ wn ⟨rfl, hwn⟩
        rw [hwn]
        clear hwn wn
        try dsimp only
        go_wp2_with fail
        refine (lnum_ok w6 _).mono ?_
        rintro _ wn ⟨rfl, hwn⟩
        rw [hwn]
        clear hwn wn
        try dsimp only
        go_wp2_with fail
        refine (lwrites_ok E.z E.z Wr.z Wr.z (reads_z w6) (reads_z w6) true (by simp)).mono ?_
        rintro _ w7 ⟨rfl, a7⟩
        have HAPw7 := hid (HAPw6.out.trans a7)
        have y7 := keep0 a7 HBY.out
        have A67 := hid a7
        clear a7 x0 x1 x2 x3 x4 x5 y0 y1 z0 z1 z2 z3 z4
        obtain ⟨y0, y1⟩ := row2v y7
        obtain ⟨z0, z1, z2, z3, z4⟩ := HCL.out w7 HAPw7.out
        try dsimp only
        go_wp2_with fail
        refine (lnum_ok w7 _).mono ?_
        rintro _ wn ⟨rfl, hwn⟩
        rw [hwn]
        clear hwn wn
        try dsimp only
        go_wp2_with fail
        refine (lnum_ok w7 _).mono ?_
        rintro _ wn ⟨rfl, hwn⟩
        rw [hwn]
        clear hwn wn
        try dsimp only
        go_upto_region 20 with fail
        go_quiet (fail)
        go_upto_region 22 with fail
        go_quiet (fail)
        go_wp2_with fail
        go_roundw
        case rel => exact ⟨z + 1, by first | rfl | (rw [hwz]), by omega, by omega, by first | exact HAPw7.out | exact HAPw7.out.drewN _ | exact (HAPw7.out.drewN _).drewN _⟩
        case measure => simp [intOf]; omega
    · go_wp2_with fail
      go_ret
      exact ⟨rfl, HA1.out.trans HAP.out⟩
end Go.Proofs.Ytllhmidpphlbhaa.ds
