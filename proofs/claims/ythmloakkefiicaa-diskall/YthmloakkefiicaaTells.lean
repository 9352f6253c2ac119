import Derived.Test.YthmloakkefiicaaActs1
namespace Go.Proofs.Ythmloakkefiicaa.dk
open Go.ChangeShapes Go.WideShapes Go.ChangeAt Go.RowKit
set_option linter.unusedVariables false
set_option linter.unusedSimpArgs false
set_option maxHeartbeats 400000 in
set_option maxRecDepth 10000 in
theorem read_cap {w : World} {D S : Nat} {d : Dk} (h : DiskAt w D S d) (m : Nat) (ho : d.on = true) (hs1 : m < d.n) :
    Calls Try.prog 17 #[.pointer (some ⟨D, 0, none⟩), .int .i64 m] w fun r w' => ∃ g, r = .returned (.tuple #[.slice (some ⟨g, 0, none⟩) 512 512, .int .i64 0]) ∧ Bytes w' (.slice (some ⟨g, 0, none⟩) 512 512) g 512 (d.sec m) ∧ w.heap.size ≤ g ∧ Apart [] w w' := by
  have hc := reach_any w D S d.n d.on m h.c0 h.c1
  rw [show reachE d.on d.n m = 0 from by simp [reachE, ho]; omega] at hc
  have hrun : Sem.run Try.prog (Instr.makeSlice 30 (Value.int .i64 512) (Value.int .i64 512)) w = _ := make_bytes w 512 (by decide)
  obtain ⟨L, hL⟩ : ∃ L, L = u8s (rep 512 0) := ⟨_, rfl⟩
  rw [← hL] at hrun
  have HL : Hid (L = u8s (rep 512 0)) := hL
  clear hL
  have hcp := read_copy h m hs1 L HL.out
  obtain ⟨M, hM⟩ : ∃ M, M = u8s (d.sec m) := ⟨_, rfl⟩
  rw [← hM] at hcp
  have HM : Hid (M = u8s (d.sec m)) := hM
  clear hM
  have hn := h.hn
  have k0 := h.c0
  have hD := lt_of_heap h.hd
  go_enter Try.func17, Try.ntmps17
  go_wp2_with fail
  refine hc.mono ?_
  rintro r w' ⟨rfl, rfl⟩
  clear hc
  go_wp2
  go_ret2
  have e : (w'.alloc (.cells L.toArray 5)).setRow w'.heap.size M.toArray = w'.alloc (.cells M.toArray 5) := World.setRow_alloc_new _ _ _ _
  refine ⟨w'.heap.size, rfl, ⟨by rw [sec_length h m hs1], fun j hj => ?_, by rw [sec_length h m hs1]; decide, ?_, by rw [sec_length h m hs1]; exact Nat.le_refl _⟩, Nat.le_refl _, ?_⟩
  · rw [e, World.cell?_alloc_new, HM.out]; simp [u8s, hj]
  · rw [e]; exact ⟨_, heap_alloc_new _ _, by rw [HM.out, List.size_toArray, u8s_length, sec_length h m hs1]⟩
  · rw [e]; exact (Apart.refl _ _).alloc _
set_option maxHeartbeats 400000 in
theorem image_cap {w : World} {D S : Nat} {d : Dk} (h : DiskAt w D S d) (hn1 : 1 ≤ d.n) :
    Calls Try.prog 22 #[.pointer (some ⟨D, 0, none⟩)] w fun r w' => ∃ v g cap, r = .returned v ∧ cap ≤ 4194304 ∧ Bytes w' v g cap d.mem ∧ w.heap.size ≤ g ∧ Apart [] w w' := by
  have hrun := make_bytes w (d.n * 512) (by have := h.hn; omega)
  rw [show ((d.n * 512 : Nat) : Int) = (d.n : Int) * 512 from by omega] at hrun
  have hn := h.hn
  have k0 := h.c0
  have hD := lt_of_heap h.hd
  have e0 : u8s (rep (d.n * 512) 0) = u8s (d.img 0) := by simp [Dk.img]
  rw [e0] at hrun
  clear e0
  go_enter Try.func22, Try.ntmps22
  go_wp2
  go_loopw [17] (fun i wr => ∃ k : Nat, k ≤ d.n ∧ i = .int .i64 k ∧ wr.heap[w.heap.size]? = some (.cells (u8s (d.img k)).toArray 5 (0, 0)) ∧ Apart [] w wr) (fun i _ => d.n - (intOf i).toNat)
  case atStart => exact ⟨0, Nat.zero_le _, rfl, heap_alloc_new _ _, (Apart.refl _ _).alloc _⟩
  case round =>
    obtain ⟨k, hk, rfl, hb, ha⟩ := hrel
    have k0r := (ha.cell (p := ⟨D, 0, none⟩) hD (by simp)).trans k0
    have HB : Hid (wr.heap[w.heap.size]? = some (.cells (u8s (d.img k)).toArray 5 (0, 0))) := hb
    clear hrun hb
    by_cases hlt : k < d.n
    · have hcp := img_copy h ha w.heap.size k hlt HB.out
      have hne : ¬ (d.n * 512 = k * 512) := by omega
      go_wp2_with fail
      go_region
      have hb2 : (wr.drew.setRow w.heap.size (u8s (d.img (k + 1))).toArray).heap[w.heap.size]? = some (.cells (u8s (d.img (k + 1))).toArray 5 (0, 0)) := setRow_heap _ _ _ _ _ _ HB.out
      have ha2 : Apart [] w (wr.drew.setRow w.heap.size (u8s (d.img (k + 1))).toArray) := by
        refine ⟨ha.os, ha.tape, ha.output, by simpa using ha.size, fun i hi hx => ?_⟩
        rw [setRow_other _ _ _ _ (by omega)]
        exact ha.block i hi hx
      generalize wr.drew.setRow w.heap.size (u8s (d.img (k + 1))).toArray = W at *
      go_wp2
      go_roundw
      case rel => exact ⟨k + 1, by omega, by go_num, hb2, ha2⟩
      case measure => simp [intOf]; omega
    · have e : k = d.n := by omega
      have E : Hid (k = d.n) := e
      clear e
      go_wp2
      go_ret
      have hi : d.img k = d.mem := by
        have := h.lmem
        rw [E.out, Dk.img, List.take_of_length_le (by omega)]; simp [rep]
      refine ⟨_, w.heap.size, d.n * 512, rfl, by omega, ⟨by rw [h.lmem, Nat.mul_comm]; rfl, fun j hj => ?_, by rw [h.lmem]; omega, ⟨_, HB.out, by rw [List.size_toArray, u8s_length, hi, h.lmem, Nat.mul_comm]⟩, by rw [h.lmem]; omega⟩, Nat.le_refl _, ha⟩
      rw [cell_of_row _ _ _ _ _ _ HB.out, hi]; simp [u8s, hj]
theorem Bytes.lent {w : World} {v : Value} {g cap : Nat} {bs : List Int} (h : Bytes w v g cap bs) (n : Nat) (hn : bs.length = n) : Lent w g n cap bs := by
  obtain ⟨arr, h1, h2⟩ := h.row
  exact ⟨⟨arr, h1, h2⟩, fun j hj => h.cells j (by omega), hn, by have := h.le; omega⟩
theorem row_src {w : World} {g n : Nat} {bs : List Int} (h : w.heap[g]? = some (.cells (u8s bs).toArray 5 (0, 0))) (hl : bs.length = n) : Src w (some ⟨g, 0, none⟩) n bs :=
  ⟨hl, fun h0 => ⟨g, 0, rfl, lt_of_heap h, fun j hj => by
    rw [cell_of_row _ _ _ _ _ _ h]
    simp [u8s, show j < bs.length by omega]⟩⟩
/-- bytes that are new -/
structure NewB (w w' : World) (p : Option Addr) (l c : Nat) (bs : List Int) (GA : Option Nat) : Prop where
  at' : Ans w' p l c bs GA
  nw : ∀ g, GA = some g → w.heap.size ≤ g
  pos : ∀ g, GA = some g → 0 < l
  cap : c ≤ 4194304
  ap : Apart [] w w'
theorem NewB.an {w w' : World} {P : Nat} {x : Pd} {who : Nat → Option Nat} (h : Pr w P x who) {p : Option Addr} {l c : Nat} {bs : List Int} {GA : Option Nat} (hn : NewB w w' p l c bs GA) : An w' who p l c bs GA :=
  ⟨hn.at', fun g hg => by
    cases hw : who g with
    | none => rfl
    | some s => have := h.own g s hw; have := hn.nw g hg; omega, hn.pos, hn.cap⟩
structure RdB (w w' : World) (p : Option Addr) (l c : Nat) (bs : List Int) : Prop where
  src : Src w' p l bs
  nil : p = none → c = 0
  ap : Apart [] w w'
theorem both_read {w : World} {P : Nat} {x : Pd} {who : Nat → Option Nat} (h : Pr w P x who) {K : Nat} (hK : Bk x K) (hK9 : K ≤ 900) (N : Int) :
    ∃ e bs, Calls Try.prog 17 #[.pointer (some ⟨x.D, 0, none⟩), .int .i64 N] w (fun r w' => ∃ p l c GA, r = .returned (.tuple #[.slice p l c, .int .i64 e]) ∧ NewB w w' p l c bs GA) ∧
      ∀ w1, Apart [] w w1 → Calls Try.prog 51 #[.pointer (some ⟨x.R, 0, none⟩), .int .i64 N] w1 (fun r w' => ∃ p l c, r = .returned (.tuple #[.slice p l c, .int .i64 e]) ∧ RdB w1 w' p l c bs) := by
  have hd := h.dp.at'
  have hrel := h.bd.rel
  have hwr := hK.wr
  have hrn := hrel.n
  have hro := hrel.on
  have hlog : x.r.log.length ≤ 1000000 := by rw [← hrel.wr]; omega
  have hr1 : ∀ w1, Apart [] w w1 → RefAt w1 x.R x.r := fun w1 a => (h.kept0 a).rp.at'
  cases ho : x.d.on with
  | false =>
    refine ⟨3, [], (read_off hd N ho).mono ?_, fun w1 a => (rread_off (hr1 w1 a) N (by rw [← hro]; exact ho)).mono ?_⟩
    · rintro r w' ⟨rfl, rfl⟩; exact ⟨none, 0, 0, none, rfl, ⟨rfl, rfl, rfl, rfl⟩, by simp, by simp, by omega, Apart.refl _ _⟩
    · rintro r w' ⟨rfl, rfl⟩; exact ⟨none, 0, 0, rfl, ⟨rfl, fun h0 => absurd h0 (by decide)⟩, fun _ => rfl, Apart.refl _ _⟩
  | true =>
    have hro' : x.r.on = true := by rw [← hro]; exact ho
    by_cases hN : N < 0 ∨ (x.d.n : Int) ≤ N
    · refine ⟨10, [], (read_sector hd N ho hN).mono ?_, fun w1 a => (rread_sector (hr1 w1 a) N hro' (by rw [← hrn]; exact hN)).mono ?_⟩
      · rintro r w' ⟨rfl, rfl⟩; exact ⟨none, 0, 0, none, rfl, ⟨rfl, rfl, rfl, rfl⟩, by simp, by simp, by omega, Apart.refl _ _⟩
      · rintro r w' ⟨rfl, rfl⟩; exact ⟨none, 0, 0, rfl, ⟨rfl, fun h0 => absurd h0 (by decide)⟩, fun _ => rfl, Apart.refl _ _⟩
    · obtain ⟨m, rfl⟩ : ∃ m : Nat, N = (m : Int) := ⟨N.toNat, by omega⟩
      have hm : m < x.d.n := by omega
      refine ⟨0, x.d.sec m, (read_cap hd m ho hm).mono ?_, fun w1 a => (rread_good (hr1 w1 a) m hro' (by rw [← hrn]; exact hm) hrel.first hlog).mono ?_⟩
      · rintro r w' ⟨g, rfl, hb, hg, a⟩
        exact ⟨_, 512, 512, some g, rfl, ⟨rfl, hb.lent 512 (sec_length hd m hm)⟩, fun k hk => by cases hk; exact hg, fun _ _ => by decide, by decide, a⟩
      · rintro r w' ⟨g, rfl, hg, hl, hge, a2⟩
        rw [hrel.sec hd (hr1 w1 a) m hm]
        exact ⟨_, 512, 512, rfl, row_src hg hl, (fun e => by cases e), a2⟩
theorem both_image {w : World} {P : Nat} {x : Pd} {who : Nat → Option Nat} (h : Pr w P x who) {K : Nat} (hK : Bk x K) (hK9 : K ≤ 900) :
    Calls Try.prog 22 #[.pointer (some ⟨x.D, 0, none⟩)] w (fun r w' => ∃ p l c GA, r = .returned (.slice p l c) ∧ NewB w w' p l c x.d.mem GA) ∧
      ∀ w1, Apart [] w w1 → Calls Try.prog 55 #[.pointer (some ⟨x.R, 0, none⟩)] w1 (fun r w' => ∃ p l c, r = .returned (.slice p l c) ∧ RdB w1 w' p l c x.d.mem) := by
  have hd := h.dp.at'
  have hrel := h.bd.rel
  have hwr := hK.wr
  have hlog : x.r.log.length ≤ 1000000 := by rw [← hrel.wr]; omega
  have hdn := h.bd.dn
  refine ⟨(image_cap hd hdn).mono ?_, fun w1 a => (rimage_any (h.kept0 a).rp.at' hrel.first hlog).mono ?_⟩
  · rintro r w' ⟨v, g, cap, rfl, hcap, hb, hg, a⟩
    have hl := hd.lmem
    refine ⟨some ⟨g, 0, none⟩, x.d.mem.length, cap, some g, by rw [hb.val], ⟨rfl, hb.lent _ rfl⟩, fun k hk => by cases hk; exact hg, fun _ _ => by omega, hcap, a⟩
  · rintro r w' ⟨g, rfl, hg, hl, hge, a2⟩
    rw [hrel.mem]
    exact ⟨_, _, _, rfl, row_src hg hl, (fun e => by cases e), a2⟩
theorem St.newO {w0 w w' : World} {P : Nat} {who : Nat → Option Nat} {K : Nat} {GA : Option Nat} (a : Apart [] w0 w) (hg : ∀ g, GA = some g → w0.heap.size ≤ g) (h : St w w' P who K GA) : St w0 w' P who K none := by
  cases GA with
  | some g => exact St.new a (hg g rfl) h
  | none => exact St.of a.fr h
theorem Pr.stay {w w' : World} {P : Nat} {x : Pd} {who : Nat → Option Nat} (h : Pr w P x who) {K : Nat} (hK : Bk x K) (a : Apart [] w w') : St w w' P who (K + 2) none :=
  ⟨⟨x, who, h.kept0 a, hK.up (by omega), fun k s hk => .inl (by rw [hk]; simp)⟩, a.fr⟩
set_option maxHeartbeats 4000000 in
set_option maxRecDepth 100000 in
theorem tells_5 {w : World} {P : Nat} {x : Pd} {who : Nat → Option Nat} (h : Pr w P x who) {K : Nat} (hK : Bk x K) (hK9 : K ≤ 900) (wh N M : Int) (v : Value) :
    Calls Try.prog 43 #[.pointer (some ⟨P, 0, none⟩), .agg #[.int .i64 5, .int .i64 wh, .int .i64 N, .int .i64 M, v]] w fun r w' => r = .returned (.bool true) ∧ St w w' P who (K + 2) none := by
  have HB : Hid (∀ W, Apart [] (w.alloc (.cells #[.int .i64 5, .int .i64 wh, .int .i64 N, .int .i64 M, v] 58)) W → W.cell? ⟨w.heap.size, 0, none⟩ = some (.int .i64 5) ∧ W.cell? ⟨w.heap.size, 1, none⟩ = some (.int .i64 wh) ∧ W.cell? ⟨w.heap.size, 2, none⟩ = some (.int .i64 N) ∧ W.cell? ⟨w.heap.size, 3, none⟩ = some (.int .i64 M) ∧ W.cell? ⟨w.heap.size, 4, none⟩ = some v) := box5 w _ _ _ _ _
  have aB : Apart [] w (w.alloc (.cells #[.int .i64 5, .int .i64 wh, .int .i64 N, .int .i64 M, v] 58)) := (Apart.refl _ _).alloc _
  have h1 := h.kept0 aB
  have HP : Hid (Pr (w.alloc (.cells #[.int .i64 5, .int .i64 wh, .int .i64 N, .int .i64 M, v] 58)) P x who) := h1
  have HK : Hid (Bk x K) := hK
  have e0 := h1.c0
  have e1 := h1.c1
  clear h h1 hK
  go_enter Try.func43, Try.ntmps43
  go_wp2_with fail
  generalize hV : w.alloc (.cells #[.int .i64 5, .int .i64 wh, .int .i64 N, .int .i64 M, v] 58) = V at *
  generalize w.heap.size = B at *
  clear hV
  obtain ⟨q0, q1, q2, q3, q4⟩ := HB.out V (Apart.refl _ _)
  obtain ⟨e, bs, c1, c2⟩ := both_read (HP.out.kept0 ((Apart.refl [] _).drewN 1)) HK.out hK9 N
  have HC1 := hid c1
  have HC2 := hid c2
  clear c1 c2 q0 q1 q3 q4
  go_region_held (fun W => W.cell? ⟨P, 0, none⟩ = some (.pointer (some ⟨x.D, 0, none⟩)) ∧ W.cell? ⟨P, 1, none⟩ = some (.pointer (some ⟨x.R, 0, none⟩)) ∧ W.cell? ⟨B, 2, none⟩ = some (.int .i64 N)) (go_keep) (first | (go_at_call 17; refine HC1.out.mono ?_; rintro r w1 ⟨p, l, c, GA, rfl, nb⟩; have g0 := (nb.ap.keep (p := ⟨P, 0, none⟩) (w := V.drewN 1) e0); have g1 := (nb.ap.keep (p := ⟨P, 1, none⟩) (w := V.drewN 1) e1); have g2 := (nb.ap.keep (p := ⟨B, 2, none⟩) (w := V.drewN 1) q2)))
  have NB := hid nb
  clear nb HC1
  go_wp2_with fail
  go_region_held (fun W => W.cell? ⟨P, 1, none⟩ = some (.pointer (some ⟨x.R, 0, none⟩)) ∧ W.cell? ⟨B, 2, none⟩ = some (.int .i64 N)) (go_keep) (first | (go_at_call 51; refine (HC2.out (w1.drewN 1) (NB.out.ap.drewN 1)).mono ?_; rintro r w2 ⟨p2, l2, c2, rfl, rb⟩; have m1 := (rb.ap.keep (p := ⟨P, 1, none⟩) (w := w1.drewN 1) g1); have m2 := (rb.ap.keep (p := ⟨B, 2, none⟩) (w := w1.drewN 1) g2)))
  have RB := hid rb
  have A2 : Apart [] (V.drewN 1) w2 := (NB.out.ap.drewN 1).trans rb.ap
  have hA1 := NB.out.an (HP.out.kept0 ((Apart.refl [] _).drewN 1))
  have HA2 : Hid (An w2 who p l c bs GA) := (hA1.kept ((Apart.refl [] _).drewN 1) (by simp)).kept rb.ap (by simp)
  have HP2 : Hid (Pr w2 P x who) := HP.out.kept0 (((Apart.refl [] V).drewN 1).trans A2)
  have HS := hid (same_src w2 p p2 l l2 c c2 bs HA2.out.at'.src rb.src HA2.out.at'.nil rb.nil)
  have AW : Hid (Apart [] w w2) := (aB.drewN 1).trans A2
  have HG : Hid (∀ g, GA = some g → w.heap.size ≤ g) := fun g hg => Nat.le_trans aB.size (NB.out.nw g hg)
  clear rb m1 m2 g0 g1 g2 e0 e1 q2 HC2 hA1 A2
  go_wp2_with fail
  refine (num_any _ _).mono ?_
  rintro r w3 ⟨rfl, rfl⟩
  dsimp only
  go_wp2_with fail
  refine HS.out.mono ?_
  rintro r w3 ⟨rfl, rfl⟩
  dsimp only
  go_wp2_with fail
  refine (answered_ok HP2.out HK.out hK9 HA2.out).mono ?_
  rintro r w3 ⟨rfl, s3⟩
  dsimp only
  have S3 : Hid (St w w3 P who (K + 2) none) := St.newO AW.out HG.out s3
  clear s3
  go_wp2_with fail
  go_ret
  exact ⟨rfl, S3.out⟩
set_option maxHeartbeats 4000000 in
set_option maxRecDepth 100000 in
theorem tells_10 {w : World} {P : Nat} {x : Pd} {who : Nat → Option Nat} (h : Pr w P x who) {K : Nat} (hK : Bk x K) (hK9 : K ≤ 900) (wh N M : Int) (v : Value) :
    Calls Try.prog 43 #[.pointer (some ⟨P, 0, none⟩), .agg #[.int .i64 10, .int .i64 wh, .int .i64 N, .int .i64 M, v]] w fun r w' => r = .returned (.bool true) ∧ St w w' P who (K + 2) none := by
  have HB : Hid (∀ W, Apart [] (w.alloc (.cells #[.int .i64 10, .int .i64 wh, .int .i64 N, .int .i64 M, v] 58)) W → W.cell? ⟨w.heap.size, 0, none⟩ = some (.int .i64 10) ∧ W.cell? ⟨w.heap.size, 1, none⟩ = some (.int .i64 wh) ∧ W.cell? ⟨w.heap.size, 2, none⟩ = some (.int .i64 N) ∧ W.cell? ⟨w.heap.size, 3, none⟩ = some (.int .i64 M) ∧ W.cell? ⟨w.heap.size, 4, none⟩ = some v) := box5 w _ _ _ _ _
  have aB : Apart [] w (w.alloc (.cells #[.int .i64 10, .int .i64 wh, .int .i64 N, .int .i64 M, v] 58)) := (Apart.refl _ _).alloc _
  have h1 := h.kept0 aB
  have HP : Hid (Pr (w.alloc (.cells #[.int .i64 10, .int .i64 wh, .int .i64 N, .int .i64 M, v] 58)) P x who) := h1
  have HK : Hid (Bk x K) := hK
  have e0 := h1.c0
  have e1 := h1.c1
  obtain ⟨c1, c2⟩ := both_image h1 hK hK9
  have HC1 := hid c1
  have HC2 := hid c2
  clear h h1 hK c1 c2
  go_enter Try.func43, Try.ntmps43
  go_wp2_with fail
  generalize hV : w.alloc (.cells #[.int .i64 10, .int .i64 wh, .int .i64 N, .int .i64 M, v] 58) = V at *
  generalize w.heap.size = B at *
  clear hV
  refine HC1.out.mono ?_
  rintro r w1 ⟨p, l, c, GA, rfl, nb⟩
  dsimp only
  have NB := hid nb
  have g1 := (nb.ap.keep (p := ⟨P, 1, none⟩) (w := V) e1)
  clear nb HC1
  go_wp2_with fail
  refine (HC2.out w1 NB.out.ap).mono ?_
  rintro r w2 ⟨p2, l2, c2, rfl, rb⟩
  dsimp only
  have RB := hid rb
  have A2 : Apart [] V w2 := NB.out.ap.trans rb.ap
  have hA1 := NB.out.an HP.out
  have HA2 : Hid (An w2 who p l c x.d.mem GA) := hA1.kept rb.ap (by simp)
  have HP2 : Hid (Pr w2 P x who) := HP.out.kept0 A2
  have HS := hid (same_src w2 p p2 l l2 c c2 x.d.mem HA2.out.at'.src rb.src HA2.out.at'.nil rb.nil)
  have AW : Hid (Apart [] w w2) := aB.trans A2
  have HG : Hid (∀ g, GA = some g → w.heap.size ≤ g) := fun g hg => Nat.le_trans aB.size (NB.out.nw g hg)
  clear rb g1 e0 e1 HC2 hA1 A2
  go_wp2_with fail
  refine HS.out.mono ?_
  rintro r w3 ⟨rfl, rfl⟩
  dsimp only
  go_wp2_with fail
  refine (answered_ok HP2.out HK.out hK9 HA2.out).mono ?_
  rintro r w3 ⟨rfl, s3⟩
  dsimp only
  have S3 : Hid (St w w3 P who (K + 2) none) := St.newO AW.out HG.out s3
  clear s3
  go_wp2_with fail
  go_ret
  exact ⟨rfl, S3.out⟩
set_option maxHeartbeats 4000000 in
set_option maxRecDepth 100000 in
theorem tells_9 {w : World} {P : Nat} {x : Pd} {who : Nat → Option Nat} (h : Pr w P x who) {K : Nat} (hK : Bk x K) (hK9 : K ≤ 900) (wh N M : Int) (v : Value) :
    Calls Try.prog 43 #[.pointer (some ⟨P, 0, none⟩), .agg #[.int .i64 9, .int .i64 wh, .int .i64 N, .int .i64 M, v]] w fun r w' => r = .returned (.bool true) ∧ St w w' P who (K + 2) none := by
  have HB : Hid (∀ W, Apart [] (w.alloc (.cells #[.int .i64 9, .int .i64 wh, .int .i64 N, .int .i64 M, v] 58)) W → W.cell? ⟨w.heap.size, 0, none⟩ = some (.int .i64 9) ∧ W.cell? ⟨w.heap.size, 1, none⟩ = some (.int .i64 wh) ∧ W.cell? ⟨w.heap.size, 2, none⟩ = some (.int .i64 N) ∧ W.cell? ⟨w.heap.size, 3, none⟩ = some (.int .i64 M) ∧ W.cell? ⟨w.heap.size, 4, none⟩ = some v) := box5 w _ _ _ _ _
  have aB : Apart [] w (w.alloc (.cells #[.int .i64 9, .int .i64 wh, .int .i64 N, .int .i64 M, v] 58)) := (Apart.refl _ _).alloc _
  have h1 := h.kept0 aB
  have HP : Hid (Pr (w.alloc (.cells #[.int .i64 9, .int .i64 wh, .int .i64 N, .int .i64 M, v] 58)) P x who) := h1
  have HK : Hid (Bk x K) := hK
  have e0 := h1.c0
  have e1 := h1.c1
  have HT := hid (traces_ok h1 hK hK9)
  clear h h1 hK
  go_enter Try.func43, Try.ntmps43
  go_wp2_with fail
  refine HT.out.mono ?_
  rintro r w1 ⟨rfl, s1⟩
  dsimp only
  have S1 : Hid (St w w1 P who (K + 2) none) := St.of aB.fr s1
  clear s1
  go_wp2_with fail
  go_ret
  exact ⟨rfl, S1.out⟩
end Go.Proofs.Ythmloakkefiicaa.dk
