import Derived.Test.YtckkjdgeandhgaaFrom
import Derived.Test.YtckkjdgeandhgaaPuts
import Derived.Deep.RegionHeld
namespace Go.Proofs.Ytckkjdgeandhgaa.dk
open Go.ChangeShapes Go.WideShapes Go.ChangeAt Go.RowKit

/-- A row of bytes of the call's own, whole. -/
structure Row (w : World) (g : Nat) (bs : List Int) : Prop where
  row : w.heap[g]? = some (.cells (u8s bs).toArray 5 (0, 0))
theorem Row.bytes {w : World} {g n : Nat} {bs : List Int} (h : Row w g bs) (hn : bs.length = n) (hp : 0 < n) : Bytes w (.slice (some ⟨g, 0, none⟩) n n) g n bs :=
  ⟨by rw [hn], fun j hj => by rw [cell_of_row _ _ _ _ _ _ h.row]; simp [u8s, hj], by omega, ⟨_, h.row, by simp [u8s, hn]⟩, by omega⟩
theorem Row.kept {w w' : World} {g : Nat} {bs : List Int} {X : List Nat} (h : Row w g bs) (a : Apart X w w') (hg : g ∉ X) : Row w' g bs := ⟨(a.block g (lt_of_heap h.row) hg).trans h.row⟩
theorem Row.lt {w : World} {g : Nat} {bs : List Int} (h : Row w g bs) : g < w.heap.size := lt_of_heap h.row

set_option maxHeartbeats 400000 in
theorem image_row {w : World} {D S : Nat} {d : Dk} (h : DiskAt w D S d) (n : Nat) (hdn : d.n = n) :
    Calls Try.prog 21 #[.pointer (some ⟨D, 0, none⟩)] w fun r w' => ∃ g, r = .returned (.slice (some ⟨g, 0, none⟩) (n * 512) (n * 512)) ∧ Row w' g d.mem ∧ w.heap.size ≤ g ∧ Apart [] w w' := by
  subst hdn
  have hrun := make_bytes w (d.n * 512) (by have := h.hn; omega)
  rw [show ((d.n * 512 : Nat) : Int) = (d.n : Int) * 512 from by omega] at hrun
  have hn := h.hn
  have k0 := h.c0
  have hD := lt_of_heap h.hd
  have e0 : u8s (rep (d.n * 512) 0) = u8s (d.img 0) := by simp [Dk.img]
  rw [e0] at hrun
  clear e0
  go_enter Try.func21, Try.ntmps21
  go_wp2
  go_loopw [17] (fun i wr => ∃ k : Nat, k ≤ d.n ∧ i = .int .i64 k ∧ wr.heap[w.heap.size]? = some (.cells (u8s (d.img k)).toArray 5 (0, 0)) ∧ Apart [] w wr) (fun i _ => d.n - (intOf i).toNat)
  case atStart => exact ⟨0, Nat.zero_le _, rfl, heap_alloc_new _ _, (Apart.refl _ _).alloc _⟩
  case round =>
    obtain ⟨k, hk, rfl, hb, ha⟩ := hrel
    have k0r := (ha.cell (p := ⟨D, 0, none⟩) hD (by simp)).trans k0
    have HB : Hid (wr.heap[w.heap.size]? = some (.cells (u8s (d.img k)).toArray 5 (0, 0))) := hb
    clear hrun hb
    by_cases hlt : k < d.n
    · have hcp := img_copy h ha w.heap.size k hlt HB.out
      have hne : ¬ (d.n * 512 = k * 512) := by omega
      go_wp2_with fail
      go_region
      have hb2 : (wr.drew.setRow w.heap.size (u8s (d.img (k + 1))).toArray).heap[w.heap.size]? = some (.cells (u8s (d.img (k + 1))).toArray 5 (0, 0)) := setRow_heap _ _ _ _ _ _ HB.out
      have ha2 : Apart [] w (wr.drew.setRow w.heap.size (u8s (d.img (k + 1))).toArray) := by
        refine ⟨ha.os, ha.tape, ha.output, by simpa using ha.size, fun i hi hx => ?_⟩
        rw [setRow_other _ _ _ _ (by omega)]
        exact ha.block i hi hx
      generalize wr.drew.setRow w.heap.size (u8s (d.img (k + 1))).toArray = W at *
      go_wp2
      go_roundw
      case rel => exact ⟨k + 1, by omega, by go_num, hb2, ha2⟩
      case measure => simp [intOf]; omega
    · have e : k = d.n := by omega
      have E : Hid (k = d.n) := e
      clear e
      go_wp2
      go_ret
      have hi : d.img k = d.mem := by
        have := h.lmem
        rw [E.out, Dk.img, List.take_of_length_le (by omega)]; simp [rep]
      have hbb := HB.out
      rw [hi] at hbb
      exact ⟨w.heap.size, rfl, ⟨hbb⟩, Nat.le_refl _, ha⟩
set_option maxHeartbeats 400000 in
set_option maxRecDepth 10000 in
theorem read_row {w : World} {D S : Nat} {d : Dk} (h : DiskAt w D S d) (m : Nat) (ho : d.on = true) (hs1 : m < d.n) :
    Calls Try.prog 16 #[.pointer (some ⟨D, 0, none⟩), .int .i64 m] w fun r w' => ∃ g, r = .returned (.tuple #[.slice (some ⟨g, 0, none⟩) 512 512, .int .i64 0]) ∧ Row w' g (d.sec m) ∧ w.heap.size ≤ g ∧ Apart [] w w' := by
  have hc := reach_any w D S d.n d.on m h.c0 h.c1
  rw [show reachE d.on d.n m = 0 from by simp [reachE, ho]; omega] at hc
  have hrun : Sem.run Try.prog (Instr.makeSlice 30 (Value.int .i64 512) (Value.int .i64 512)) w = _ := make_bytes w 512 (by decide)
  obtain ⟨L, hL⟩ : ∃ L, L = u8s (rep 512 0) := ⟨_, rfl⟩
  rw [← hL] at hrun
  have HL : Hid (L = u8s (rep 512 0)) := hL
  clear hL
  have hcp := read_copy h m hs1 L HL.out
  obtain ⟨M, hM⟩ : ∃ M, M = u8s (d.sec m) := ⟨_, rfl⟩
  rw [← hM] at hcp
  have HM : Hid (M = u8s (d.sec m)) := hM
  clear hM
  have hn := h.hn
  have k0 := h.c0
  have hD := lt_of_heap h.hd
  go_enter Try.func16, Try.ntmps16
  go_wp2_with fail
  refine hc.mono ?_
  rintro r w' ⟨rfl, rfl⟩
  clear hc
  go_wp2
  go_ret2
  have e : (w'.alloc (.cells L.toArray 5)).setRow w'.heap.size M.toArray = w'.alloc (.cells M.toArray 5) := World.setRow_alloc_new _ _ _ _
  refine ⟨w'.heap.size, rfl, ⟨?_⟩, Nat.le_refl _, ?_⟩
  · rw [e, ← HM.out]; exact heap_alloc_new _ _
  · rw [e]; exact (Apart.refl _ _).alloc _
theorem spoil_row {w : World} {g n : Nat} {bs : List Int} (h : Row w g bs) (hn : bs.length = n) (hp : 0 < n) (hm : n ≤ 4194304) :
    Calls Try.prog 26 #[.slice (some ⟨g, 0, none⟩) n n] w fun r w' => r = .returned (.tuple #[]) ∧ Apart [g] w w' := by
  refine (spoil_any w g n n _ h.row (Nat.le_refl _) (by simp [u8s, hn]) hm hp).mono ?_
  rintro r w' ⟨rfl, a, _⟩
  exact ⟨rfl, a⟩
theorem DiskAt.notrow {w : World} {D S g : Nat} {d : Dk} {bs : List Int} (h : DiskAt w D S d) (r : Row w g bs) : D ∉ [g] ∧ S ∉ [g] := by
  constructor
  · intro hm; simp at hm; subst hm; exact h.not5 _ _ (by simp) r.row
  · intro hm; simp at hm; subst hm; exact h.not5 _ _ (by simp) r.row

/-- one disk, between two writes -/
structure CInv (w wr : World) (B D S n k : Nat) (d : Dk) : Prop where
  hd : DiskAt wr D S d
  ho : d.on = true
  ha : d.armed = false
  hk : d.writes = k
  hn : d.n = n
  hb : Below B w wr
  hs : B ≤ wr.heap.size
theorem CInv.kept {w wr w' : World} {B D S n k : Nat} {d : Dk} {X : List Nat} (h : CInv w wr B D S n k d) (a : Apart X wr w') (hD : D ∉ X) (hS : S ∉ X) (hX : ∀ x ∈ X, B ≤ x) : CInv w w' B D S n k d :=
  { h with hd := h.hd.kept a hD hS, hb := h.hb.trans (a.below h.hs hX), hs := Nat.le_trans h.hs a.size }
theorem strOf_size (l : List Int) : (strOf l).size = l.length := by
  have key : ∀ (l : List Int) (s : ByteArray), (l.foldl (fun r n => r.push (UInt8.ofNat n.toNat)) s).size = s.size + l.length := by
    intro l
    induction l with
    | nil => intro s; simp
    | cons x r ih => intro s; simp [ih]; omega
  simpa [strOf] using key l ByteArray.empty
set_option maxHeartbeats 2000000 in
set_option maxRecDepth 10000 in
theorem copy_walk (w : World) (s0 : Int) (p1 p2 : Option Addr) (len1 cap1 len2 cap2 : Nat) (fs fb gs gb : Nat → Int) (hl1 : len1 ≤ 200) (hl2 : len2 ≤ 200) (hp1 : IsPuts w p1 len1 fs fb) (hp2 : IsPuts w p2 len2 gs gb) :
    Calls Try.prog 5 #[.int .i64 s0, .slice p1 len1 cap1, .slice p2 len2 cap2] w fun r w' => r = .returned (.bool true) ∧ Below w.heap.size w w' := by
  have q1 : ¬ ((200 : Int) < (len1 : Int)) := by omega
  have q2 : ¬ ((200 : Int) < (len2 : Int)) := by omega
  go_enter Try.func5, Try.ntmps5
  go_wp2_with fail
  refine (count_ex _ _).mono ?_
  rintro r w' ⟨n, rfl, hn1, hn2, rfl⟩
  go_wp2_with fail
  refine (new_good _ n hn1 (by omega)).mono ?_
  rintro r w1 ⟨rfl, hd1, a1⟩
  go_wp2_with fail
  refine (num_any _ _).mono ?_
  rintro r w2 ⟨rfl, rfl⟩
  go_wp2
  have hi0 : CInv w' w2 w'.heap.size (w'.heap.size + 1) w'.heap.size n 0 (Dk.fresh n (List.replicate (n * 512) 0)) := ⟨hd1, rfl, rfl, rfl, rfl, a1.below (Nat.le_refl _) (by simp), a1.size⟩
  clear hd1 a1
  go_loopw [10] (fun i wr => ∃ k : Nat, k ≤ len1 ∧ i = .int .i64 k ∧ ∃ d, CInv w' wr w'.heap.size (w'.heap.size + 1) w'.heap.size n k d) (fun i _ => len1 - (intOf i).toNat)
  case atStart => exact ⟨0, Nat.zero_le _, rfl, _, hi0⟩
  case round =>
    clear hi0
    obtain ⟨k, hk, rfl, d, hinv⟩ := hrel
    by_cases hlt : k < len1
    · obtain ⟨P, o, rfl, hP, hc0, hc1⟩ := hp1 (by omega)
      have e0 : ∀ W, Below w'.heap.size w' W → W.cell? ⟨P, o + k * 2, none⟩ = some (.int .i64 (fs k)) := fun W hb => (hb.cell (p := ⟨P, o + k * 2, none⟩) hP).trans (hc0 k hlt)
      have e1 : ∀ W, Below w'.heap.size w' W → W.cell? ⟨P, o + k * 2 + 1, none⟩ = some (.int .u8 (fb k)) := fun W hb => (hb.cell (p := ⟨P, o + k * 2 + 1, none⟩) hP).trans (hc1 k hlt)
      have hinv0 : CInv w' wr.drew w'.heap.size (w'.heap.size + 1) w'.heap.size n k d := hinv.kept ((Apart.refl [] wr).drewN 1) (by simp) (by simp) (by simp)
      have hbl0 := hinv0.hb
      clear hp2 hc0 hc1 hinv
      go_wp2_with fail
      go_region_held (fun W => Below w'.heap.size w' W) (assumption) (first
        | (go_at_call 13; refine (slot_ex _ _ n (by omega) (by omega)).mono ?_; rintro r w4 ⟨m, rfl, hm, hms, rfl⟩; clear hms)
        | (go_at_call 12; refine (full_sl _ (fb k)).mono ?_; rintro r w5 ⟨g5, c5, rfl, hb5, hg5, a5⟩; have hinv5 := hinv0.kept a5 (by simp) (by simp) (by simp); have hbl5 := hinv5.hb)
        | (go_at_call 14; refine (write_plain hinv5.hd m g5 0 c5 (rep 512 (fb k)) (by have := lt_of_heap hinv0.hd.hd; omega) (rep_length _ _) (by intro j hj; rw [Nat.zero_add]; exact hb5.cells j (by rw [rep_length]; exact hj)) hinv5.ho (by rw [hinv5.hn]; exact hm) (by rw [hinv5.hk]; omega) hinv5.ha).mono ?_; rintro r w6 ⟨rfl, hd6, a6⟩; have hbl6 := hinv5.hb.trans (a6.below hinv5.hs (by simp))))
      have hinv6 : CInv w' w6 w'.heap.size (w'.heap.size + 1) w'.heap.size n (k + 1) _ := ⟨hd6, hinv5.ho, hinv5.ha, by simp [Dk.noted, hinv5.hk], hinv5.hn, hbl6, hbl6.size⟩
      clear hd6 a6 hinv5 hb5 a5 hinv0 e0 e1
      go_wp2
      go_roundw
      case rel => exact ⟨k + 1, by omega, by go_num, _, hinv6⟩
      case measure => simp [intOf]; omega
    · have e : k = len1 := by omega
      subst e
      clear hp1
      have hlm : d.mem.length = n * 512 := by rw [hinv.hd.lmem, hinv.hn, Nat.mul_comm]
      have HLM : Hid (d.mem.length = n * 512) := hlm
      clear hlm
      have hDlt := lt_of_heap hinv.hd.hd
      go_wp2_with fail
      refine (image_row hinv.hd n hinv.hn).mono ?_
      rintro r w3 ⟨g3, rfl, hr3, hg3, a3⟩
      have hinv3 := hinv.kept a3 (by simp) (by simp) (by simp)
      have hcv := conv_run (hr3.bytes HLM.out (by omega))
      obtain ⟨str, hstr⟩ : ∃ str, str = strOf d.mem := ⟨_, rfl⟩
      rw [← hstr] at hcv
      have hsz : str.size = n * 512 := by rw [hstr, ← HLM.out]; exact strOf_size _
      have HSTR : Hid (str = strOf d.mem) := hstr
      have HSZ : Hid (str.size = n * 512) := hsz
      clear hstr hsz hinv
      go_wp2_with fail
      refine (from_good _ n g3 0 (n * 512) d.mem hn1 (by omega) (Nat.le_refl _) HLM.out (fun j hj => by
        rw [Nat.zero_add]; exact (hr3.bytes HLM.out (by omega)).cells j (by rw [HLM.out]; exact hj))).mono ?_
      rintro r w4 ⟨rfl, hd4, a4⟩
      have hinv4 := hinv3.kept a4 (by simp) (by simp) (by simp)
      have hr4 := hr3.kept a4 (by simp)
      have hC : w'.heap.size + 1 < w3.heap.size := by have := a3.size; omega
      have hgC : g3 < w3.heap.size := hr3.lt
      generalize w3.heap.size = C at *
      clear hinv3 hr3 a3 hcv
      go_wp2_with fail
      refine (num_any _ _).mono ?_
      rintro r w5 ⟨rfl, rfl⟩
      go_wp2_with fail
      refine (sectors_any hd4).mono ?_
      rintro r w6 ⟨rfl, rfl⟩
      rw [show (Dk.fresh n d.mem).n = n from rfl]
      have hsz2 := HSZ.out
      have hmm : ((n : Int) * 512 != 512 * (n : Int)) = false := by rw [Int.mul_comm]; exact bne_self_eq_false _
      go_wp2_with fail
      clear hsz2 hmm
      refine (spoil_row hr4 HLM.out (by omega) (by omega)).mono ?_
      rintro r w7 ⟨rfl, a7⟩
      have hinv7 := hinv4.kept a7 (hinv4.hd.notrow hr4).1 (hinv4.hd.notrow hr4).2 (by simp; omega)
      have hc7 : CInv w' w7 w'.heap.size (C + 1) C n 0 (Dk.fresh n d.mem) := ⟨hd4.kept a7 (hd4.notrow hr4).1 (hd4.notrow hr4).2, rfl, rfl, rfl, rfl, hinv7.hb, hinv7.hs⟩
      clear a7 hinv4 hr4 hd4
      go_wp2_with fail
      refine (image_row hc7.hd n rfl).mono ?_
      rintro r w8 ⟨g8, rfl, hr8, hg8, a8⟩
      have hcv8 := conv_run (hr8.bytes HLM.out (by omega))
      rw [show (Dk.fresh n d.mem).mem = d.mem from rfl, ← HSTR.out] at hcv8
      have hinv8 := hinv7.kept a8 (by simp) (by simp) (by simp)
      have hc8 := hc7.kept a8 (by simp) (by simp) (by simp)
      clear hr8 a8 hinv7 hc7
      go_wp2_with fail
      clear hcv8
      refine (image_row hinv8.hd n hinv8.hn).mono ?_
      rintro r w9 ⟨g9, rfl, hr9, hg9, a9⟩
      have hcv9 := conv_run (hr9.bytes HLM.out (by omega))
      rw [← HSTR.out] at hcv9
      have hinv9 := hinv8.kept a9 (by simp) (by simp) (by simp)
      have hc9 := hc8.kept a9 (by simp) (by simp) (by simp)
      clear hr9 a9 hinv8 hc8
      go_wp2
      clear hcv9
      go_loopw [15] (fun i wr => ∃ j : Nat, j ≤ len2 ∧ i = .int .i64 j ∧ CInv w' wr w'.heap.size (w'.heap.size + 1) w'.heap.size n k d ∧ ∃ c, CInv w' wr w'.heap.size (C + 1) C n j c) (fun i _ => len2 - (intOf i).toNat)
      case atStart => exact ⟨0, Nat.zero_le _, rfl, hinv9, _, hc9⟩
      case round =>
        clear hinv9 hc9
        obtain ⟨j, hj, rfl, hinv, c, hcin⟩ := hrel
        by_cases hlt2 : j < len2
        · obtain ⟨P, o, rfl, hP, hc0, hc1⟩ := hp2 (by omega)
          have e0 : ∀ W, Below w'.heap.size w' W → W.cell? ⟨P, o + j * 2, none⟩ = some (.int .i64 (gs j)) := fun W hb => (hb.cell (p := ⟨P, o + j * 2, none⟩) hP).trans (hc0 j hlt2)
          have e1 : ∀ W, Below w'.heap.size w' W → W.cell? ⟨P, o + j * 2 + 1, none⟩ = some (.int .u8 (gb j)) := fun W hb => (hb.cell (p := ⟨P, o + j * 2 + 1, none⟩) hP).trans (hc1 j hlt2)
          have hin0 : CInv w' wr.drew w'.heap.size (w'.heap.size + 1) w'.heap.size n k d := hinv.kept ((Apart.refl [] wr).drewN 1) (by simp) (by simp) (by simp)
          have hci0 : CInv w' wr.drew w'.heap.size (C + 1) C n j c := hcin.kept ((Apart.refl [] wr).drewN 1) (by simp) (by simp) (by simp)
          have hbl0 := hin0.hb
          clear hp2 hc0 hc1 hinv hcin
          go_wp2_with fail
          go_region_held (fun W => Below w'.heap.size w' W) (assumption) (first
            | (go_at_call 13; refine (slot_ex _ _ n (by omega) (by omega)).mono ?_; rintro r w4 ⟨m, rfl, hm, hms, rfl⟩; have HMS : Hid ((m : Int) = slotI (gs j) n) := hms; clear hms)
            | (go_at_call 12; refine (full_sl _ (gb j)).mono ?_; rintro r w5 ⟨g5, c5, rfl, hb5, hg5, a5⟩; have hin5 := hin0.kept a5 (by simp) (by simp) (by simp); have hci5 := hci0.kept a5 (by simp) (by simp) (by simp); have hbl5 := hin5.hb)
            | (go_at_call 14; refine (write_plain hci5.hd m g5 0 c5 (rep 512 (gb j)) (by have := lt_of_heap hci0.hd.hd; omega) (rep_length _ _) (by intro j hj; rw [Nat.zero_add]; exact hb5.cells j (by rw [rep_length]; exact hj)) hci5.ho (by rw [hci5.hn]; exact hm) (by rw [hci5.hk]; omega) hci5.ha).mono ?_; rintro r w6 ⟨rfl, hd6, a6⟩; have hbl6 := hci5.hb.trans (a6.below hci5.hs (by simp; omega))))
          have hin6 := hin5.kept a6 (by simp; omega) (by simp; omega) (by simp; omega)
          have hci6 : CInv w' w6 w'.heap.size (C + 1) C n (j + 1) _ := ⟨hd6, hci5.ho, hci5.ha, by simp [Dk.noted, hci5.hk], hci5.hn, hbl6, hbl6.size⟩
          have hsec := sec_splice_same hci5.hd m (by rw [hci5.hn]; exact hm) (rep 512 (gb j)) (rep_length _ _) { c.noted m with mem := splice c.mem (m * 512) (rep 512 (gb j)) } rfl
          generalize { c.noted m with mem := splice c.mem (m * 512) (rep 512 (gb j)) } = c' at *
          have HSEC : Hid (c'.sec m = rep 512 (gb j)) := hsec
          clear hsec hd6 a6 hin5 hci5 hb5 a5 hin0 hci0
          have e06 := e0 _ hin6.hb
          go_wp2_with fail
          refine (slot_ex _ _ n (by omega) (by omega)).mono ?_
          rintro r w7 ⟨m2, rfl, hm2, hms2, rfl⟩
          obtain rfl : m2 = m := by have := HMS.out; omega
          clear hms2
          go_wp2_with fail
          refine (read_row hci6.hd m2 hci6.ho (by rw [hci6.hn]; exact hm)).mono ?_
          rintro r w8 ⟨g8, rfl, hr8, hg8, a8⟩
          have hin8 := hin6.kept a8 (by simp) (by simp) (by simp)
          have hci8 := hci6.kept a8 (by simp) (by simp) (by simp)
          rw [HSEC.out] at hr8
          have e18 := e1 _ hin8.hb
          clear e06 hin6 hci6
          go_wp2_with fail
          refine (full_sl _ (gb j)).mono ?_
          rintro r w9 ⟨g9, c9, rfl, hb9, hg9, a9⟩
          have hin9 := hin8.kept a9 (by simp) (by simp) (by simp)
          have hci9 := hci8.kept a9 (by simp) (by simp) (by simp)
          have hr9 := hr8.kept a9 (by simp)
          have hg8B : w'.heap.size ≤ g8 := by have := hin8.hs; have := a8.size; have := hbl6.size; omega
          clear e18 hin8 hci8 hr8 a8
          go_wp2_with fail
          refine (same_eq _ _ _ _ _ _ _ _ (hr9.bytes (rep_length _ _) (by omega)) hb9).mono ?_
          rintro r w10 ⟨rfl, rfl⟩
          go_wp2_with fail
          refine (spoil_row hr9 (rep_length _ _) (by omega) (by omega)).mono ?_
          rintro r w11 ⟨rfl, a11⟩
          have hin11 := hin9.kept a11 (hin9.hd.notrow hr9).1 (hin9.hd.notrow hr9).2 (by simp; omega)
          have hci11 := hci9.kept a11 (hci9.hd.notrow hr9).1 (hci9.hd.notrow hr9).2 (by simp; omega)
          clear hin9 hci9 hr9 a11 hb9 a9
          have hin12 : CInv w' w11.drew w'.heap.size (w'.heap.size + 1) w'.heap.size n k d := hin11.kept ((Apart.refl [] w11).drewN 1) (by simp) (by simp) (by simp)
          have hci12 : CInv w' w11.drew w'.heap.size (C + 1) C n (j + 1) c' := hci11.kept ((Apart.refl [] w11).drewN 1) (by simp) (by simp) (by simp)
          have hbl12 := hin12.hb
          clear hin11 hci11
          go_wp2_with fail
          go_region_held (fun W => Below w'.heap.size w' W) (assumption) (first
            | (go_at_call 13; refine (slot_ex _ _ n (by omega) (by omega)).mono ?_; rintro r w13 ⟨m3, rfl, hm3, hms3, rfl⟩; obtain rfl : m3 = m2 := by (have := HMS.out; omega)
               clear hms3)
            | (go_at_call 12; refine (full_sl _ (gb j)).mono ?_; rintro r w14 ⟨g14, c14, rfl, hb14, hg14, a14⟩; have hin14 := hin12.kept a14 (by simp) (by simp) (by simp); have hci14 := hci12.kept a14 (by simp) (by simp) (by simp); have hbl14 := hin14.hb; rw [← HSEC.out] at hb14)
            | (go_at_call 19; refine (reads_eq hci14.hd m3 hci14.ho (by rw [hci14.hn]; exact hm3) _ g14 c14 hb14).mono ?_; rintro r w15 ⟨rfl, a15⟩; have hin15 := hin14.kept a15 (by simp) (by simp) (by simp); have hci15 := hci14.kept a15 (by simp) (by simp) (by simp); have hbl15 := hin15.hb)
            | (go_at_call 21; refine (image_row hin15.hd n hin15.hn).mono ?_; rintro r w16 ⟨g16, rfl, hr16, hg16, a16⟩; have hcv16 := conv_run (hr16.bytes HLM.out (by omega)); rw [← HSTR.out] at hcv16; have hin16 := hin15.kept a16 (by simp) (by simp) (by simp); have hci16 := hci15.kept a16 (by simp) (by simp) (by simp); have hbl16 := hin16.hb))
          clear hcv16 hr16 a16 hin15 hci15 hin14 hci14 hb14 a15 a14 hin12 hci12 e0 e1
          go_wp2
          go_roundw
          case rel => exact ⟨j + 1, by omega, by go_num, hin16, _, hci16⟩
          case measure => simp [intOf]; omega
        · have e : j = len2 := by omega
          subst e
          clear hp2
          go_wp2_with fail
          refine (off_disk hcin.hd).mono ?_
          rintro r w4 ⟨rfl, hd4, a4⟩
          have hin4 := hinv.kept a4 (by simp; omega) (by simp; omega) (by simp; omega)
          go_wp2_with fail
          refine (isOn_any _ _ _ hin4.hd.c1).mono ?_
          rintro r w5 ⟨rfl, rfl⟩
          rw [hin4.ho]
          go_wp2_with fail
          refine (isOn_any _ _ _ hd4.c1).mono ?_
          rintro r w6 ⟨rfl, rfl⟩
          rw [show c.offed.on = false from rfl]
          go_wp2_with fail
          refine (writes_any _ _ _ hd4.c5).mono ?_
          rintro r w7 ⟨rfl, rfl⟩
          rw [show c.offed.writes = c.writes from rfl, hcin.hk]
          go_wp2_with fail
          refine (writes_any _ _ _ hin4.hd.c5).mono ?_
          rintro r w8 ⟨rfl, rfl⟩
          rw [hin4.hk]
          go_wp2_with fail
          refine (image_row hin4.hd n hin4.hn).mono ?_
          rintro r w9 ⟨g9, rfl, hr9, hg9, a9⟩
          have hcv9 := conv_run (hr9.bytes HLM.out (by omega))
          rw [← HSTR.out] at hcv9
          have hin9 := hin4.kept a9 (by simp) (by simp) (by simp)
          clear hr9 a9 hd4 a4 hcin hinv hin4
          go_wp2
          go_ret
          exact ⟨rfl, hin9.hb⟩
end Go.Proofs.Ytckkjdgeandhgaa.dk
