import Derived.Test.YthmloakkefiicaaWants
namespace Go.Proofs.Ythmloakkefiicaa.dk
open Go.ChangeShapes Go.WideShapes Go.ChangeAt Go.RowKit
theorem count_ex (w : World) (s : Int) : Calls Try.prog 10 #[.int .i64 s] w fun r w' => ∃ n : Nat, r = .returned (.int .i64 n) ∧ 1 ≤ n ∧ n ≤ 64 ∧ w' = w := by
  refine (count_any w s).mono ?_
  rintro r w' ⟨rfl, rfl⟩
  exact ⟨(1 + s % 64).toNat, by congr 2; omega, by omega, by omega, rfl⟩
theorem slot_ex (w : World) (s : Int) (n : Nat) (hn : 0 < n) (hn2 : n ≤ 1000000) : Calls Try.prog 14 #[.int .i64 s, .int .i64 n] w fun r w' => ∃ m : Nat, r = .returned (.int .i64 m) ∧ m < n ∧ (m : Int) = slotI s n ∧ w' = w := by
  refine (slot_any w s n (by omega) (by omega)).mono ?_
  rintro r w' ⟨rfl, rfl⟩
  have h0 : 0 ≤ slotI s n := Int.emod_nonneg _ (by omega)
  have h1 : slotI s n < n := Int.emod_lt_of_pos _ (by omega)
  exact ⟨(slotI s n).toNat, by congr 2; omega, by omega, by omega, rfl⟩
theorem full_sl (w : World) (b : Int) : Calls Try.prog 13 #[.int .u8 b] w fun r w' => ∃ g cap, r = .returned (.slice (some ⟨g, 0, none⟩) 512 cap) ∧ Bytes w' (.slice (some ⟨g, 0, none⟩) 512 cap) g cap (rep 512 b) ∧ w.heap.size ≤ g ∧ Apart [] w w' := by
  refine (full_any w b).mono ?_
  rintro r w' ⟨v, g, cap, rfl, hb, hg, a⟩
  have hv : v = .slice (some ⟨g, 0, none⟩) 512 cap := by rw [hb.val, rep_length]
  subst hv
  exact ⟨g, cap, rfl, hb, hg, a⟩
def zeros (k : Nat) : List (List Int) := List.replicate k (rep 512 0)
theorem zeros_len (k : Nat) : (zeros k).length = k := by simp [zeros]
theorem zeros_succ (k : Nat) : zeros k ++ [rep 512 0] = zeros (k + 1) := by simp [zeros, List.replicate_succ']
theorem info30 : (Try.prog.info? 30).map (fun i => (i.zero, i.size, i.bytes)) = some (some (.slice none 0 0), 1, 24) := by kernel_rfl
theorem wants_nil (w : World) (B : Nat) : Wants w B (.slice none 0 0) (zeros 0) [] := ⟨World.ownsRow_nil _ _ _ _, fun j hj => by simp [zeros] at hj⟩
theorem below_apart0 {B : Nat} {w a b : World} (h : Below B w a) (hB : B ≤ a.heap.size) (k : Apart [] a b) : Below B w b := h.trans (k.below hB (by simp))

theorem image_sl {w : World} {D S : Nat} {d : Dk} (h : DiskAt w D S d) (hn1 : 1 ≤ d.n) :
    Calls Try.prog 22 #[.pointer (some ⟨D, 0, none⟩)] w fun r w' => ∃ g cap, r = .returned (.slice (some ⟨g, 0, none⟩) (512 * d.n) cap) ∧ Bytes w' (.slice (some ⟨g, 0, none⟩) (512 * d.n) cap) g cap d.mem ∧ w.heap.size ≤ g ∧ Apart [] w w' := by
  refine (image_any h hn1).mono ?_
  rintro r w' ⟨v, g, cap, rfl, hb, hg, a⟩
  have hv : v = .slice (some ⟨g, 0, none⟩) (512 * d.n) cap := by rw [hb.val, h.lmem]
  subst hv
  exact ⟨g, cap, rfl, hb, hg, a⟩
theorem Wants.shapeN {w : World} {base n : Nat} {v : Value} {L : List (List Int)} {xs : List Value} (h : Wants w base v L xs) (hn : L.length = n) (hp : 0 < n) : ∃ gw cap, v = .slice (some ⟨gw, 0, none⟩) n cap ∧ base ≤ gw := by
  obtain ⟨gw, cap, h1, h2, _⟩ := h.shape (by omega)
  exact ⟨gw, cap, by rw [h1, hn], h2⟩
/-- what the law keeps up between two writes -/
structure LInv (w wr : World) (B n : Nat) (V : Value) (k : Nat) (d : Dk) (L : List (List Int)) (xs : List Value) : Prop where
  hd : DiskAt wr (B + 1) B d
  hw : Wants wr B V L xs
  ho : d.on = true
  ha : d.armed = false
  hk : d.writes = k
  hn : d.n = n
  hL : L.length = n
  sec : ∀ j, j < n → d.sec j = L.getD j []
  hb : Below B w wr
  hs : B ≤ wr.heap.size
theorem LInv.start {w wr : World} {B n : Nat} {V : Value} {xs : List Value} (hd : DiskAt wr (B + 1) B (Dk.fresh n (List.replicate (n * 512) 0))) (hw : Wants wr B V (zeros n) xs) (hb : Below B w wr) (hs : B ≤ wr.heap.size) : LInv w wr B n V 0 (Dk.fresh n (List.replicate (n * 512) 0)) (zeros n) xs :=
  ⟨hd, hw, rfl, rfl, rfl, rfl, zeros_len n, fun j hj => by
    have e : (zeros n).getD j [] = rep 512 0 := by simp [zeros, List.getD_eq_getElem?_getD, hj]
    rw [e]
    simp only [Dk.sec, Dk.fresh, rep, List.drop_replicate, List.take_replicate]
    rw [show min 512 (n * 512 - j * 512) = 512 from by omega], hb, hs⟩
theorem LInv.step {w wr w6 w7 : World} {B n gw cw : Nat} {k : Nat} {d : Dk} {L : List (List Int)} {xs : List Value} (h : LInv w wr B n (.slice (some ⟨gw, 0, none⟩) n cw) k d L xs) (m : Nat) (hm : m < n) (b : Int) (d' : Dk)
    (hd6 : DiskAt w6 (B + 1) B d') (a6 : Apart [B + 1, B] wr w6) (hmem : d'.mem = splice d.mem (m * 512) (rep 512 b)) (hon : d'.on = true) (har : d'.armed = false) (hwr : d'.writes = k + 1) (hn' : d'.n = d.n)
    (a7 : Apart [] w6 w7) {g c : Nat} (hb7 : Bytes w7 (.slice (some ⟨g, 0, none⟩) 512 c) g c (rep 512 b)) :
    LInv w (w7.setCell ⟨gw, m, none⟩ (.slice (some ⟨g, 0, none⟩) 512 c)) B n (.slice (some ⟨gw, 0, none⟩) n cw) (k + 1) d' (L.set m (rep 512 b)) (xs.set m (.slice (some ⟨g, 0, none⟩) 512 c)) := by
  have hL := h.hL
  have hw7 := (h.hw.keptD h.hd a6).kept0 a7
  obtain ⟨_, _, e, hgw⟩ := hw7.shapeN hL (by omega)
  simp at e
  obtain ⟨rfl, rfl⟩ := e
  rw [← hL] at hw7
  have hw8 := hw7.set hb7 m (by omega)
  have hd7 := hd6.kept a7 (by simp) (by simp)
  obtain ⟨cur, hcur⟩ := own_typ hw7.own (k := gw) rfl
  have hne : ∀ x, x ∈ [B + 1, B] → x ∉ [gw] := by
    intro x hx hx2
    simp at hx2; subst hx2
    exact hd7.not30 _ _ hx hcur
  refine ⟨hd7.kept hw8.2 (hne _ (by simp)) (hne _ (by simp)), ?_, hon, har, hwr, by rw [hn', h.hn], by simp [hL], fun j hj => ?_, ?_, ?_⟩
  · rw [← hL]; exact hw8.1
  · by_cases e : m = j
    · subst e
      rw [getD_set_same _ _ _ _ (by omega)]
      exact sec_splice_same h.hd m (by rw [h.hn]; exact hm) _ (rep_length _ _) _ hmem
    · rw [getD_set_other _ _ _ _ _ e, ← h.sec j hj]
      exact sec_splice_other h.hd m j (by rw [h.hn]; exact hm) (by rw [h.hn]; exact hj) (fun x => e x.symm) _ (by rw [rep_length]; exact Nat.le_refl _) _ hmem
  · exact ((h.hb.trans (a6.below h.hs (by simp))).trans (a7.below (Nat.le_trans h.hs a6.size) (by simp))).setCell hgw _
  · have := a6.size; have := a7.size; have := h.hs; simp [World.setCell]; omega
theorem LInv.offon {w wr w' : World} {B n : Nat} {V : Value} {k : Nat} {d d' : Dk} {L : List (List Int)} {xs : List Value} (h : LInv w wr B n V k d L xs) (hd' : DiskAt w' (B + 1) B d') (a : Apart [B + 1, B] wr w') (hmem : d'.mem = d.mem) (hon : d'.on = true) (har : d'.armed = false) (hwr : d'.writes = d.writes) (hn' : d'.n = d.n) : LInv w w' B n V k d' L xs :=
  ⟨hd', h.hw.keptD h.hd a, hon, har, by rw [hwr, h.hk], by rw [hn', h.hn], h.hL, fun j hj => by rw [← h.sec j hj]; simp [Dk.sec, hmem], h.hb.trans (a.below h.hs (by simp)), Nat.le_trans h.hs a.size⟩

set_option maxHeartbeats 2000000 in
set_option maxRecDepth 10000 in
theorem lasts_walk (w : World) (s0 off : Int) (p : Option Addr) (len cap : Nat) (fs : Nat → Int) (fb : Nat → Int) (hlen : len ≤ 300)
    (hp : 0 < len → ∃ P o, p = some ⟨P, o, none⟩ ∧ P < w.heap.size ∧ (∀ i, i < len → w.cell? ⟨P, o + i * 2, none⟩ = some (.int .i64 (fs i))) ∧ (∀ i, i < len → w.cell? ⟨P, o + i * 2 + 1, none⟩ = some (.int .u8 (fb i)))) :
    Calls Try.prog 3 #[.int .i64 s0, .slice p len cap, .int .i64 off] w fun r w' => r = .returned (.bool true) ∧ Below w.heap.size w w' := by
  obtain ⟨i0, hi, hz0, hz1, hz2⟩ := info_parts info30
  have hl' : ¬ ((300 : Int) < (len : Int)) := by omega
  go_enter Try.func3, Try.ntmps3
  go_wp2_with fail
  refine (count_ex _ _).mono ?_
  rintro r w' ⟨n, rfl, hn1, hn2, rfl⟩
  go_wp2_with fail
  refine (new_good _ n hn1 (by omega)).mono ?_
  rintro r w1 ⟨rfl, hd1, a1⟩
  go_wp2_with fail
  refine (num_any _ _).mono ?_
  rintro r w2 ⟨rfl, rfl⟩
  go_wp2
  have hB : w'.heap.size ≤ w2.heap.size := a1.size
  go_loopw [10, 11] (fun v i wr => ∃ k : Nat, k ≤ n ∧ i = .int .i64 k ∧ ∃ xs, Wants wr w'.heap.size v (zeros k) xs ∧ DiskAt wr (w'.heap.size + 1) w'.heap.size (Dk.fresh n (List.replicate (n * 512) 0)) ∧ Below w'.heap.size w' wr ∧ w'.heap.size ≤ wr.heap.size) (fun _ i _ => n - (intOf i).toNat)
  case atStart => exact ⟨0, Nat.zero_le _, rfl, [], wants_nil _ _, hd1, a1.below (Nat.le_refl _) (by simp), hB⟩
  case round =>
    obtain ⟨k, hk, rfl, xs, hw, hd, hb, hs⟩ := hrel
    by_cases hlt : k < n
    · clear hp
      go_wp2_with fail
      refine (full_sl _ 0).mono ?_
      rintro r w3 ⟨g3, c3, rfl, hb3, hg3, a3⟩
      have hw3 := hw.kept0 a3
      have hd3 := hd.kept a3 (by simp) (by simp)
      have hb4 := below_apart0 hb hs a3
      clear hw hd hb
      have hsz := a3.size
      go_wp2_with (at_builtin; refine wpList_append_own _ rfl _ _ 29 rfl w'.heap.size 30 i0 (.slice none 0 0) 1 24 Try.underlying29 hi hz0 hz1 hz2 rfl (by decide) _ _ _ rfl (hw3.own.alloc _) ⟨w3.heap.size, 0, none⟩ 1 1 [.slice (some ⟨g3, 0, none⟩) 512 c3] rfl rfl ?c1 ?c2 ?c3 ?c4 ?c5 ?_)
      case c1 =>
        intro j u hj
        match j, hj with
        | 0, hj => simp at hj; subst hj; simp [Addr.add]
      case c2 => intro u hu; simp at hu; subst hu; rfl
      case c3 => rw [zeros_len]; unfold maxLen; omega
      case c4 => rw [zeros_len]; omega
      case c5 => simp; omega
      · intro v' w4 hown' hgrow _
        have hap := ((Apart.refl [] w3).alloc (.cells #[.slice (some ⟨g3, 0, none⟩) 512 c3] 30))
        have hsn := (hw3.kept0 hap).snoc (hb3.kept hap (by simp)) hown' hgrow
        rw [zeros_succ] at hsn
        have hd4 := (hd3.kept hap (by simp) (by simp)).kept (apart_grown hgrow) (fun hm => by
          obtain ⟨cur, e⟩ := own_typ (hw3.own.alloc (.cells #[.slice (some ⟨g3, 0, none⟩) 512 c3] 30)) (k := w'.heap.size + 1) (by simpa using hm)
          exact (hd3.kept hap (by simp) (by simp)).not30 _ _ (by simp) e) (fun hm => by
          obtain ⟨cur, e⟩ := own_typ (hw3.own.alloc (.cells #[.slice (some ⟨g3, 0, none⟩) 512 c3] 30)) (k := w'.heap.size) (by simpa using hm)
          exact (hd3.kept hap (by simp) (by simp)).not30 _ _ (by simp) e)
        have hsA : w'.heap.size ≤ (w3.alloc (.cells #[.slice (some ⟨g3, 0, none⟩) 512 c3] 30)).heap.size := Nat.le_trans hb4.size (by simp)
        have hb5 : Below w'.heap.size w' w4 := (hb4.alloc hb4.size _).grown hgrow hsA (fun k hk => (hw3.own.lt k hk).1)
        have hs5 : w'.heap.size ≤ w4.heap.size := hb5.size
        clear hgrow hown' hw3 hd3 hb4 hap
        go_wp2
        go_roundw
        case rel => exact ⟨k + 1, by omega, by go_num, _, hsn, hd4, hb5, hs5⟩
        case measure => simp [intOf]; omega
    · have e : k = n := by omega
      subst e
      obtain ⟨gw, cw, rfl, hgw⟩ := hw.shapeN (zeros_len k) (by omega)
      have hinv0 := LInv.start hd hw hb hs
      clear hd hw hb hs
      go_wp2
      go_loopw [12] (fun i wr => ∃ q : Nat, q ≤ len ∧ i = .int .i64 q ∧ ∃ d L xs, LInv w' wr w'.heap.size k (.slice (some ⟨gw, 0, none⟩) k cw) q d L xs) (fun i _ => len - (intOf i).toNat)
      case atStart => exact ⟨0, Nat.zero_le _, rfl, _, _, _, hinv0⟩
      case round =>
        clear hinv0
        obtain ⟨q, hq, rfl, d, L, xs, hinv⟩ := hrel
        by_cases hlt : q < len
        · obtain ⟨P, o, rfl, hP, hc0, hc1⟩ := hp (by omega)
          have e0 := (hinv.hb.cell (p := ⟨P, o + q * 2, none⟩) hP).trans (hc0 q hlt)
          have e1 := (hinv.hb.cell (p := ⟨P, o + q * 2 + 1, none⟩) hP).trans (hc1 q hlt)
          clear hp hc0
          go_wp2_with fail
          refine (slot_ex _ _ k (by omega) (by omega)).mono ?_
          rintro r w4 ⟨m, rfl, hm, hms, rfl⟩
          clear hms
          go_wp2_with fail
          refine (full_sl _ (fb q)).mono ?_
          rintro r w5 ⟨g5, c5, rfl, hb5, hg5, a5⟩
          go_wp2_with fail
          refine (write_plain (hinv.hd.kept a5 (by simp) (by simp)) m g5 0 c5 (rep 512 (fb q)) ?gne (rep_length _ _) ?src hinv.ho (by rw [hinv.hn]; exact hm) (by rw [hinv.hk]; omega) hinv.ha).mono ?_
          case gne => 
            have := lt_of_heap hinv.hd.hd; omega
          case src => intro j hj; rw [Nat.zero_add]; exact hb5.cells j (by rw [rep_length]; exact hj)
          rintro r w6 ⟨rfl, hd6, a6⟩
          go_wp2_with fail
          refine (num_any _ _).mono ?_
          rintro r w7 ⟨rfl, rfl⟩
          have a57 : Apart [w'.heap.size + 1, w'.heap.size] w4 w7 := (a5.mono (by simp)).trans a6
          have hb7 := hinv.hb.trans (a57.below hinv.hs (by simp))
          have e1' := (hb7.cell (p := ⟨P, o + q * 2 + 1, none⟩) hP).trans (hc1 q hlt)
          clear e0 e1 a6 a5 hb5 hg5
          go_wp2_with fail
          refine (full_sl _ (fb q)).mono ?_
          rintro r w8 ⟨g8, c8, rfl, hb8, hg8, a8⟩
          have hinv' := hinv.step m hm (fb q) _ hd6 a57 rfl hinv.ho hinv.ha (by simp [Dk.noted, hinv.hk]) rfl a8 hb8
          have hw8 := (hinv.hw.keptD hinv.hd a57).kept0 a8
          have hL := hinv.hL
          rw [← hL] at hw8
          have ec := hw8.cell m (by omega)
          have ef := hw8.free m
          have HL : Hid (L.length = k) := hL
          clear hL hw8 hinv hd6 a57 hb7 e1' hb8 a8
          go_wp2_with fail
          generalize w8.setCell ⟨gw, m, none⟩ (.slice (some ⟨g8, 0, none⟩) 512 c8) = W8 at hinv' ⊢
          clear ec ef
          refine (slot_ex _ _ len (by omega) (by omega)).mono ?_
          rintro r w9 ⟨m2, rfl, hm2, hms2, rfl⟩
          clear hms2
          by_cases hqm : q = m2
          · have hqb : ((q : Int) == (m2 : Int)) = true := by rw [hqm]; exact beq_self_eq_true _
            clear hqm
            go_wp2_with fail
            refine (off_disk hinv'.hd).mono ?_
            rintro r w10 ⟨rfl, hd10, a10⟩
            go_wp2_with fail
            refine (read_off hd10 0 rfl).mono ?_
            rintro r w11 ⟨rfl, rfl⟩
            go_wp2_with fail
            refine (full_sl _ 9).mono ?_
            rintro r w12 ⟨g12, c12, rfl, hb12, hg12, a12⟩
            have hd12 := hd10.kept a12 (by simp) (by simp)
            go_wp2_with fail
            refine (write_off hd12 0 _ _ _ rfl).mono ?_
            rintro r w13 ⟨rfl, rfl⟩
            go_wp2_with fail
            refine (num_any _ _).mono ?_
            rintro r w14 ⟨rfl, rfl⟩
            go_wp2_with fail
            refine (num_any _ _).mono ?_
            rintro r w15 ⟨rfl, rfl⟩
            go_wp2_with fail
            refine (isOn_any _ _ _ hd12.c1).mono ?_
            rintro r w16 ⟨rfl, rfl⟩
            rw [show (Dk.offed _).on = false from rfl]
            go_wp2_with fail
            refine (on_disk hd12).mono ?_
            rintro r w17 ⟨rfl, hd17, a17⟩
            have hinv2 := hinv'.offon hd17 (((a10.mono (by simp)).trans (a12.mono (by simp))).trans (a17.mono (by simp))) rfl rfl rfl rfl rfl
            clear hinv' hd17 hd12 hd10 a10 a12 a17 hb12
            go_wp2
            go_roundw
            case rel => exact ⟨q + 1, by omega, by go_num, _, _, _, hinv2⟩
            case measure => simp [intOf]; omega
          · have hqb : ((q : Int) == (m2 : Int)) = false := beq_eq_false_iff_ne.2 (by omega)
            clear hqm
            go_wp2
            go_roundw
            case rel => exact ⟨q + 1, by omega, by go_num, _, _, _, hinv'⟩
            case measure => simp [intOf]; omega
        · have e : q = len := by omega
          subst e
          clear hp
          go_wp2
          go_loopw [18] (fun i wr => ∃ j : Nat, j ≤ k ∧ i = .int .i64 j ∧ ∃ d L xs, LInv w' wr w'.heap.size k (.slice (some ⟨gw, 0, none⟩) k cw) q d L xs) (fun i _ => k - (intOf i).toNat)
          case atStart => exact ⟨0, Nat.zero_le _, rfl, _, _, _, hinv⟩
          case round =>
            clear hinv
            obtain ⟨j, hj, rfl, d, L, xs, hinv⟩ := hrel
            by_cases hlt : j < k
            · have hw := hinv.hw
              have hL := hinv.hL
              rw [← hL] at hw
              have ec := hw.cell j (by omega)
              obtain ⟨g, c, hbj⟩ := hw.el j (by omega)
              rw [← hinv.sec j hlt] at hbj
              have hv : xs.getD j undef = .slice (some ⟨g, 0, none⟩) 512 c := by rw [hbj.val, sec_length hinv.hd j (by rw [hinv.hn]; exact hlt)]
              rw [hv] at ec hbj
              clear hv hL hw
              go_wp2_with fail
              refine (reads_eq hinv.hd j hinv.ho (by rw [hinv.hn]; exact hlt) _ g c hbj).mono ?_
              rintro r w4 ⟨rfl, a4⟩
              have hinv2 := hinv.offon (hinv.hd.kept a4 (by simp) (by simp)) (a4.mono (by simp)) rfl hinv.ho hinv.ha rfl rfl
              clear hinv ec hbj a4
              go_wp2
              go_roundw
              case rel => exact ⟨j + 1, by omega, by go_num, _, _, _, hinv2⟩
              case measure => simp [intOf]; omega
            · go_wp2_with fail
              refine (isOn_any _ _ _ hinv.hd.c1).mono ?_
              rintro r w4 ⟨rfl, rfl⟩
              rw [hinv.ho]
              go_wp2_with fail
              refine (writes_any _ _ _ hinv.hd.c5).mono ?_
              rintro r w5 ⟨rfl, rfl⟩
              rw [hinv.hk]
              go_wp2_with fail
              refine (image_sl hinv.hd (by rw [hinv.hn]; exact hn1)).mono ?_
              rintro r w6 ⟨g, c, rfl, hb6, hg6, a6⟩
              rw [hinv.hn]
              have hbl := below_apart0 hinv.hb hinv.hs a6
              clear hinv hb6 a6
              go_wp2
              go_ret
              exact ⟨rfl, hbl⟩
end Go.Proofs.Ythmloakkefiicaa.dk
