import Derived.Test.YtckkjdgeandhgaaTornA
namespace Go.Proofs.Ytckkjdgeandhgaa.dk
open Go.ChangeShapes Go.WideShapes Go.ChangeAt Go.RowKit
theorem copy_zero (W : World) (dp sp : Option Addr) (dc sc : Nat) : Sem.run Try.prog (Builtin.copy_ #[30, 30] 3 #[Value.slice dp 0 dc, Value.slice sp 0 sc]) W = .ok (goInt 0) W :=
  run_copy_none (P := Try.prog) W 30 30 3 5 dp sp 0 dc 0 sc Try.underlying30 (by kernel_rfl) rfl
theorem copy_end (t : Nat) (ht : 512 ≤ t) (W : World) (dp sp : Option Addr) (dc sc : Nat) : Sem.run Try.prog (Builtin.copy_ #[30, 30] 3 #[Value.slice dp (512 - t) dc, Value.slice sp (512 - t) sc]) W = .ok (goInt 0) W := by
  rw [show 512 - t = 0 from by omega]; exact copy_zero W dp sp dc sc
theorem trace_last (d : Dk) (k : Nat) (h : d.writes = k + 1) : d.trace.getD (d.kept - 1) 0 = d.tr.getD (k % 64) 0 := by
  have hk : 0 < d.kept := by unfold Dk.kept; omega
  have hle : d.kept ≤ d.writes := by unfold Dk.kept; omega
  simp only [Dk.trace, List.getD_eq_getElem?_getD, List.getElem?_map, List.getElem?_range (show d.kept - 1 < d.kept by omega), Option.map_some, Option.getD_some]
  rw [show d.writes - d.kept + (d.kept - 1) = k from by omega]
theorem write0 {w : World} {D S : Nat} {d : Dk} (h : DiskAt w D S d) (g c : Nat) (bs : List Int) (hg : g ≠ D) (hb : bs.length = 512) (hsrc : ∀ j, j < 512 → w.cell? ⟨g, 0 + j, none⟩ = some (.int .u8 (bs.getD j 0))) (ho : d.on = true) (hs1 : 0 < d.n) (hw : d.writes < 1000000) (ha : d.armed = false) :
    Calls Try.prog 14 #[.pointer (some ⟨D, 0, none⟩), .int .i64 0, .slice (some ⟨g, 0, none⟩) 512 c] w fun r w' => r = .returned (.int .i64 0) ∧ Apart [D, S] w w' := by
  refine (write_plain h 0 g 0 c bs hg hb hsrc ho hs1 hw ha).mono ?_
  rintro r w' ⟨rfl, _, a⟩
  exact ⟨rfl, a⟩
theorem trace_cell {w : World} {g : Nat} {d : Dk} (h : w.heap[g]? = some (.cells (i64s d.trace).toArray 3 (0, 0))) (k : Nat) (hw : d.writes = k + 1) (j : Nat) (hj : j + 1 = d.kept) : w.cell? ⟨g, j, none⟩ = some (.int .i64 (d.tr.getD (k % 64) 0)) := by
  rw [cell_of_row _ _ _ _ _ _ h, ← trace_last d k hw]
  have hl : d.trace.length = d.kept := by simp [Dk.trace]
  rw [show d.kept - 1 = j from by omega]
  simp [i64s, List.getD_eq_getElem?_getD, show j < d.trace.length by omega]
theorem DiskAt.not3 {w : World} {D S : Nat} {d : Dk} (h : DiskAt w D S d) (k : Nat) (cur : Array Value) (hk : k ∈ [D, S]) : w.heap[k]? ≠ some (.cells cur 3 (0, 0)) := by
  intro e
  simp at hk
  rcases hk with rfl | rfl
  · rw [h.hd] at e; simp at e
  · rw [h.hs] at e; simp at e
set_option maxHeartbeats 8000000 in
set_option maxRecDepth 10000 in
theorem torn_walk (w : World) (s0 aft tor : Int) (p : Option Addr) (len cap : Nat) (fs fb : Nat → Int) (hlen : len ≤ 300) (hlen0 : 0 < len) (hp : IsPuts w p len fs fb) :
    Calls Try.prog 4 #[.int .i64 s0, .slice p len cap, .int .i64 aft, .int .i64 tor] w fun r w' => r = .returned (.bool true) ∧ Below w.heap.size w w' := by
  obtain ⟨P, o, rfl, hP, hc0, hc1⟩ := hp hlen0
  obtain ⟨i0, hi, hz0, hz1, hz2⟩ := info_parts info30
  have hl' : ¬ ((300 : Int) < (len : Int)) := by omega
  have hl'' : ((len : Int) == 0) = false := beq_eq_false_iff_ne.2 (by omega)
  clear hp
  go_enter Try.func4, Try.ntmps4
  go_wp2_with fail
  refine (count_ex _ _).mono ?_
  rintro r w' ⟨n, rfl, hn1, hn2, rfl⟩
  go_wp2_with fail
  refine (slot_ex _ _ len (by omega) (by omega)).mono ?_
  rintro r w' ⟨K, rfl, hK, hKs, rfl⟩
  clear hKs
  go_wp2_with fail
  refine (slot_ex _ _ 513 (by omega) (by omega)).mono ?_
  rintro r w' ⟨t, rfl, ht, hts, rfl⟩
  clear hts hl''
  go_wp2_with fail
  refine (new_good _ n hn1 (by omega)).mono ?_
  rintro r w1 ⟨rfl, hd1, a1⟩
  go_wp2_with fail
  refine (num_any _ _).mono ?_
  rintro r w2 ⟨rfl, rfl⟩
  go_wp2
  have hB : w'.heap.size ≤ w2.heap.size := a1.size
  go_loopw [14, 15] (fun v i wr => ∃ k : Nat, k ≤ n ∧ i = .int .i64 k ∧ ∃ xs, Wants wr w'.heap.size v (zeros k) xs ∧ DiskAt wr (w'.heap.size + 1) w'.heap.size (Dk.fresh n (List.replicate (n * 512) 0)) ∧ Below w'.heap.size w' wr ∧ w'.heap.size ≤ wr.heap.size) (fun _ i _ => n - (intOf i).toNat)
  case atStart => exact ⟨0, Nat.zero_le _, rfl, [], wants_nil _ _, hd1, a1.below (Nat.le_refl _) (by simp), hB⟩
  case round =>
    obtain ⟨k, hk, rfl, xs, hw, hd, hb, hs⟩ := hrel
    by_cases hlt : k < n
    · go_wp2_with fail
      refine (full_sl _ 0).mono ?_
      rintro r w3 ⟨g3, c3, rfl, hb3, hg3, a3⟩
      have hw3 := hw.kept0 a3
      have hd3 := hd.kept a3 (by simp) (by simp)
      have hb4 := below_apart0 hb hs a3
      clear hw hd hb
      have hsz := a3.size
      go_wp2_with (at_builtin; refine wpList_append_own _ rfl _ _ 29 rfl w'.heap.size 30 i0 (.slice none 0 0) 1 24 Try.underlying29 hi hz0 hz1 hz2 rfl (by decide) _ _ _ rfl (hw3.own.alloc _) ⟨w3.heap.size, 0, none⟩ 1 1 [.slice (some ⟨g3, 0, none⟩) 512 c3] rfl rfl ?c1 ?c2 ?c3 ?c4 ?c5 ?_)
      case c1 =>
        intro j u hj
        match j, hj with
        | 0, hj => simp at hj; subst hj; simp [Addr.add]
      case c2 => intro u hu; simp at hu; subst hu; rfl
      case c3 => rw [zeros_len]; unfold maxLen; omega
      case c4 => rw [zeros_len]; omega
      case c5 => simp; omega
      · intro v' w4 hown' hgrow _
        have hap := ((Apart.refl [] w3).alloc (.cells #[.slice (some ⟨g3, 0, none⟩) 512 c3] 30))
        have hsn := (hw3.kept0 hap).snoc (hb3.kept hap (by simp)) hown' hgrow
        rw [zeros_succ] at hsn
        have hd4 := (hd3.kept hap (by simp) (by simp)).kept (apart_grown hgrow) (fun hm => by
          obtain ⟨cur, e⟩ := own_typ (hw3.own.alloc (.cells #[.slice (some ⟨g3, 0, none⟩) 512 c3] 30)) (k := w'.heap.size + 1) (by simpa using hm)
          exact (hd3.kept hap (by simp) (by simp)).not30 _ _ (by simp) e) (fun hm => by
          obtain ⟨cur, e⟩ := own_typ (hw3.own.alloc (.cells #[.slice (some ⟨g3, 0, none⟩) 512 c3] 30)) (k := w'.heap.size) (by simpa using hm)
          exact (hd3.kept hap (by simp) (by simp)).not30 _ _ (by simp) e)
        have hsA : w'.heap.size ≤ (w3.alloc (.cells #[.slice (some ⟨g3, 0, none⟩) 512 c3] 30)).heap.size := Nat.le_trans hb4.size (by simp)
        have hb5 : Below w'.heap.size w' w4 := (hb4.alloc hb4.size _).grown hgrow hsA (fun k hk => (hw3.own.lt k hk).1)
        have hs5 : w'.heap.size ≤ w4.heap.size := hb5.size
        clear hgrow hown' hw3 hd3 hb4 hap
        go_wp2
        go_roundw
        case rel => exact ⟨k + 1, by omega, by go_num, _, hsn, hd4, hb5, hs5⟩
        case measure => simp [intOf]; omega
    · have e : k = n := by omega
      subst e
      obtain ⟨gw, cw, rfl, hgw⟩ := hw.shapeN (zeros_len k) (by omega)
      have hst := LInv.start hd hw hb hs
      clear hd hw hb hs
      go_wp2_with fail
      refine (arm_on hst.hd K t rfl).mono ?_
      rintro r w3 ⟨rfl, hd3, a3⟩
      have ht0 : TInv w' w3 w'.heap.size k (.slice (some ⟨gw, 0, none⟩) k cw) K t (slotI (fs K) k) 0 _ (zeros k) _ :=
        ⟨hd3, hst.hw.keptD hst.hd (a3.mono (by simp)), rfl, hst.hL, hst.sec, hst.hb.trans (a3.below hst.hs (by simp)), Nat.le_trans hst.hs a3.size, fun _ => ⟨rfl, by simp, by simp, by simp; omega, rfl⟩, fun h => absurd h (by omega)⟩
      clear hst hd3 a3
      go_wp2
      go_loopw [16] (fun i wr => ∃ q : Nat, q ≤ len ∧ i = .int .i64 q ∧ ∃ d L xs, TInv w' wr w'.heap.size k (.slice (some ⟨gw, 0, none⟩) k cw) K t (slotI (fs K) k) q d L xs) (fun i _ => len - (intOf i).toNat)
      case atStart => exact ⟨0, Nat.zero_le _, rfl, _, _, _, ht0⟩
      case round =>
        clear ht0
        obtain ⟨q, hq, rfl, d, L, xs, hinv⟩ := hrel
        by_cases hlt : q < len
        · have e0 := (hinv.hb.cell (p := ⟨P, o + q * 2, none⟩) hP).trans (hc0 q hlt)
          have e1 := (hinv.hb.cell (p := ⟨P, o + q * 2 + 1, none⟩) hP).trans (hc1 q hlt)
          go_wp2_with fail
          refine (slot_ex _ _ k (by omega) (by omega)).mono ?_
          rintro r w4 ⟨m, rfl, hm, hms, rfl⟩
          have HMS : Hid ((m : Int) = slotI (fs q) k) := hms
          clear hms
          go_wp2_with fail
          refine (full_sl _ (fb q)).mono ?_
          rintro r w5 ⟨g5, c5, rfl, hb5, hg5, a5⟩
          have hd5 := hinv.hd.kept a5 (by simp) (by simp)
          have hgne : g5 ≠ w'.heap.size + 1 := by have := lt_of_heap hinv.hd.hd; omega
          have hsrc : ∀ j, j < 512 → w5.cell? ⟨g5, 0 + j, none⟩ = some (.int .u8 ((rep 512 (fb q)).getD j 0)) := fun j hj => by rw [Nat.zero_add]; exact hb5.cells j (by rw [rep_length]; exact hj)
          clear e0 e1
          by_cases hqk : q < K
          · obtain ⟨ho, ha, haf, hto, hwr⟩ := hinv.yes (by omega)
            have HAF : Hid (d.after = (K : Int) - q) := haf
            have HTO : Hid (d.torn = t ∧ d.writes = q) := ⟨hto, hwr⟩
            have hcw := write_armed hd5 m g5 0 c5 (rep 512 (fb q)) hgne (rep_length _ _) hsrc ho (by rw [hinv.hn]; exact hm) (by rw [hwr]; omega) ha (by rw [haf]; omega)
            clear haf hto hwr hsrc ho ha
            go_wp2_with fail
            refine hcw.mono ?_
            rintro r w6 ⟨rfl, hd6, a6⟩
            clear hcw
            go_wp2_with fail
            refine (num_any _ _).mono ?_
            rintro r w7 ⟨rfl, rfl⟩
            have hqK : (q : Int) < (K : Int) := by omega
            have hqe : ((q : Int) == (K : Int)) = false := beq_eq_false_iff_ne.2 (by omega)
            have hon7 : d.on = true := (hinv.yes (by omega)).1
            have HON : Hid (d.on = true) := hon7
            have a57 : Apart [w'.heap.size + 1, w'.heap.size] w4 w7 := (a5.mono (by simp)).trans a6
            have hst := hinv.step m hm _ hd6 a57 (rep 512 (fb q)) (sec_splice_same hinv.hd m (by rw [hinv.hn]; exact hm) _ (rep_length _ _) _ rfl) (fun j hj hjm => sec_splice_other hinv.hd m j (by rw [hinv.hn]; exact hm) (by rw [hinv.hn]; exact hj) hjm _ (by rw [rep_length]; exact Nat.le_refl _) _ rfl) rfl (hb5.keptD hd5 a6)
              (fun _ => ⟨hon7, (hinv.yes (by omega)).2.1, by show wsub d.after = _; rw [HAF.out, wsub_pos _ (by omega) (by omega)]; omega, HTO.out.1, by simp [Dk.noted, HTO.out.2]⟩) (fun h => absurd h (by omega))
            have hw8 := hinv.hw.keptD hinv.hd a57
            have hL := hinv.hL
            rw [← hL] at hw8
            have ec := hw8.cell m (by omega)
            have ef := hw8.free m
            clear hw8 hL hinv hon7 hd5 hb5 a5 a6 a57
            go_wp2_with fail
            refine (isOn_any _ _ _ hd6.c1).mono ?_
            rintro r w8 ⟨rfl, rfl⟩
            rw [show ({ d.noted m with mem := splice d.mem (m * 512) (rep 512 (fb q)), after := wsub d.after } : Dk).on = true from HON.out]
            go_wp2
            go_roundw
            case rel => exact ⟨q + 1, by omega, by go_num, _, _, _, hst⟩
            case measure => simp [intOf]; omega
          · have hqK : ¬ ((q : Int) < (K : Int)) := by omega
            have hKq : (K : Int) ≤ (q : Int) := by omega
            by_cases hqe : q = K
            · subst hqe
              obtain ⟨ho, ha, haf, hto, hwr⟩ := hinv.yes (by omega)
              have HWR : Hid (d.writes = q) := hwr
              have hcw := write_torn hd5 m g5 0 c5 t (rep 512 (fb q)) hgne (rep_length _ _) hsrc ho (by rw [hinv.hn]; exact hm) (by rw [hwr]; omega) ha (by rw [haf]; omega) hto (by omega)
              clear haf hto hwr hsrc ho ha
              go_wp2_with fail
              refine hcw.mono ?_
              rintro r w6 ⟨rfl, hd6, a6⟩
              clear hcw
              go_wp2_with fail
              refine (num_any _ _).mono ?_
              rintro r w7 ⟨rfl, rfl⟩
              have a57 : Apart [w'.heap.size + 1, w'.heap.size] w4 w7 := (a5.mono (by simp)).trans a6
              have hb7 := hinv.hb.trans (a57.below hinv.hs (by simp))
              have e1' := (hb7.cell (p := ⟨P, o + q * 2 + 1, none⟩) hP).trans (hc1 q hlt)
              clear hb5 a5 a6 hd5 hb7
              go_wp2_with fail
              refine (isOn_any _ _ _ hd6.c1).mono ?_
              rintro r w8 ⟨rfl, rfl⟩
              rw [show ({ (d.noted m).offed with mem := splice d.mem (m * 512) ((rep 512 (fb q)).take t) } : Dk).on = false from rfl]
              go_wp2_with fail
              refine (full_sl _ (fb q)).mono ?_
              rintro r w9 ⟨g9, c9, rfl, hb9, hg9, a9⟩
              have hd9 := hd6.kept a9 (by simp) (by simp)
              have a49 : Apart [w'.heap.size + 1, w'.heap.size] w4 w9 := a57.trans (a9.mono (by simp))
              have hw9 := hinv.hw.keptD hinv.hd a49
              have hL := hinv.hL
              obtain ⟨g2, c2, hb2⟩ := hw9.el m (by omega)
              have hsm := hinv.sec m hm
              have hlo : (L.getD m []).length = 512 := by rw [← hsm]; exact sec_length hinv.hd m (by rw [hinv.hn]; exact hm)
              have hv2 : xs.getD m undef = .slice (some ⟨g2, 0, none⟩) 512 c2 := by rw [hb2.val, hlo]
              have hw9' := hw9
              rw [← hL] at hw9'
              have ec := hw9'.cell m (by omega)
              rw [hv2] at ec hb2
              have hle9 := hb9.le
              have hle2 := hb2.le
              rw [rep_length] at hle9
              rw [hlo] at hle2
              have hgg : g9 ∉ [w'.heap.size + 1, w'.heap.size] := fun hm2 => by obtain ⟨arr, e, _⟩ := hb9.row; exact hd9.not5 _ _ hm2 e
              have HD9 : Hid (L.length = k ∧ d.sec m = L.getD m [] ∧ (L.getD m []).length = 512) := ⟨hL, hsm, hlo⟩
              have hsz48 := a57.size
              clear hL hsm hlo hv2 hw9' e1' a57 hd6 a9
              by_cases htt : t < 512
              · obtain ⟨w10, hrun, hb10, a10⟩ := part_run (w := w9.drew) (hb9.kept ((Apart.refl [] w9).drewN 1) (by simp)) (hb2.kept ((Apart.refl [] w9).drewN 1) (by simp)) (rep_length _ _) HD9.out.2.2 t htt
                have n1 : ¬ (c9 = t) := by omega
                have n2 : ¬ (c2 = t) := by omega
                have n3 : (t : Int) ≤ 512 := by omega
                have a410 : Apart [w'.heap.size + 1, w'.heap.size] w4 w10 := by
                  refine ⟨a10.os.trans a49.os, a10.tape.trans a49.tape, a10.output.trans a49.output, Nat.le_trans a49.size a10.size, fun i hi hx => ?_⟩
                  have := a49.size
                  rw [a10.block i (by show i < w9.heap.size; omega) (by simp; have := hb9.lt; omega)]
                  exact a49.block i hi hx
                have hd10 := (hd9.drewN 1).kept a10 (fun hm2 => hgg (by simp at hm2; simp [← hm2])) (fun hm2 => hgg (by simp at hm2; simp [← hm2]))
                have hst := hinv.step m hm _ hd10 a410 (tornL (L.getD m []) (rep 512 (fb q)) t) (by rw [← HD9.out.2.1]; exact sec_torn hinv.hd m (by rw [hinv.hn]; exact hm) _ (rep_length _ _) t (by omega) _ rfl) (fun j hj hjm => sec_splice_other hinv.hd m j (by rw [hinv.hn]; exact hm) (by rw [hinv.hn]; exact hj) hjm _ (by rw [List.length_take, rep_length]; omega) _ rfl) rfl hb10 (fun h => absurd h (by omega)) (fun _ => ⟨rfl, rfl, by show d.writes + 1 = _; rw [HWR.out], by show (d.noted m).tr.getD (q % 64) 0 = _; rw [← HMS.out, ← HWR.out]; exact tr_noted hinv.hd m⟩)
                have hw10 := hinv.hw.keptD hinv.hd a410
                rw [← HD9.out.1] at hw10
                have ec10 := hw10.cell m (by rw [HD9.out.1]; exact hm)
                have ef10 := hw10.free m
                clear hw10 hinv hd10 a410 a10 hb10 hb9 hb2 hd9 a49 hw9
                go_wp2_with fail
                go_region
                go_wp2
                go_roundw
                case rel => exact ⟨q + 1, by omega, by go_num, _, _, _, hst⟩
                case measure => simp [intOf]; omega
              · have hrun := copy_end t (by omega)
                have hrun0 := copy_zero
                have n3 : (t : Int) ≤ 512 := by omega
                have HT : Hid (t = 512) := by
                  have : t = 512 := by omega
                  exact this
                have hd10 : DiskAt w9.drew (w'.heap.size + 1) w'.heap.size _ := hd9.drewN 1
                have a410 : Apart [w'.heap.size + 1, w'.heap.size] w4 w9.drew := a49.drewN 1
                have hb10 := hb9.kept ((Apart.refl [] w9).drewN 1) (by simp)
                have ebs : tornL (L.getD m []) (rep 512 (fb q)) t = rep 512 (fb q) := by
                  rw [HT.out, tornL, List.take_of_length_le (by rw [rep_length]; exact Nat.le_refl _), List.drop_eq_nil_of_le (by rw [HD9.out.2.2]; exact Nat.le_refl _), List.append_nil]
                have hst := hinv.step m hm _ hd10 a410 (rep 512 (fb q)) ((sec_torn hinv.hd m (by rw [hinv.hn]; exact hm) _ (rep_length _ _) t (by omega) _ rfl).trans (by rw [HD9.out.2.1, ebs])) (fun j hj hjm => sec_splice_other hinv.hd m j (by rw [hinv.hn]; exact hm) (by rw [hinv.hn]; exact hj) hjm _ (by rw [List.length_take, rep_length]; omega) _ rfl) rfl hb10 (fun h => absurd h (by omega)) (fun _ => ⟨rfl, rfl, by show d.writes + 1 = _; rw [HWR.out], by show (d.noted m).tr.getD (q % 64) 0 = _; rw [← HMS.out, ← HWR.out]; exact tr_noted hinv.hd m⟩)
                have ef9 : w9.frozen? ⟨gw, m, none⟩ = false := by
                  have hw10 := hw9
                  rw [← HD9.out.1] at hw10
                  exact hw10.free m
                clear hinv hd10 a410 hb10 hb9 hb2 hd9 a49 hw9 ebs
                go_wp2_with fail
                by_cases n1 : c9 = t
                · subst n1
                  by_cases n2 : c2 = c9
                  · subst n2
                    go_region
                    go_wp2
                    go_roundw
                    case rel => exact ⟨q + 1, by omega, by go_num, _, _, _, hst⟩
                    case measure => simp [intOf]; omega
                  · go_region
                    go_wp2
                    go_roundw
                    case rel => exact ⟨q + 1, by omega, by go_num, _, _, _, hst⟩
                    case measure => simp [intOf]; omega
                · by_cases n2 : c2 = t
                  · subst n2
                    go_region
                    go_wp2
                    go_roundw
                    case rel => exact ⟨q + 1, by omega, by go_num, _, _, _, hst⟩
                    case measure => simp [intOf]; omega
                  · go_region
                    go_wp2
                    go_roundw
                    case rel => exact ⟨q + 1, by omega, by go_num, _, _, _, hst⟩
                    case measure => simp [intOf]; omega
            · have hqe' : ((q : Int) == (K : Int)) = false := beq_eq_false_iff_ne.2 (by omega)
              obtain ⟨ho, ha, hwr, htr⟩ := hinv.no (by omega)
              have hcw := write_off hd5 m (some ⟨g5, 0, none⟩) 512 c5 ho
              have HH : Hid (d.on = false ∧ d.armed = false ∧ d.writes = K + 1 ∧ d.tr.getD (K % 64) 0 = slotI (fs K) k) := ⟨ho, ha, hwr, htr⟩
              clear hwr htr hsrc ho ha hqe
              go_wp2_with fail
              refine hcw.mono ?_
              rintro r w6 ⟨rfl, rfl⟩
              clear hcw
              go_wp2_with fail
              refine (num_any _ _).mono ?_
              rintro r w7 ⟨rfl, rfl⟩
              have hst := hinv.same (q' := q + 1) hd5 (a5.mono (by simp)) rfl rfl (fun h => absurd h (by omega)) (fun _ => HH.out)
              clear hb5 a5 hinv
              go_wp2_with fail
              refine (isOn_any _ _ _ hd5.c1).mono ?_
              rintro r w8 ⟨rfl, rfl⟩
              rw [HH.out.1]
              clear hd5
              go_wp2
              go_roundw
              case rel => exact ⟨q + 1, by omega, by go_num, _, _, _, hst⟩
              case measure => simp [intOf]; omega
        · have e : q = len := by omega
          subst e
          obtain ⟨ho, ha, hwr, htr⟩ := hinv.no hK
          have HH : Hid (d.on = false ∧ d.armed = false ∧ d.writes = K + 1 ∧ d.tr.getD (K % 64) 0 = slotI (fs K) k) := ⟨ho, ha, hwr, htr⟩
          clear ho ha hwr htr
          go_wp2_with fail
          refine (on_disk hinv.hd).mono ?_
          rintro r w4 ⟨rfl, hd4, a4⟩
          have hli : LInv w' w4 w'.heap.size k (.slice (some ⟨gw, 0, none⟩) k cw) (K + 1) d.oned L xs :=
            ⟨hd4, hinv.hw.keptD hinv.hd (a4.mono (by simp)), rfl, HH.out.2.1, HH.out.2.2.1, hinv.hn, hinv.hL, hinv.sec, hinv.hb.trans (a4.below hinv.hs (by simp)), Nat.le_trans hinv.hs a4.size⟩
          clear hinv hd4 a4
          go_wp2
          go_loopw [21] (fun i wr => ∃ j : Nat, j ≤ k ∧ i = .int .i64 j ∧ LInv w' wr w'.heap.size k (.slice (some ⟨gw, 0, none⟩) k cw) (K + 1) d.oned L xs) (fun i _ => k - (intOf i).toNat)
          case atStart => exact ⟨0, Nat.zero_le _, rfl, hli⟩
          case round =>
            clear hli
            obtain ⟨j, hj, rfl, hinv⟩ := hrel
            by_cases hlt : j < k
            · have hw := hinv.hw
              have hL := hinv.hL
              rw [← hL] at hw
              have ec := hw.cell j (by omega)
              obtain ⟨g, c, hbj⟩ := hw.el j (by omega)
              rw [← hinv.sec j hlt] at hbj
              have hv : xs.getD j undef = .slice (some ⟨g, 0, none⟩) 512 c := by rw [hbj.val, sec_length hinv.hd j (by rw [hinv.hn]; exact hlt)]
              rw [hv] at ec hbj
              clear hv hL hw
              go_wp2_with fail
              refine (reads_eq hinv.hd j hinv.ho (by rw [hinv.hn]; exact hlt) _ g c hbj).mono ?_
              rintro r w4 ⟨rfl, a4⟩
              have hinv2 := hinv.offon (hinv.hd.kept a4 (by simp) (by simp)) (a4.mono (by simp)) rfl hinv.ho hinv.ha rfl rfl
              clear hinv ec hbj a4
              go_wp2
              go_roundw
              case rel => exact ⟨j + 1, by omega, by go_num, hinv2⟩
              case measure => simp [intOf]; omega
            · by_cases hk64 : K + 1 ≤ 64
              · have hmn : ¬ ((64 : Int) < (K : Int) + 1) := by omega
                go_wp2_with fail
                refine (trace_short hinv.hd (K + 1) hinv.hk hk64).mono ?_
                rintro r w4 ⟨gT, rfl, hrT, hgT, a4⟩
                have hcT : w4.cell? ⟨gT, K, none⟩ = some (.int .i64 (slotI (fs K) k)) := by rw [← HH.out.2.2.2]; exact trace_cell hrT K hinv.hk K (by unfold Dk.kept; rw [hinv.hk]; omega)
                have hin4 := hinv.offon (hinv.hd.kept a4 (by simp) (by simp)) (a4.mono (by simp)) rfl hinv.ho hinv.ha rfl rfl
                have hin5 : LInv w' w4.drew w'.heap.size k (.slice (some ⟨gw, 0, none⟩) k cw) (K + 1) d.oned L xs := hin4.offon (hin4.hd.drewN 1) ((Apart.refl _ _).drewN 1) rfl hin4.ho hin4.ha rfl rfl
                have hTl : gT < w4.drew.heap.size := lt_of_heap hrT
                have hTn : gT ∉ [w'.heap.size + 1, w'.heap.size] := fun hm2 => hin4.hd.not3 _ _ hm2 hrT
                have hcT5 : w4.drew.cell? ⟨gT, K, none⟩ = some (.int .i64 (slotI (fs K) k)) := hcT
                have hw5 : w4.drew.cell? ⟨w'.heap.size + 1, 5, none⟩ = some (.int .i64 ((K : Int) + 1)) := by rw [hin5.hd.c5, hin5.hk]; rfl
                have hbl5 := hin5.hb
                have e0 : ∀ W, Below w'.heap.size w' W → W.cell? ⟨P, o + K * 2, none⟩ = some (.int .i64 (fs K)) := fun W hb => (hb.cell (p := ⟨P, o + K * 2, none⟩) hP).trans (hc0 K hK)
                clear hinv hin4 hrT hcT hc0 hc1
                go_wp2_with fail
                refine wp_region_held_drew (S := fun W => Below w'.heap.size w' W ∧ W.cell? ⟨gT, K, none⟩ = some (.int .i64 (slotI (fs K) k))) (by kernel_rfl) ⟨hbl5, hcT5⟩ (fun hHeld => ?_)
                refine wpAnyH_take (i := 0) (oi := ⟨some 161, _, _, _, _, _⟩) (v := .pointer (some ⟨w'.heap.size + 1, 0, none⟩)) rfl (by kernel_rfl) (by kernel_rfl) (by kernel_rfl) (fun _ _ _ h => h) (Or.inl ⟨by rfl, ?_⟩) (by assumption) ?_
                · intro W hSW; go_simp <;> first | rfl | (rw [IntKind.wrap_i64]; omega) | (simp only [IntKind.wrap_i64]; omega) | omega
                simp only [Act.put, List.setIfInBounds_toArray, List.set_cons_zero, List.set_cons_succ]
                refine wpAnyH_take (i := 2) (oi := ⟨some 163, _, _, _, _, _⟩) (v := .int .i64 (K : Int)) rfl (by kernel_rfl) (by kernel_rfl) (by kernel_rfl) (fun _ _ _ h => h) (Or.inl ⟨by rfl, ?_⟩) (by assumption) ?_
                · intro W hSW; go_simp <;> first | rfl | (rw [IntKind.wrap_i64]; omega) | (simp only [IntKind.wrap_i64]; omega) | omega
                simp only [Act.put, List.setIfInBounds_toArray, List.set_cons_zero, List.set_cons_succ]
                refine wpAnyH_take (i := 3) (oi := ⟨some 164, _, _, _, _, _⟩) (v := .int .i64 ((K : Int) + 1)) rfl (by kernel_rfl) (by kernel_rfl) (by kernel_rfl) (fun _ _ _ h => h) (Or.inl ⟨by rfl, ?_⟩) (by assumption) ?_
                · intro W hSW; go_simp <;> first | rfl | (rw [IntKind.wrap_i64]; omega) | (simp only [IntKind.wrap_i64]; omega) | omega
                simp only [Act.put, List.setIfInBounds_toArray, List.set_cons_zero, List.set_cons_succ]
                refine wpAnyH_ready (rs := [1]) (by kernel_rfl) (by simp) ?_
                refine AllReadyH.cons rfl (fun KK hKK => ?_) AllReadyH.nil
                go_simp
                refine (writes_any _ _ _ hw5).mono ?_
                rintro r w6 ⟨rfl, rfl⟩
                dsimp only
                refine hKK.out _ _ ⟨by assumption, by assumption⟩ (fun hHeld => ?_)
                clear hKK KK
                refine wpAnyH_take (i := 4) (oi := ⟨some 165, _, _, _, _, _⟩) (v := .bool true) rfl (by kernel_rfl) (by kernel_rfl) (by kernel_rfl) (fun _ _ _ h => h) (Or.inl ⟨by rfl, ?_⟩) (by assumption) ?_
                · intro W hSW; go_simp <;> first | rfl | (rw [IntKind.wrap_i64]; omega) | (simp only [IntKind.wrap_i64]; omega) | omega
                simp only [Act.put, List.setIfInBounds_toArray, List.set_cons_zero, List.set_cons_succ]
                refine wpAnyH_take (i := 5) (oi := ⟨some 166, _, _, _, _, _⟩) (v := .bool true) rfl (by kernel_rfl) (by kernel_rfl) (by kernel_rfl) (fun _ _ _ h => h) (Or.inl ⟨by rfl, ?_⟩) (by assumption) ?_
                · intro W hSW; go_simp <;> first | rfl | (rw [IntKind.wrap_i64]; omega) | (simp only [IntKind.wrap_i64]; omega) | omega
                simp only [Act.put, List.setIfInBounds_toArray, List.set_cons_zero, List.set_cons_succ]
                refine wpAnyH_take (i := 6) (oi := ⟨some 167, _, _, _, _, _⟩) (v := .slice (some ⟨gT, 0, none⟩) (K + 1) (K + 1)) rfl (by kernel_rfl) (by kernel_rfl) (by kernel_rfl) (fun _ _ _ h => h) (Or.inl ⟨by rfl, ?_⟩) (by assumption) ?_
                · intro W hSW; go_simp <;> first | rfl | (rw [IntKind.wrap_i64]; omega) | (simp only [IntKind.wrap_i64]; omega) | omega
                simp only [Act.put, List.setIfInBounds_toArray, List.set_cons_zero, List.set_cons_succ]
                refine wpAnyH_take (i := 7) (oi := ⟨some 168, _, _, _, _, _⟩) (v := .int .i64 ((K : Int) + 1)) rfl (by kernel_rfl) (by kernel_rfl) (by kernel_rfl) (fun _ _ _ h => h) (Or.inl ⟨by rfl, ?_⟩) (by assumption) ?_
                · intro W hSW; go_simp <;> first | rfl | (rw [IntKind.wrap_i64]; omega) | (simp only [IntKind.wrap_i64]; omega) | omega
                simp only [Act.put, List.setIfInBounds_toArray, List.set_cons_zero, List.set_cons_succ]
                refine wpAnyH_take (i := 8) (oi := ⟨some 169, _, _, _, _, _⟩) (v := .int .i64 (K : Int)) rfl (by kernel_rfl) (by kernel_rfl) (by kernel_rfl) (fun _ _ _ h => h) (Or.inl ⟨by rfl, ?_⟩) (by assumption) ?_
                · intro W hSW; go_simp <;> first | rfl | (rw [IntKind.wrap_i64]; omega) | (simp only [IntKind.wrap_i64]; omega) | omega
                simp only [Act.put, List.setIfInBounds_toArray, List.set_cons_zero, List.set_cons_succ]
                refine wpAnyH_take (i := 9) (oi := ⟨some 170, _, _, _, _, _⟩) (v := .int .i64 ((K : Int) + 1)) rfl (by kernel_rfl) (by kernel_rfl) (by kernel_rfl) (fun _ _ _ h => h) (Or.inl ⟨by rfl, ?_⟩) (by assumption) ?_
                · intro W hSW; go_simp <;> first | rfl | (rw [IntKind.wrap_i64]; omega) | (simp only [IntKind.wrap_i64]; omega) | omega
                simp only [Act.put, List.setIfInBounds_toArray, List.set_cons_zero, List.set_cons_succ]
                refine wpAnyH_take (i := 10) (oi := ⟨some 171, _, _, _, _, _⟩) (v := .int .i64 ((K : Int) + 1)) rfl (by kernel_rfl) (by kernel_rfl) (by kernel_rfl) (fun _ _ _ h => h) (Or.inl ⟨by rfl, ?_⟩) (by assumption) ?_
                · intro W hSW; go_simp <;> first | rfl | (rw [IntKind.wrap_i64]; omega) | (simp only [IntKind.wrap_i64]; omega) | omega
                simp only [Act.put, List.setIfInBounds_toArray, List.set_cons_zero, List.set_cons_succ]
                refine wpAnyH_take (i := 11) (oi := ⟨some 172, _, _, _, _, _⟩) (v := .bool true) rfl (by kernel_rfl) (by kernel_rfl) (by kernel_rfl) (fun _ _ _ h => h) (Or.inl ⟨by rfl, ?_⟩) (by assumption) ?_
                · intro W hSW; go_simp <;> first | rfl | (rw [IntKind.wrap_i64]; omega) | (simp only [IntKind.wrap_i64]; omega) | omega
                simp only [Act.put, List.setIfInBounds_toArray, List.set_cons_zero, List.set_cons_succ]
                refine wpAnyH_take (i := 12) (oi := ⟨some 173, _, _, _, _, _⟩) (v := .bool true) rfl (by kernel_rfl) (by kernel_rfl) (by kernel_rfl) (fun _ _ _ h => h) (Or.inl ⟨by rfl, ?_⟩) (by assumption) ?_
                · intro W hSW; go_simp <;> first | rfl | (rw [IntKind.wrap_i64]; omega) | (simp only [IntKind.wrap_i64]; omega) | omega
                simp only [Act.put, List.setIfInBounds_toArray, List.set_cons_zero, List.set_cons_succ]
                refine wpAnyH_take (i := 13) (oi := ⟨some 174, _, _, _, _, _⟩) (v := .bool true) rfl (by kernel_rfl) (by kernel_rfl) (by kernel_rfl) (fun _ _ _ h => h) (Or.inl ⟨by rfl, ?_⟩) (by assumption) ?_
                · intro W hSW; go_simp <;> first | rfl | (rw [IntKind.wrap_i64]; omega) | (simp only [IntKind.wrap_i64]; omega) | omega
                simp only [Act.put, List.setIfInBounds_toArray, List.set_cons_zero, List.set_cons_succ]
                refine wpAnyH_take (i := 14) (oi := ⟨some 175, _, _, _, _, _⟩) (v := .slice (some ⟨gT, 0, none⟩) (K + 1) (K + 1)) rfl (by kernel_rfl) (by kernel_rfl) (by kernel_rfl) (fun _ _ _ h => h) (Or.inl ⟨by rfl, ?_⟩) (by assumption) ?_
                · intro W hSW; go_simp <;> first | rfl | (rw [IntKind.wrap_i64]; omega) | (simp only [IntKind.wrap_i64]; omega) | omega
                simp only [Act.put, List.setIfInBounds_toArray, List.set_cons_zero, List.set_cons_succ]
                refine wpAnyH_take (i := 15) (oi := ⟨some 176, _, _, _, _, _⟩) (v := .slice (some ⟨gT, 0, none⟩) (K + 1) (K + 1)) rfl (by kernel_rfl) (by kernel_rfl) (by kernel_rfl) (fun _ _ _ h => h) (Or.inl ⟨by rfl, ?_⟩) (by assumption) ?_
                · intro W hSW; go_simp <;> first | rfl | (rw [IntKind.wrap_i64]; omega) | (simp only [IntKind.wrap_i64]; omega) | omega
                simp only [Act.put, List.setIfInBounds_toArray, List.set_cons_zero, List.set_cons_succ]
                refine wpAnyH_take (i := 16) (oi := ⟨some 177, _, _, _, _, _⟩) (v := .int .i64 ((K : Int) + 1)) rfl (by kernel_rfl) (by kernel_rfl) (by kernel_rfl) (fun _ _ _ h => h) (Or.inl ⟨by rfl, ?_⟩) (by assumption) ?_
                · intro W hSW; go_simp <;> first | rfl | (rw [IntKind.wrap_i64]; omega) | (simp only [IntKind.wrap_i64]; omega) | omega
                simp only [Act.put, List.setIfInBounds_toArray, List.set_cons_zero, List.set_cons_succ]
                refine wpAnyH_take (i := 17) (oi := ⟨some 178, _, _, _, _, _⟩) (v := .int .i64 (K : Int)) rfl (by kernel_rfl) (by kernel_rfl) (by kernel_rfl) (fun _ _ _ h => h) (Or.inl ⟨by rfl, ?_⟩) (by assumption) ?_
                · intro W hSW; go_simp <;> first | rfl | (rw [IntKind.wrap_i64]; omega) | (simp only [IntKind.wrap_i64]; omega) | omega
                simp only [Act.put, List.setIfInBounds_toArray, List.set_cons_zero, List.set_cons_succ]
                refine wpAnyH_take (i := 18) (oi := ⟨some 179, _, _, _, _, _⟩) (v := .pointer (some ⟨gT, K, none⟩)) rfl (by kernel_rfl) (by kernel_rfl) (by kernel_rfl) (fun _ _ _ h => h) (Or.inl ⟨by rfl, ?_⟩) (by assumption) ?_
                · intro W hSW; go_simp <;> first | rfl | (rw [IntKind.wrap_i64]; omega) | (simp only [IntKind.wrap_i64]; omega) | omega
                simp only [Act.put, List.setIfInBounds_toArray, List.set_cons_zero, List.set_cons_succ]
                refine wpAnyH_take (i := 19) (oi := ⟨some 180, _, _, _, _, _⟩) (v := .int .i64 (slotI (fs K) k)) rfl (by kernel_rfl) (by kernel_rfl) (by kernel_rfl) (fun _ _ _ h => h) (Or.inl ⟨by rfl, ?_⟩) (by assumption) ?_
                · intro W hSW; go_simp <;> first | rfl | (rw [IntKind.wrap_i64]; omega) | (simp only [IntKind.wrap_i64]; omega) | omega
                simp only [Act.put, List.setIfInBounds_toArray, List.set_cons_zero, List.set_cons_succ]
                refine wpAnyH_take (i := 20) (oi := ⟨some 181, _, _, _, _, _⟩) (v := .slice (some ⟨P, o, none⟩) q cap) rfl (by kernel_rfl) (by kernel_rfl) (by kernel_rfl) (fun _ _ _ h => h) (Or.inl ⟨by rfl, ?_⟩) (by assumption) ?_
                · intro W hSW; go_simp <;> first | rfl | (rw [IntKind.wrap_i64]; omega) | (simp only [IntKind.wrap_i64]; omega) | omega
                simp only [Act.put, List.setIfInBounds_toArray, List.set_cons_zero, List.set_cons_succ]
                refine wpAnyH_take (i := 21) (oi := ⟨some 182, _, _, _, _, _⟩) (v := .int .i64 (K : Int)) rfl (by kernel_rfl) (by kernel_rfl) (by kernel_rfl) (fun _ _ _ h => h) (Or.inl ⟨by rfl, ?_⟩) (by assumption) ?_
                · intro W hSW; go_simp <;> first | rfl | (rw [IntKind.wrap_i64]; omega) | (simp only [IntKind.wrap_i64]; omega) | omega
                simp only [Act.put, List.setIfInBounds_toArray, List.set_cons_zero, List.set_cons_succ]
                refine wpAnyH_take (i := 22) (oi := ⟨some 183, _, _, _, _, _⟩) (v := .pointer (some ⟨P, o + K * 2, none⟩)) rfl (by kernel_rfl) (by kernel_rfl) (by kernel_rfl) (fun _ _ _ h => h) (Or.inl ⟨by rfl, ?_⟩) (by assumption) ?_
                · intro W hSW; go_simp <;> first | rfl | (rw [IntKind.wrap_i64]; omega) | (simp only [IntKind.wrap_i64]; omega) | omega
                simp only [Act.put, List.setIfInBounds_toArray, List.set_cons_zero, List.set_cons_succ]
                refine wpAnyH_take (i := 23) (oi := ⟨some 184, _, _, _, _, _⟩) (v := .pointer (some ⟨P, o + K * 2, none⟩)) rfl (by kernel_rfl) (by kernel_rfl) (by kernel_rfl) (fun _ _ _ h => h) (Or.inl ⟨by rfl, ?_⟩) (by assumption) ?_
                · intro W hSW; go_simp <;> first | rfl | (rw [IntKind.wrap_i64]; omega) | (simp only [IntKind.wrap_i64]; omega) | omega
                simp only [Act.put, List.setIfInBounds_toArray, List.set_cons_zero, List.set_cons_succ]
                refine wpAnyH_take (i := 24) (oi := ⟨some 185, _, _, _, _, _⟩) (v := .int .i64 (fs K)) rfl (by kernel_rfl) (by kernel_rfl) (by kernel_rfl) (fun _ _ _ h => h) (Or.inl ⟨by rfl, ?_⟩) (by assumption) ?_
                · intro W hSW; go_simp <;> first | rfl | (rw [IntKind.wrap_i64]; omega) | (simp only [IntKind.wrap_i64]; omega) | omega
                simp only [Act.put, List.setIfInBounds_toArray, List.set_cons_zero, List.set_cons_succ]
                refine wpAnyH_take (i := 25) (oi := ⟨some 186, _, _, _, _, _⟩) (v := .int .i64 (k : Int)) rfl (by kernel_rfl) (by kernel_rfl) (by kernel_rfl) (fun _ _ _ h => h) (Or.inl ⟨by rfl, ?_⟩) (by assumption) ?_
                · intro W hSW; go_simp <;> first | rfl | (rw [IntKind.wrap_i64]; omega) | (simp only [IntKind.wrap_i64]; omega) | omega
                simp only [Act.put, List.setIfInBounds_toArray, List.set_cons_zero, List.set_cons_succ]
                refine wpAnyH_ready (rs := [26]) (by kernel_rfl) (by simp) ?_
                refine AllReadyH.cons rfl (fun KK hKK => ?_) AllReadyH.nil
                go_simp
                refine (slot_any _ _ _ (by omega) (by omega)).mono ?_
                rintro r w7 ⟨rfl, rfl⟩
                dsimp only
                refine hKK.out _ _ ⟨by assumption, by assumption⟩ (fun hHeld => ?_)
                clear hKK KK
                refine wpAnyH_take (i := 27) (oi := ⟨some 188, _, _, _, _, _⟩) (v := .bool true) rfl (by kernel_rfl) (by kernel_rfl) (by kernel_rfl) (fun _ _ _ h => h) (Or.inl ⟨by rfl, ?_⟩) (by assumption) ?_
                · intro W hSW; go_simp <;> first | rfl | (rw [IntKind.wrap_i64]; omega) | (simp only [IntKind.wrap_i64]; omega) | omega
                simp only [Act.put, List.setIfInBounds_toArray, List.set_cons_zero, List.set_cons_succ]
                refine wpAnyH_take (i := 28) (oi := ⟨some 189, _, _, _, _, _⟩) (v := .bool true) rfl (by kernel_rfl) (by kernel_rfl) (by kernel_rfl) (fun _ _ _ h => h) (Or.inl ⟨by rfl, ?_⟩) (by assumption) ?_
                · intro W hSW; go_simp <;> first | rfl | (rw [IntKind.wrap_i64]; omega) | (simp only [IntKind.wrap_i64]; omega) | omega
                simp only [Act.put, List.setIfInBounds_toArray, List.set_cons_zero, List.set_cons_succ]
                refine wpAnyH_take (i := 29) (oi := ⟨some 190, _, _, _, _, _⟩) (v := .bool true) rfl (by kernel_rfl) (by kernel_rfl) (by kernel_rfl) (fun _ _ _ h => h) (Or.inl ⟨by rfl, ?_⟩) (by assumption) ?_
                · intro W hSW; go_simp <;> first | rfl | (rw [IntKind.wrap_i64]; omega) | (simp only [IntKind.wrap_i64]; omega) | omega
                simp only [Act.put, List.setIfInBounds_toArray, List.set_cons_zero, List.set_cons_succ]
                refine wpAnyH_take (i := 30) (oi := ⟨some 191, _, _, _, _, _⟩) (v := .pointer (some ⟨w'.heap.size + 1, 0, none⟩)) rfl (by kernel_rfl) (by kernel_rfl) (by kernel_rfl) (fun _ _ _ h => h) (Or.inl ⟨by rfl, ?_⟩) (by assumption) ?_
                · intro W hSW; go_simp <;> first | rfl | (rw [IntKind.wrap_i64]; omega) | (simp only [IntKind.wrap_i64]; omega) | omega
                simp only [Act.put, List.setIfInBounds_toArray, List.set_cons_zero, List.set_cons_succ]
                refine wpAnyH_ready (rs := [31]) (by kernel_rfl) (by simp) ?_
                refine AllReadyH.cons rfl (fun KK hKK => ?_) AllReadyH.nil
                go_simp
                refine (full_sl _ 1).mono ?_
                rintro r w8 ⟨g8, c8, rfl, hb8, hg8, a8⟩
                dsimp only
                have hin8 := hin5.offon (hin5.hd.kept a8 (by simp) (by simp)) (a8.mono (by simp)) rfl hin5.ho hin5.ha rfl rfl
                have hbl8 := hin8.hb
                have hcT8 := (a8.cell (p := ⟨gT, K, none⟩) hTl (by simp)).trans hcT5
                refine hKK.out _ _ ⟨by assumption, by assumption⟩ (fun hHeld => ?_)
                clear hKK KK
                refine wpAnyH_ready (rs := [32]) (by kernel_rfl) (by simp) ?_
                refine AllReadyH.cons rfl (fun KK hKK => ?_) AllReadyH.nil
                go_simp
                refine (write0 hin8.hd g8 c8 (rep 512 1) (by have := lt_of_heap hin5.hd.hd; omega) (rep_length _ _) (by intro j hj; rw [Nat.zero_add]; exact hb8.cells j (by rw [rep_length]; exact hj)) hin8.ho (by rw [hin8.hn]; omega) (by rw [hin8.hk]; omega) hin8.ha).mono ?_
                rintro r w9 ⟨rfl, a9⟩
                dsimp only
                have hbl9 := hin8.hb.trans (a9.below hin8.hs (by simp))
                have hcT9 := (a9.cell (p := ⟨gT, K, none⟩) (Nat.lt_of_lt_of_le hTl a8.size) hTn).trans hcT8
                refine hKK.out _ _ ⟨by assumption, by assumption⟩ (fun hHeld => ?_)
                clear hKK KK
                refine wpAnyH_ready (rs := [33]) (by kernel_rfl) (by simp) ?_
                refine AllReadyH.cons rfl (fun KK hKK => ?_) AllReadyH.nil
                go_simp
                refine (num_any _ _).mono ?_
                rintro r w10 ⟨rfl, rfl⟩
                dsimp only
                refine hKK.out _ _ ⟨by assumption, by assumption⟩ (fun hHeld => ?_)
                clear hKK KK
                refine wpAnyH_take (i := 34) (oi := ⟨some 195, _, _, _, _, _⟩) (v := .bool true) rfl (by kernel_rfl) (by kernel_rfl) (by kernel_rfl) (fun _ _ _ h => h) (Or.inl ⟨by rfl, ?_⟩) (by assumption) ?_
                · intro W hSW; go_simp <;> first | rfl | (rw [IntKind.wrap_i64]; omega) | (simp only [IntKind.wrap_i64]; omega) | omega
                simp only [Act.put, List.setIfInBounds_toArray, List.set_cons_zero, List.set_cons_succ]
                refine wpAnyH_take (i := 35) (oi := ⟨some 196, _, _, _, _, _⟩) (v := .bool true) rfl (by kernel_rfl) (by kernel_rfl) (by kernel_rfl) (fun _ _ _ h => h) (Or.inl ⟨by rfl, ?_⟩) (by assumption) ?_
                · intro W hSW; go_simp <;> first | rfl | (rw [IntKind.wrap_i64]; omega) | (simp only [IntKind.wrap_i64]; omega) | omega
                simp only [Act.put, List.setIfInBounds_toArray, List.set_cons_zero, List.set_cons_succ]
                refine wpAnyH_take (i := 36) (oi := ⟨some 8, _, _, _, _, _⟩) (v := .bool true) rfl (by kernel_rfl) (by kernel_rfl) (by kernel_rfl) (fun _ _ _ h => h) (Or.inl ⟨by rfl, ?_⟩) (by assumption) ?_
                · intro W hSW; go_simp <;> first | rfl | (rw [IntKind.wrap_i64]; omega) | (simp only [IntKind.wrap_i64]; omega) | omega
                simp only [Act.put, List.setIfInBounds_toArray, List.set_cons_zero, List.set_cons_succ]
                refine wpAnyH_done (by kernel_rfl) ?_ _
                go_wp2
                go_ret
                exact ⟨rfl, by assumption⟩
              · have hmn : ((64 : Int) < (K : Int) + 1) := by omega
                go_wp2_with fail
                refine (trace_long hinv.hd (K + 1 - 64) (by rw [hinv.hk]; omega) (by omega)).mono ?_
                rintro r w4 ⟨gT, rfl, hrT, hgT, a4⟩
                have hcT : w4.cell? ⟨gT, 63, none⟩ = some (.int .i64 (slotI (fs K) k)) := by rw [← HH.out.2.2.2]; exact trace_cell hrT K hinv.hk 63 (by unfold Dk.kept; rw [hinv.hk]; omega)
                have hin4 := hinv.offon (hinv.hd.kept a4 (by simp) (by simp)) (a4.mono (by simp)) rfl hinv.ho hinv.ha rfl rfl
                have hin5 : LInv w' w4.drew w'.heap.size k (.slice (some ⟨gw, 0, none⟩) k cw) (K + 1) d.oned L xs := hin4.offon (hin4.hd.drewN 1) ((Apart.refl _ _).drewN 1) rfl hin4.ho hin4.ha rfl rfl
                have hTl : gT < w4.drew.heap.size := lt_of_heap hrT
                have hTn : gT ∉ [w'.heap.size + 1, w'.heap.size] := fun hm2 => hin4.hd.not3 _ _ hm2 hrT
                have hcT5 : w4.drew.cell? ⟨gT, 63, none⟩ = some (.int .i64 (slotI (fs K) k)) := hcT
                have hw5 : w4.drew.cell? ⟨w'.heap.size + 1, 5, none⟩ = some (.int .i64 ((K : Int) + 1)) := by rw [hin5.hd.c5, hin5.hk]; rfl
                have hbl5 := hin5.hb
                have e0 : ∀ W, Below w'.heap.size w' W → W.cell? ⟨P, o + K * 2, none⟩ = some (.int .i64 (fs K)) := fun W hb => (hb.cell (p := ⟨P, o + K * 2, none⟩) hP).trans (hc0 K hK)
                clear hinv hin4 hrT hcT hc0 hc1
                go_wp2_with fail
                refine wp_region_held_drew (S := fun W => Below w'.heap.size w' W ∧ W.cell? ⟨gT, 63, none⟩ = some (.int .i64 (slotI (fs K) k))) (by kernel_rfl) ⟨hbl5, hcT5⟩ (fun hHeld => ?_)
                refine wpAnyH_take (i := 0) (oi := ⟨some 161, _, _, _, _, _⟩) (v := .pointer (some ⟨w'.heap.size + 1, 0, none⟩)) rfl (by kernel_rfl) (by kernel_rfl) (by kernel_rfl) (fun _ _ _ h => h) (Or.inl ⟨by rfl, ?_⟩) (by assumption) ?_
                · intro W hSW; go_simp <;> first | rfl | (rw [IntKind.wrap_i64]; omega) | (simp only [IntKind.wrap_i64]; omega) | omega
                simp only [Act.put, List.setIfInBounds_toArray, List.set_cons_zero, List.set_cons_succ]
                refine wpAnyH_take (i := 2) (oi := ⟨some 163, _, _, _, _, _⟩) (v := .int .i64 (K : Int)) rfl (by kernel_rfl) (by kernel_rfl) (by kernel_rfl) (fun _ _ _ h => h) (Or.inl ⟨by rfl, ?_⟩) (by assumption) ?_
                · intro W hSW; go_simp <;> first | rfl | (rw [IntKind.wrap_i64]; omega) | (simp only [IntKind.wrap_i64]; omega) | omega
                simp only [Act.put, List.setIfInBounds_toArray, List.set_cons_zero, List.set_cons_succ]
                refine wpAnyH_take (i := 3) (oi := ⟨some 164, _, _, _, _, _⟩) (v := .int .i64 ((K : Int) + 1)) rfl (by kernel_rfl) (by kernel_rfl) (by kernel_rfl) (fun _ _ _ h => h) (Or.inl ⟨by rfl, ?_⟩) (by assumption) ?_
                · intro W hSW; go_simp <;> first | rfl | (rw [IntKind.wrap_i64]; omega) | (simp only [IntKind.wrap_i64]; omega) | omega
                simp only [Act.put, List.setIfInBounds_toArray, List.set_cons_zero, List.set_cons_succ]
                refine wpAnyH_ready (rs := [1]) (by kernel_rfl) (by simp) ?_
                refine AllReadyH.cons rfl (fun KK hKK => ?_) AllReadyH.nil
                go_simp
                refine (writes_any _ _ _ hw5).mono ?_
                rintro r w6 ⟨rfl, rfl⟩
                dsimp only
                refine hKK.out _ _ ⟨by assumption, by assumption⟩ (fun hHeld => ?_)
                clear hKK KK
                refine wpAnyH_take (i := 4) (oi := ⟨some 165, _, _, _, _, _⟩) (v := .bool true) rfl (by kernel_rfl) (by kernel_rfl) (by kernel_rfl) (fun _ _ _ h => h) (Or.inl ⟨by rfl, ?_⟩) (by assumption) ?_
                · intro W hSW; go_simp <;> first | rfl | (rw [IntKind.wrap_i64]; omega) | (simp only [IntKind.wrap_i64]; omega) | omega
                simp only [Act.put, List.setIfInBounds_toArray, List.set_cons_zero, List.set_cons_succ]
                refine wpAnyH_take (i := 5) (oi := ⟨some 166, _, _, _, _, _⟩) (v := .bool true) rfl (by kernel_rfl) (by kernel_rfl) (by kernel_rfl) (fun _ _ _ h => h) (Or.inl ⟨by rfl, ?_⟩) (by assumption) ?_
                · intro W hSW; go_simp <;> first | rfl | (rw [IntKind.wrap_i64]; omega) | (simp only [IntKind.wrap_i64]; omega) | omega
                simp only [Act.put, List.setIfInBounds_toArray, List.set_cons_zero, List.set_cons_succ]
                refine wpAnyH_take (i := 6) (oi := ⟨some 167, _, _, _, _, _⟩) (v := .slice (some ⟨gT, 0, none⟩) (64) (64)) rfl (by kernel_rfl) (by kernel_rfl) (by kernel_rfl) (fun _ _ _ h => h) (Or.inl ⟨by rfl, ?_⟩) (by assumption) ?_
                · intro W hSW; go_simp <;> first | rfl | (rw [IntKind.wrap_i64]; omega) | (simp only [IntKind.wrap_i64]; omega) | omega
                simp only [Act.put, List.setIfInBounds_toArray, List.set_cons_zero, List.set_cons_succ]
                refine wpAnyH_take (i := 7) (oi := ⟨some 168, _, _, _, _, _⟩) (v := .int .i64 (64)) rfl (by kernel_rfl) (by kernel_rfl) (by kernel_rfl) (fun _ _ _ h => h) (Or.inl ⟨by rfl, ?_⟩) (by assumption) ?_
                · intro W hSW; go_simp <;> first | rfl | (rw [IntKind.wrap_i64]; omega) | (simp only [IntKind.wrap_i64]; omega) | omega
                simp only [Act.put, List.setIfInBounds_toArray, List.set_cons_zero, List.set_cons_succ]
                refine wpAnyH_take (i := 8) (oi := ⟨some 169, _, _, _, _, _⟩) (v := .int .i64 (K : Int)) rfl (by kernel_rfl) (by kernel_rfl) (by kernel_rfl) (fun _ _ _ h => h) (Or.inl ⟨by rfl, ?_⟩) (by assumption) ?_
                · intro W hSW; go_simp <;> first | rfl | (rw [IntKind.wrap_i64]; omega) | (simp only [IntKind.wrap_i64]; omega) | omega
                simp only [Act.put, List.setIfInBounds_toArray, List.set_cons_zero, List.set_cons_succ]
                refine wpAnyH_take (i := 9) (oi := ⟨some 170, _, _, _, _, _⟩) (v := .int .i64 ((K : Int) + 1)) rfl (by kernel_rfl) (by kernel_rfl) (by kernel_rfl) (fun _ _ _ h => h) (Or.inl ⟨by rfl, ?_⟩) (by assumption) ?_
                · intro W hSW; go_simp <;> first | rfl | (rw [IntKind.wrap_i64]; omega) | (simp only [IntKind.wrap_i64]; omega) | omega
                simp only [Act.put, List.setIfInBounds_toArray, List.set_cons_zero, List.set_cons_succ]
                refine wpAnyH_take (i := 10) (oi := ⟨some 171, _, _, _, _, _⟩) (v := .int .i64 (64)) rfl (by kernel_rfl) (by kernel_rfl) (by kernel_rfl) (fun _ _ _ h => h) (Or.inl ⟨by rfl, ?_⟩) (by assumption) ?_
                · intro W hSW; go_simp <;> first | rfl | (rw [IntKind.wrap_i64]; omega) | (simp only [IntKind.wrap_i64]; omega) | omega
                simp only [Act.put, List.setIfInBounds_toArray, List.set_cons_zero, List.set_cons_succ]
                refine wpAnyH_take (i := 11) (oi := ⟨some 172, _, _, _, _, _⟩) (v := .bool true) rfl (by kernel_rfl) (by kernel_rfl) (by kernel_rfl) (fun _ _ _ h => h) (Or.inl ⟨by rfl, ?_⟩) (by assumption) ?_
                · intro W hSW; go_simp <;> first | rfl | (rw [IntKind.wrap_i64]; omega) | (simp only [IntKind.wrap_i64]; omega) | omega
                simp only [Act.put, List.setIfInBounds_toArray, List.set_cons_zero, List.set_cons_succ]
                refine wpAnyH_take (i := 12) (oi := ⟨some 173, _, _, _, _, _⟩) (v := .bool true) rfl (by kernel_rfl) (by kernel_rfl) (by kernel_rfl) (fun _ _ _ h => h) (Or.inl ⟨by rfl, ?_⟩) (by assumption) ?_
                · intro W hSW; go_simp <;> first | rfl | (rw [IntKind.wrap_i64]; omega) | (simp only [IntKind.wrap_i64]; omega) | omega
                simp only [Act.put, List.setIfInBounds_toArray, List.set_cons_zero, List.set_cons_succ]
                refine wpAnyH_take (i := 13) (oi := ⟨some 174, _, _, _, _, _⟩) (v := .bool true) rfl (by kernel_rfl) (by kernel_rfl) (by kernel_rfl) (fun _ _ _ h => h) (Or.inl ⟨by rfl, ?_⟩) (by assumption) ?_
                · intro W hSW; go_simp <;> first | rfl | (rw [IntKind.wrap_i64]; omega) | (simp only [IntKind.wrap_i64]; omega) | omega
                simp only [Act.put, List.setIfInBounds_toArray, List.set_cons_zero, List.set_cons_succ]
                refine wpAnyH_take (i := 14) (oi := ⟨some 175, _, _, _, _, _⟩) (v := .slice (some ⟨gT, 0, none⟩) (64) (64)) rfl (by kernel_rfl) (by kernel_rfl) (by kernel_rfl) (fun _ _ _ h => h) (Or.inl ⟨by rfl, ?_⟩) (by assumption) ?_
                · intro W hSW; go_simp <;> first | rfl | (rw [IntKind.wrap_i64]; omega) | (simp only [IntKind.wrap_i64]; omega) | omega
                simp only [Act.put, List.setIfInBounds_toArray, List.set_cons_zero, List.set_cons_succ]
                refine wpAnyH_take (i := 15) (oi := ⟨some 176, _, _, _, _, _⟩) (v := .slice (some ⟨gT, 0, none⟩) (64) (64)) rfl (by kernel_rfl) (by kernel_rfl) (by kernel_rfl) (fun _ _ _ h => h) (Or.inl ⟨by rfl, ?_⟩) (by assumption) ?_
                · intro W hSW; go_simp <;> first | rfl | (rw [IntKind.wrap_i64]; omega) | (simp only [IntKind.wrap_i64]; omega) | omega
                simp only [Act.put, List.setIfInBounds_toArray, List.set_cons_zero, List.set_cons_succ]
                refine wpAnyH_take (i := 16) (oi := ⟨some 177, _, _, _, _, _⟩) (v := .int .i64 (64)) rfl (by kernel_rfl) (by kernel_rfl) (by kernel_rfl) (fun _ _ _ h => h) (Or.inl ⟨by rfl, ?_⟩) (by assumption) ?_
                · intro W hSW; go_simp <;> first | rfl | (rw [IntKind.wrap_i64]; omega) | (simp only [IntKind.wrap_i64]; omega) | omega
                simp only [Act.put, List.setIfInBounds_toArray, List.set_cons_zero, List.set_cons_succ]
                refine wpAnyH_take (i := 17) (oi := ⟨some 178, _, _, _, _, _⟩) (v := .int .i64 (63)) rfl (by kernel_rfl) (by kernel_rfl) (by kernel_rfl) (fun _ _ _ h => h) (Or.inl ⟨by rfl, ?_⟩) (by assumption) ?_
                · intro W hSW; go_simp <;> first | rfl | (rw [IntKind.wrap_i64]; omega) | (simp only [IntKind.wrap_i64]; omega) | omega
                simp only [Act.put, List.setIfInBounds_toArray, List.set_cons_zero, List.set_cons_succ]
                refine wpAnyH_take (i := 18) (oi := ⟨some 179, _, _, _, _, _⟩) (v := .pointer (some ⟨gT, 63, none⟩)) rfl (by kernel_rfl) (by kernel_rfl) (by kernel_rfl) (fun _ _ _ h => h) (Or.inl ⟨by rfl, ?_⟩) (by assumption) ?_
                · intro W hSW; go_simp <;> first | rfl | (rw [IntKind.wrap_i64]; omega) | (simp only [IntKind.wrap_i64]; omega) | omega
                simp only [Act.put, List.setIfInBounds_toArray, List.set_cons_zero, List.set_cons_succ]
                refine wpAnyH_take (i := 19) (oi := ⟨some 180, _, _, _, _, _⟩) (v := .int .i64 (slotI (fs K) k)) rfl (by kernel_rfl) (by kernel_rfl) (by kernel_rfl) (fun _ _ _ h => h) (Or.inl ⟨by rfl, ?_⟩) (by assumption) ?_
                · intro W hSW; go_simp <;> first | rfl | (rw [IntKind.wrap_i64]; omega) | (simp only [IntKind.wrap_i64]; omega) | omega
                simp only [Act.put, List.setIfInBounds_toArray, List.set_cons_zero, List.set_cons_succ]
                refine wpAnyH_take (i := 20) (oi := ⟨some 181, _, _, _, _, _⟩) (v := .slice (some ⟨P, o, none⟩) q cap) rfl (by kernel_rfl) (by kernel_rfl) (by kernel_rfl) (fun _ _ _ h => h) (Or.inl ⟨by rfl, ?_⟩) (by assumption) ?_
                · intro W hSW; go_simp <;> first | rfl | (rw [IntKind.wrap_i64]; omega) | (simp only [IntKind.wrap_i64]; omega) | omega
                simp only [Act.put, List.setIfInBounds_toArray, List.set_cons_zero, List.set_cons_succ]
                refine wpAnyH_take (i := 21) (oi := ⟨some 182, _, _, _, _, _⟩) (v := .int .i64 (K : Int)) rfl (by kernel_rfl) (by kernel_rfl) (by kernel_rfl) (fun _ _ _ h => h) (Or.inl ⟨by rfl, ?_⟩) (by assumption) ?_
                · intro W hSW; go_simp <;> first | rfl | (rw [IntKind.wrap_i64]; omega) | (simp only [IntKind.wrap_i64]; omega) | omega
                simp only [Act.put, List.setIfInBounds_toArray, List.set_cons_zero, List.set_cons_succ]
                refine wpAnyH_take (i := 22) (oi := ⟨some 183, _, _, _, _, _⟩) (v := .pointer (some ⟨P, o + K * 2, none⟩)) rfl (by kernel_rfl) (by kernel_rfl) (by kernel_rfl) (fun _ _ _ h => h) (Or.inl ⟨by rfl, ?_⟩) (by assumption) ?_
                · intro W hSW; go_simp <;> first | rfl | (rw [IntKind.wrap_i64]; omega) | (simp only [IntKind.wrap_i64]; omega) | omega
                simp only [Act.put, List.setIfInBounds_toArray, List.set_cons_zero, List.set_cons_succ]
                refine wpAnyH_take (i := 23) (oi := ⟨some 184, _, _, _, _, _⟩) (v := .pointer (some ⟨P, o + K * 2, none⟩)) rfl (by kernel_rfl) (by kernel_rfl) (by kernel_rfl) (fun _ _ _ h => h) (Or.inl ⟨by rfl, ?_⟩) (by assumption) ?_
                · intro W hSW; go_simp <;> first | rfl | (rw [IntKind.wrap_i64]; omega) | (simp only [IntKind.wrap_i64]; omega) | omega
                simp only [Act.put, List.setIfInBounds_toArray, List.set_cons_zero, List.set_cons_succ]
                refine wpAnyH_take (i := 24) (oi := ⟨some 185, _, _, _, _, _⟩) (v := .int .i64 (fs K)) rfl (by kernel_rfl) (by kernel_rfl) (by kernel_rfl) (fun _ _ _ h => h) (Or.inl ⟨by rfl, ?_⟩) (by assumption) ?_
                · intro W hSW; go_simp <;> first | rfl | (rw [IntKind.wrap_i64]; omega) | (simp only [IntKind.wrap_i64]; omega) | omega
                simp only [Act.put, List.setIfInBounds_toArray, List.set_cons_zero, List.set_cons_succ]
                refine wpAnyH_take (i := 25) (oi := ⟨some 186, _, _, _, _, _⟩) (v := .int .i64 (k : Int)) rfl (by kernel_rfl) (by kernel_rfl) (by kernel_rfl) (fun _ _ _ h => h) (Or.inl ⟨by rfl, ?_⟩) (by assumption) ?_
                · intro W hSW; go_simp <;> first | rfl | (rw [IntKind.wrap_i64]; omega) | (simp only [IntKind.wrap_i64]; omega) | omega
                simp only [Act.put, List.setIfInBounds_toArray, List.set_cons_zero, List.set_cons_succ]
                refine wpAnyH_ready (rs := [26]) (by kernel_rfl) (by simp) ?_
                refine AllReadyH.cons rfl (fun KK hKK => ?_) AllReadyH.nil
                go_simp
                refine (slot_any _ _ _ (by omega) (by omega)).mono ?_
                rintro r w7 ⟨rfl, rfl⟩
                dsimp only
                refine hKK.out _ _ ⟨by assumption, by assumption⟩ (fun hHeld => ?_)
                clear hKK KK
                refine wpAnyH_take (i := 27) (oi := ⟨some 188, _, _, _, _, _⟩) (v := .bool true) rfl (by kernel_rfl) (by kernel_rfl) (by kernel_rfl) (fun _ _ _ h => h) (Or.inl ⟨by rfl, ?_⟩) (by assumption) ?_
                · intro W hSW; go_simp <;> first | rfl | (rw [IntKind.wrap_i64]; omega) | (simp only [IntKind.wrap_i64]; omega) | omega
                simp only [Act.put, List.setIfInBounds_toArray, List.set_cons_zero, List.set_cons_succ]
                refine wpAnyH_take (i := 28) (oi := ⟨some 189, _, _, _, _, _⟩) (v := .bool true) rfl (by kernel_rfl) (by kernel_rfl) (by kernel_rfl) (fun _ _ _ h => h) (Or.inl ⟨by rfl, ?_⟩) (by assumption) ?_
                · intro W hSW; go_simp <;> first | rfl | (rw [IntKind.wrap_i64]; omega) | (simp only [IntKind.wrap_i64]; omega) | omega
                simp only [Act.put, List.setIfInBounds_toArray, List.set_cons_zero, List.set_cons_succ]
                refine wpAnyH_take (i := 29) (oi := ⟨some 190, _, _, _, _, _⟩) (v := .bool true) rfl (by kernel_rfl) (by kernel_rfl) (by kernel_rfl) (fun _ _ _ h => h) (Or.inl ⟨by rfl, ?_⟩) (by assumption) ?_
                · intro W hSW; go_simp <;> first | rfl | (rw [IntKind.wrap_i64]; omega) | (simp only [IntKind.wrap_i64]; omega) | omega
                simp only [Act.put, List.setIfInBounds_toArray, List.set_cons_zero, List.set_cons_succ]
                refine wpAnyH_take (i := 30) (oi := ⟨some 191, _, _, _, _, _⟩) (v := .pointer (some ⟨w'.heap.size + 1, 0, none⟩)) rfl (by kernel_rfl) (by kernel_rfl) (by kernel_rfl) (fun _ _ _ h => h) (Or.inl ⟨by rfl, ?_⟩) (by assumption) ?_
                · intro W hSW; go_simp <;> first | rfl | (rw [IntKind.wrap_i64]; omega) | (simp only [IntKind.wrap_i64]; omega) | omega
                simp only [Act.put, List.setIfInBounds_toArray, List.set_cons_zero, List.set_cons_succ]
                refine wpAnyH_ready (rs := [31]) (by kernel_rfl) (by simp) ?_
                refine AllReadyH.cons rfl (fun KK hKK => ?_) AllReadyH.nil
                go_simp
                refine (full_sl _ 1).mono ?_
                rintro r w8 ⟨g8, c8, rfl, hb8, hg8, a8⟩
                dsimp only
                have hin8 := hin5.offon (hin5.hd.kept a8 (by simp) (by simp)) (a8.mono (by simp)) rfl hin5.ho hin5.ha rfl rfl
                have hbl8 := hin8.hb
                have hcT8 := (a8.cell (p := ⟨gT, 63, none⟩) hTl (by simp)).trans hcT5
                refine hKK.out _ _ ⟨by assumption, by assumption⟩ (fun hHeld => ?_)
                clear hKK KK
                refine wpAnyH_ready (rs := [32]) (by kernel_rfl) (by simp) ?_
                refine AllReadyH.cons rfl (fun KK hKK => ?_) AllReadyH.nil
                go_simp
                refine (write0 hin8.hd g8 c8 (rep 512 1) (by have := lt_of_heap hin5.hd.hd; omega) (rep_length _ _) (by intro j hj; rw [Nat.zero_add]; exact hb8.cells j (by rw [rep_length]; exact hj)) hin8.ho (by rw [hin8.hn]; omega) (by rw [hin8.hk]; omega) hin8.ha).mono ?_
                rintro r w9 ⟨rfl, a9⟩
                dsimp only
                have hbl9 := hin8.hb.trans (a9.below hin8.hs (by simp))
                have hcT9 := (a9.cell (p := ⟨gT, 63, none⟩) (Nat.lt_of_lt_of_le hTl a8.size) hTn).trans hcT8
                refine hKK.out _ _ ⟨by assumption, by assumption⟩ (fun hHeld => ?_)
                clear hKK KK
                refine wpAnyH_ready (rs := [33]) (by kernel_rfl) (by simp) ?_
                refine AllReadyH.cons rfl (fun KK hKK => ?_) AllReadyH.nil
                go_simp
                refine (num_any _ _).mono ?_
                rintro r w10 ⟨rfl, rfl⟩
                dsimp only
                refine hKK.out _ _ ⟨by assumption, by assumption⟩ (fun hHeld => ?_)
                clear hKK KK
                refine wpAnyH_take (i := 34) (oi := ⟨some 195, _, _, _, _, _⟩) (v := .bool true) rfl (by kernel_rfl) (by kernel_rfl) (by kernel_rfl) (fun _ _ _ h => h) (Or.inl ⟨by rfl, ?_⟩) (by assumption) ?_
                · intro W hSW; go_simp <;> first | rfl | (rw [IntKind.wrap_i64]; omega) | (simp only [IntKind.wrap_i64]; omega) | omega
                simp only [Act.put, List.setIfInBounds_toArray, List.set_cons_zero, List.set_cons_succ]
                refine wpAnyH_take (i := 35) (oi := ⟨some 196, _, _, _, _, _⟩) (v := .bool true) rfl (by kernel_rfl) (by kernel_rfl) (by kernel_rfl) (fun _ _ _ h => h) (Or.inl ⟨by rfl, ?_⟩) (by assumption) ?_
                · intro W hSW; go_simp <;> first | rfl | (rw [IntKind.wrap_i64]; omega) | (simp only [IntKind.wrap_i64]; omega) | omega
                simp only [Act.put, List.setIfInBounds_toArray, List.set_cons_zero, List.set_cons_succ]
                refine wpAnyH_take (i := 36) (oi := ⟨some 8, _, _, _, _, _⟩) (v := .bool true) rfl (by kernel_rfl) (by kernel_rfl) (by kernel_rfl) (fun _ _ _ h => h) (Or.inl ⟨by rfl, ?_⟩) (by assumption) ?_
                · intro W hSW; go_simp <;> first | rfl | (rw [IntKind.wrap_i64]; omega) | (simp only [IntKind.wrap_i64]; omega) | omega
                simp only [Act.put, List.setIfInBounds_toArray, List.set_cons_zero, List.set_cons_succ]
                refine wpAnyH_done (by kernel_rfl) ?_ _
                go_wp2
                go_ret
                exact ⟨rfl, by assumption⟩
end Go.Proofs.Ytckkjdgeandhgaa.dk
