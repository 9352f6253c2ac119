import Derived.Test.YtllhmidpphlbhaaG23
namespace Go.Proofs.Ytllhmidpphlbhaa.ds
open Go.ChangeShapes Go.WideShapes Go.ChangeAt Go.RowKit Go.Sort
set_option linter.unusedVariables false
set_option linter.unusedSimpArgs false
/-- bytes that are being written -/
structure Bf (wB w : World) (s : Sl) (us : List Nat) : Prop where
  nw : Nw wB w 5 1 s (byts us)
  len : s.n = us.length
theorem Bf.kept {wB w w' : World} {s : Sl} {us : List Nat} (h : Bf wB w s us) (a : Apart [] w w') : Bf wB w' s us := ⟨h.nw.kept a, h.len⟩
theorem Bf.nil {wB w : World} (a : Apart [] wB w) : Bf wB w ⟨none, 0, 0⟩ [] := ⟨⟨World.ownsRow_nil _ _ _ _, by simp [Sl.v, Value.ownBlock], a⟩, rfl⟩
/-- what writing does to memory: the old row, and new ones -/
structure Gw (w w' : World) (s s' : Sl) : Prop where
  ap : Apart s.v.ownBlock.toList w w'
  new : ∀ k, s'.v.ownBlock = some k → s.v.ownBlock = some k ∨ w.heap.size ≤ k
theorem Gw.trans {w w1 w2 : World} {s s1 s2 : Sl} (h : Gw w w1 s s1) (k : Gw w1 w2 s1 s2) : Gw w w2 s s2 := by
  refine ⟨h.ap.trans' k.ap (fun y hy => ?_), fun y hy => ?_⟩
  · simp at hy
    rcases h.new y hy with h1 | h1
    · left; simpa using h1
    · exact .inr h1
  · rcases k.new y hy with h1 | h1
    · exact h.new y h1
    · right; have := h.ap.size; omega
theorem Gw.of {w w' : World} {s : Sl} (a : Apart [] w w') : Gw w w' s s := ⟨a.mono (by simp), fun k hk => .inl hk⟩
theorem Gw.refl (w : World) (s : Sl) : Gw w w s s := Gw.of (Apart.refl _ _)
/-- blocks of another kind stay -/
theorem Gw.block {wB w w' : World} {s s' : Sl} {us : List Nat} (h : Gw w w' s s') (b : Bf wB w s us) {X : Nat} {cur : Array Value} {t : TypeId} (hX : w.heap[X]? = some (.cells cur t (0, 0))) (ht : t ≠ 5) : w'.heap[X]? = some (.cells cur t (0, 0)) := by
  refine (h.ap.block X (lt_of_heap hX) (fun hm => ?_)).trans hX
  obtain ⟨cu, hc⟩ := own_typ b.nw.own (k := X) (by simpa using hm)
  rw [hX] at hc
  simp at hc
  exact ht hc.2
/-- .. and what is read in them -/
theorem Gw.rd {wB w w' : World} {s s' : Sl} {us : List Nat} (h : Gw w w' s s') (b : Bf wB w s us) {p : Option Addr} {vs : List Value} (hr : Rd w p vs) (ho : ∀ P o, p = some ⟨P, o, none⟩ → P < wB.heap.size) : Rd w' p vs :=
  hr.kept h.ap (fun P o e hm => by have := b.nw.new P (by simpa using hm); have := ho P o e; omega)
structure AP (wB w : World) (s : Sl) (us : List Nat) (e : Ending) (w' : World) : Prop where
  ex : ∃ s' : Sl, e = .returned (.slice s'.p s'.n s'.c) ∧ Bf wB w' s' us ∧ Gw w w' s s'
/-- one byte more -/
theorem app_byte {wB w : World} {s : Sl} {us : List Nat} (h : Bf wB w s us) (x : Nat) (hl : us.length + 1 ≤ 1099511627776) :
    ∃ s' W', (Builtin.append_ #[28, 28] 28 #[.slice s.p s.n s.c, .slice (some ⟨w.heap.size, 0, none⟩) 1 1]).run Try.prog (w.alloc (Obj.cells #[.int .u8 (x : Int)] 5)) = .ok (.slice s'.p s'.n s'.c) W' ∧ Bf wB W' s' (us ++ [x]) ∧ Gw w W' s s' := by
  obtain ⟨i0, hif, hz0, hz1, hz2⟩ := info_parts infoB
  have hlen := h.len
  obtain ⟨s5, w5, hrun, hnw5, hs5, ap5, k5, hk5, -, hk6⟩ := run_appM (s := s) 28 28 5 i0 _ 1 1 Try.underlying28 hif hz0 hz1 hz2 rfl (by decide) h.nw 1 [.int .u8 (x : Int)] (by decide) rfl (fun u hu => by simp at hu; subst hu; rfl) (by unfold maxLen; omega) (by omega)
  refine ⟨s5, w5, hrun, ⟨by rw [byts_app]; exact hnw5, by simp; omega⟩, ap5, fun k hk => ?_⟩
  have e1 : k5 = k := by unfold Sl.v at hk; rw [hk5] at hk; simpa [Value.ownBlock] using hk
  rw [← e1]; exact hk6
set_option maxHeartbeats 4000000 in
set_option maxRecDepth 100000 in
theorem rnum_ok {wB w : World} {s : Sl} {us : List Nat} (h : Bf wB w s us) (n k : Nat) (hn : n < 9223372036854775808) (hk : k ≤ 100) (hl : us.length ≤ 1000000) : Calls Try.prog 79 #[.slice s.p s.n s.c, .int .i64 (n : Nat), .int .i64 (k : Nat)] w fun e w' => AP wB w s (us ++ encN k n) e w' := by
  have HB := hid h
  clear h
  go_enter Try.func79, Try.ntmps79
  go_wp2_with fail
  go_loopw [0, 1, 7] (fun a b c wt => ∃ (i : Nat) (t : Sl), a = .slice t.p t.n t.c ∧ b = .int .i64 ((n / 256 ^ i : Nat) : Int) ∧ c = .int .i64 (i : Nat) ∧ i ≤ k ∧ Bf wB wt t (us ++ encN i n) ∧ Gw w wt s t) (fun _ _ c _ => k - (intOf c).toNat)
  case atStart => exact ⟨0, s, rfl, by simp, rfl, Nat.zero_le _, by simpa [encN] using HB.out, Gw.refl _ _⟩
  case round =>
    obtain ⟨i, t, rfl, rfl, rfl, hi, hb, hg⟩ := hrel
    have HB1 := hid hb
    have HG1 := hid hg
    clear hb hg
    by_cases hlt : i < k
    · have hlti : ((i : Nat) : Int) < (k : Int) := by omega
      obtain ⟨m, Hm⟩ : ∃ m, Hid (m = n / 256 ^ i) := ⟨_, rfl⟩
      have hm64 : m < 9223372036854775808 := by rw [Hm.out]; exact Nat.lt_of_le_of_lt (Nat.div_le_self _ _) hn
      rw [← Hm.out]
      obtain ⟨x, Hx⟩ : ∃ x, Hid (x = m % 256) := ⟨_, rfl⟩
      have hx8 : x < 256 := by rw [Hx.out]; omega
      have hrem : (m : Int) % 256 = (x : Int) := by rw [Hx.out]; omega
      have hw8 : IntKind.u8.wrap (x : Int) = (x : Int) := by rw [IntKind.wrap_u8]; omega
      obtain ⟨m2, Hm2⟩ : ∃ m2, Hid (m2 = m / 256) := ⟨_, rfl⟩
      have hquo : (m : Int) / 256 = (m2 : Int) := by rw [Hm2.out]; omega
      have hlen := encN_len i n
      obtain ⟨t2, W', h1, h2, h3⟩ := app_byte HB1.out x (by rw [List.length_append, hlen]; omega)
      have HRUN := hid h1
      have HE : Hid (us ++ encN i n ++ [x] = us ++ encN (i + 1) n) := by unfold Hid; rw [encN_succ, Hx.out, Hm.out, List.append_assoc]
      have HB2 : Hid (Bf wB W' t2 (us ++ encN (i + 1) n)) := by unfold Hid; rw [← HE.out]; exact h2
      have HG2 := hid (HG1.out.trans h3)
      have HM3 : Hid (m2 = n / 256 ^ (i + 1)) := by unfold Hid; rw [Hm2.out, Hm.out, Nat.div_div_eq_div_mul, Nat.pow_succ]
      clear h1 h2 h3
      go_wp2_with (at_builtin; refine wpList_app2 rfl (.tmp 13) (.tmp 17) 28 28 rfl _ _ rfl rfl _ _ HRUN.out ?_)
      go_roundw
      case rel => exact ⟨i + 1, t2, rfl, by rw [← HM3.out], by go_num, by omega, HB2.out, HG2.out⟩
      case measure => simp [intOf]; omega
    · have hlti : ¬ ((i : Nat) : Int) < (k : Int) := by omega
      have hik : i = k := by omega
      go_wp2_with fail
      go_ret
      rw [← hik]
      exact ⟨⟨t, rfl, HB1.out, HG1.out⟩⟩
theorem bsk_take {k : ByteArray} {i : Nat} (hi : i < k.size) : (bsk k).take (i + 1) = (bsk k).take i ++ [k[i].toNat] := by
  have hl := bsk_len k
  rw [List.take_add_one, List.getElem?_eq_getElem (by omega)]
  congr 1
  simp [bsk, ByteArray.toList_eq]
  rfl
set_option maxHeartbeats 4000000 in
set_option maxRecDepth 100000 in
theorem rkey_ok {wB w : World} {s : Sl} {us : List Nat} (h : Bf wB w s us) (k : ByteArray) (hk : k.size ≤ 100) (hl : us.length ≤ 100000) : Calls Try.prog 84 #[.slice s.p s.n s.c, .string k] w fun e w' => AP wB w s (us ++ (encN 1 (bsk k).length ++ bsk k)) e w' := by
  have HB := hid h
  have HC := hid (rnum_ok h k.size 1 (by omega) (by omega) (by omega))
  have hkl := bsk_len k
  have HE : Hid (us ++ (encN 1 (bsk k).length ++ bsk k) = (us ++ encN 1 k.size) ++ bsk k) := by unfold Hid; rw [hkl, List.append_assoc]
  rw [HE.out]
  have HL : Hid ((us ++ encN 1 k.size).length ≤ 100001) := by unfold Hid; rw [List.length_append, encN_len]; omega
  clear h HE
  go_enter Try.func84, Try.ntmps84
  go_wp2_with fail
  refine HC.out.mono ?_
  rintro _ w1 ⟨t1, rfl, b1, g1⟩
  have HB1 := hid b1
  have HG1 := hid g1
  clear b1 g1 HC
  dsimp only
  generalize hvs : us ++ encN 1 k.size = vs at *
  have Hvs := hid hvs
  clear hvs
  go_wp2_with fail
  go_loopw [0, 5] (fun a c wt => ∃ (i : Nat) (t : Sl), a = .slice t.p t.n t.c ∧ c = .int .i64 (i : Nat) ∧ i ≤ k.size ∧ Bf wB wt t (vs ++ (bsk k).take i) ∧ Gw w wt s t) (fun _ c _ => k.size - (intOf c).toNat)
  case atStart => exact ⟨0, t1, rfl, rfl, Nat.zero_le _, by simpa using HB1.out, HG1.out⟩
  case round =>
    obtain ⟨i, t, rfl, rfl, hi, hb, hg⟩ := hrel
    have HB2 := hid hb
    have HG2 := hid hg
    clear hb hg
    by_cases hlt : i < k.size
    · have hlti : ((i : Nat) : Int) < (k.size : Int) := by omega
      obtain ⟨t2, W', h1, h2, h3⟩ := app_byte HB2.out (k[i].toNat) (by rw [List.length_append, List.length_take]; have := HL.out; omega)
      have HRUN := hid h1
      have HB3 : Hid (Bf wB W' t2 (vs ++ (bsk k).take (i + 1))) := by unfold Hid; rw [bsk_take hlt, ← List.append_assoc]; exact h2
      have HG3 := hid (HG2.out.trans h3)
      clear h1 h2 h3
      go_wp2_with (at_builtin; refine wpList_app2 rfl (.tmp 16) (.tmp 20) 28 28 rfl _ _ rfl rfl _ _ HRUN.out ?_)
      go_roundw
      case rel => exact ⟨i + 1, t2, rfl, by go_num, by omega, HB3.out, HG3.out⟩
      case measure => simp [intOf]; omega
    · have hlti : ¬ ((i : Nat) : Int) < (k.size : Int) := by omega
      have hik : (bsk k).take i = bsk k := List.take_of_length_le (by omega)
      rw [hik] at HB2
      go_wp2_with fail
      go_ret
      rw [← List.append_assoc, Hvs.out]
      exact ⟨⟨t, rfl, HB2.out, HG2.out⟩⟩
def slN : Value → Nat
  | .slice _ n _ => n
  | _ => 0
set_option maxHeartbeats 4000000 in
set_option maxRecDepth 100000 in
theorem rfilled_ok {wB w : World} {s : Sl} {us : List Nat} (h : Bf wB w s us) (hl : us.length ≤ 2048) : Calls Try.prog 82 #[.slice s.p s.n s.c] w fun e w' => AP wB w s (pad us) e w' := by
  have HB := hid h
  clear h
  go_enter Try.func82, Try.ntmps82
  go_wp2_with fail
  go_loopw [0] (fun a wt => ∃ (i : Nat) (t : Sl), a = .slice t.p t.n t.c ∧ us.length + i ≤ 2048 ∧ Bf wB wt t (us ++ List.replicate i 0) ∧ Gw w wt s t) (fun a _ => 2048 - slN a)
  case atStart => exact ⟨0, s, rfl, hl, by simpa using HB.out, Gw.refl _ _⟩
  case round =>
    obtain ⟨i, t, rfl, hi, hb, hg⟩ := hrel
    have HB1 := hid hb
    have HG1 := hid hg
    have hn : t.n = us.length + i := by have := hb.len; rw [List.length_append, List.length_replicate] at this; exact this
    clear hb hg
    by_cases hlt : t.n < 2048
    · have hlti : ((t.n : Nat) : Int) < 2048 := by omega
      obtain ⟨t2, W', h1, h2, h3⟩ := app_byte HB1.out 0 (by rw [List.length_append, List.length_replicate]; omega)
      rw [show ((0 : Nat) : Int) = 0 from rfl] at h1
      have HRUN := hid h1
      have HB2 : Hid (Bf wB W' t2 (us ++ List.replicate (i + 1) 0)) := by unfold Hid; rw [List.replicate_succ', ← List.append_assoc]; exact h2
      have HG2 := hid (HG1.out.trans h3)
      have hn2 : t2.n = us.length + (i + 1) := by have := HB2.out.len; rw [List.length_append, List.length_replicate] at this; exact this
      have HNN : Hid (t.n = us.length + i ∧ t2.n = us.length + (i + 1)) := ⟨hn, hn2⟩
      clear h1 h2 h3 hn hn2
      go_wp2_with (at_builtin; refine wpList_app2 rfl (.tmp 6) (.tmp 7) 28 28 rfl _ _ rfl rfl _ _ HRUN.out ?_)
      go_roundw
      case rel => exact ⟨i + 1, t2, rfl, by have := HNN.out; omega, HB2.out, HG2.out⟩
      case measure => simp only [slN]; have := HNN.out; omega
    · have hlti : ¬ ((t.n : Nat) : Int) < 2048 := by omega
      have he : us ++ List.replicate i 0 = pad us := by unfold pad; rw [show i = 2048 - us.length from by omega]
      rw [he] at HB1
      clear he hn
      go_wp2_with fail
      go_ret
      exact ⟨⟨t, rfl, HB1.out, HG1.out⟩⟩
end Go.Proofs.Ytllhmidpphlbhaa.ds
namespace Go.Proofs.Ytllhmidpphlbhaa.ds
open Go.ChangeShapes Go.WideShapes Go.ChangeAt Go.RowKit Go.Sort
set_option linter.unusedVariables false
set_option linter.unusedSimpArgs false
/-- only blocks of these types have changed -/
def TK (ts : List Nat) (W W' : World) : Prop := ∃ Z, Apart Z W W' ∧ ∀ k ∈ Z, ∃ cur t, t ∈ ts ∧ W.heap[k]? = some (.cells cur t (0, 0))
theorem TK.of0 {ts : List Nat} {W W' : World} (a : Apart [] W W') : TK ts W W' := ⟨[], a, by simp⟩
theorem TK.trans {ts : List Nat} {W W1 W2 : World} (h : TK ts W W1) (k : TK ts W1 W2) : TK ts W W2 := by
  obtain ⟨Z, a, hz⟩ := h
  obtain ⟨Y, b, hy⟩ := k
  refine ⟨Z ++ Y.filter (fun y => y < W.heap.size), (a.mono (fun x hx => List.mem_append_left _ hx)).trans' b (fun y hyy => ?_), fun k hk => ?_⟩
  · by_cases hs : y < W.heap.size
    · left; simp [hyy, hs]
    · right; omega
  · rcases List.mem_append.1 hk with hk | hk
    · exact hz k hk
    · simp at hk
      by_cases hkz : k ∈ Z
      · exact hz k hkz
      · obtain ⟨cur, t, ht, hh⟩ := hy k hk.1
        exact ⟨cur, t, ht, (a.block k hk.2 hkz).symm.trans hh⟩
theorem TK.mono {ts us : List Nat} {W W' : World} (h : TK ts W W') (hs : ∀ t ∈ ts, t ∈ us) : TK us W W' := by
  obtain ⟨Z, a, hz⟩ := h
  exact ⟨Z, a, fun k hk => by obtain ⟨cur, t, ht, hh⟩ := hz k hk; exact ⟨cur, t, hs t ht, hh⟩⟩
theorem TK.block {ts : List Nat} {W W' : World} (h : TK ts W W') {Y : Nat} {cur : Array Value} {t : TypeId} (hY : W.heap[Y]? = some (.cells cur t (0, 0))) (ht : t ∉ ts) : W'.heap[Y]? = some (.cells cur t (0, 0)) := by
  obtain ⟨Z, a, hz⟩ := h
  refine (a.block Y (lt_of_heap hY) (fun hm => ?_)).trans hY
  obtain ⟨cu, t', ht', hh⟩ := hz Y hm
  rw [hY] at hh
  simp at hh
  exact ht (hh.2 ▸ ht')
theorem TK.nw {ts : List Nat} {w W W' : World} (h : TK ts W W') {e size : Nat} {s : Sl} {us : List Value} (hn : Nw w W e size s us) (ap : Apart [] w W') (ht : e ∉ ts) : Nw w W' e size s us := by
  obtain ⟨Z, a, hz⟩ := h
  refine hn.keepT a ap (fun k hk cur hh => ?_)
  obtain ⟨cu, t', ht', hh'⟩ := hz k hk
  rw [hh] at hh'
  simp at hh'
  exact ht (hh'.2 ▸ ht')
theorem TK.size {ts : List Nat} {W W' : World} (h : TK ts W W') : W.heap.size ≤ W'.heap.size := by obtain ⟨Z, a, _⟩ := h; exact a.size
theorem TK.own {ts : List Nat} {w W W' : World} {e size : Nat} {s : Sl} {us : List Value} (hn : Nw w W e size s us) (a : Apart s.v.ownBlock.toList W W') (he : e ∈ ts) : TK ts W W' :=
  ⟨_, a, fun k hk => by obtain ⟨cur, hc⟩ := own_typ hn.own (k := k) (by simpa using hk); exact ⟨cur, e, he, hc⟩⟩
theorem TK.one {ts : List Nat} {W W' : World} {X : Nat} {cur : Array Value} {t : TypeId} (a : Apart [X] W W') (hX : W.heap[X]? = some (.cells cur t (0, 0))) (he : t ∈ ts) : TK ts W W' :=
  ⟨_, a, fun k hk => by simp at hk; rw [hk]; exact ⟨cur, t, he, hX⟩⟩
def slz : Sl := ⟨none, 0, 0⟩
def gS (l : List Sl) (i : Nat) : Sl := l.getD i slz
def gL {α : Type} (l : List (List α)) (i : Nat) : List α := l.getD i []
theorem gS_l {l : List Sl} {t : Sl} {i : Nat} (h : i < l.length) : gS (l ++ [t]) i = gS l i := by unfold gS; rw [List.getD_eq_getElem?_getD, List.getD_eq_getElem?_getD, List.getElem?_append_left h]
theorem gS_r {l : List Sl} {t : Sl} : gS (l ++ [t]) l.length = t := by unfold gS; rw [List.getD_eq_getElem?_getD, List.getElem?_append_right (Nat.le_refl _), Nat.sub_self]; rfl
theorem gL_l {α : Type} {l : List (List α)} {t : List α} {i : Nat} (h : i < l.length) : gL (l ++ [t]) i = gL l i := by unfold gL; rw [List.getD_eq_getElem?_getD, List.getD_eq_getElem?_getD, List.getElem?_append_left h]
theorem gL_r {α : Type} {l : List (List α)} {t : List α} : gL (l ++ [t]) l.length = t := by unfold gL; rw [List.getD_eq_getElem?_getD, List.getElem?_append_right (Nat.le_refl _), Nat.sub_self]; rfl
/-- a list of lists, each in a block of its own; those from lo on are as told -/
structure RR (w W : World) (te size tl : Nat) (lo : Nat) (s : Sl) (l : List Sl) (c : List (List Value)) : Prop where
  nw : Nw w W tl 1 s (l.map Sl.v)
  len : s.n = l.length
  cl : c.length = l.length
  each : ∀ i, lo ≤ i → i < l.length → Nw w W te size (gS l i) (gL c i)
  dif : ∀ i j, i < j → j < l.length → ∃ k m, (gS l i).v.ownBlock = some k ∧ (gS l j).v.ownBlock = some m ∧ k ≠ m
  has : ∀ i, i < l.length → ∃ k, (gS l i).v.ownBlock = some k ∧ k < W.heap.size ∧ w.heap.size ≤ k
theorem RR.nil {w W : World} {te size tl lo : Nat} (a : Apart [] w W) : RR w W te size tl lo slz [] [] :=
  ⟨⟨World.ownsRow_nil _ _ _ _, by simp [Sl.v, slz, Value.ownBlock], a⟩, rfl, rfl, by simp, by simp, by simp⟩
theorem RR.keep {ts : List Nat} {w W W' : World} {te size tl lo : Nat} {s : Sl} {l : List Sl} {c : List (List Value)} (h : RR w W te size tl lo s l c) (k : TK ts W W') (ap : Apart [] w W') (h1 : te ∉ ts) (h2 : tl ∉ ts) : RR w W' te size tl lo s l c :=
  { h with nw := k.nw h.nw ap h2, each := fun i h0 hi => k.nw (h.each i h0 hi) ap h1, has := fun i hi => by obtain ⟨q, e1, e2, e3⟩ := h.has i hi; exact ⟨q, e1, Nat.lt_of_lt_of_le e2 k.size, e3⟩ }
theorem RR.kept0 {w W W' : World} {te size tl lo : Nat} {s : Sl} {l : List Sl} {c : List (List Value)} (h : RR w W te size tl lo s l c) (a : Apart [] W W') : RR w W' te size tl lo s l c :=
  h.keep (ts := []) (TK.of0 a) (h.nw.ap.trans a) (by simp) (by simp)
/-- one list more -/
theorem RR.push {w W W1 : World} {te size tl : Nat} {s : Sl} {l : List Sl} {c : List (List Value)} (h : RR w W te size tl 0 s l c) (a : Apart [] W W1) (ty ts : TypeId) (i0 : TypeInfo) (htl : te ≠ tl) (hu : Try.prog.underlying ts = some (.slice tl)) (hi : Try.prog.info? tl = some i0) (hz : i0.zero = some (.slice none 0 0)) (hsz : i0.size = 1) (hby : i0.bytes = 24) (t : Sl) (cs : List Value) (hn : Nw W W1 te size t cs) (hp : t.p ≠ none) (hl : l.length ≤ 2000000) :
    ∃ s' W2, (Builtin.append_ #[ts, ts] ty #[.slice s.p s.n s.c, .slice (some ⟨W1.heap.size, 0, none⟩) 1 1]).run Try.prog (W1.alloc (Obj.cells #[.slice t.p t.n t.c] tl)) = .ok (.slice s'.p s'.n s'.c) W2 ∧ RR w W2 te size tl 0 s' (l ++ [t]) (c ++ [cs]) ∧ TK [tl] W1 W2 := by
  have hw1 := h.nw.ap.trans a
  have h1 := h.kept0 a
  have hlen := h.len
  obtain ⟨s5, w5, hrun, hnw5, hs5, ap5, k5, hk5, -, hk6⟩ := run_appM (s := s) ts ty tl i0 _ 1 24 hu hi hz hsz hby rfl (by decide) h1.nw 1 [t.v] (by decide) rfl (fun u hu => by simp at hu; subst hu; rfl) (by unfold maxLen; omega) (by omega)
  have tk : TK [tl] W1 w5 := TK.own h1.nw ap5 (by simp)
  have hap : Apart [] w w5 := hnw5.ap
  obtain ⟨P, hP⟩ : ∃ P, t.v.ownBlock = some P := by
    unfold Sl.v
    cases hq : t.p with
    | none => exact absurd hq hp
    | some A => exact ⟨A.block, rfl⟩
  have hPl : W.heap.size ≤ P := hn.new P hP
  have hPs : P < W1.heap.size := by obtain ⟨cur, hc⟩ := own_typ hn.own hP; exact lt_of_heap hc
  refine ⟨s5, w5, hrun, ⟨by rw [List.map_append]; exact hnw5, by rw [List.length_append, hs5]; simp; omega, by simp [h.cl], fun i _ hi => ?_, fun i j hij hj => ?_, fun i hi => ?_⟩, tk⟩
  · by_cases hil : i < l.length
    · rw [gS_l hil, gL_l (by rw [h.cl]; exact hil)]
      exact tk.nw (h1.each i (Nat.zero_le _) hil) hap (by simpa using htl)
    · have : i = l.length := by simp at hi; omega
      subst this
      rw [gS_r]
      have e2 : gL (c ++ [cs]) l.length = cs := by rw [← h.cl]; exact gL_r
      rw [e2]
      exact tk.nw (hn.from h.nw.ap) hap (by simpa using htl)
  · by_cases hjl : j < l.length
    · rw [gS_l hjl, gS_l (by omega)]
      exact h.dif i j hij hjl
    · have : j = l.length := by simp at hj; omega
      subst this
      rw [gS_r, gS_l hij]
      obtain ⟨q, e1, e2, _⟩ := h.has i hij
      exact ⟨q, P, e1, hP, by omega⟩
  · by_cases hil : i < l.length
    · rw [gS_l hil]
      obtain ⟨q, e1, e2, e3⟩ := h1.has i hil
      exact ⟨q, e1, Nat.lt_of_lt_of_le e2 tk.size, e3⟩
    · have : i = l.length := by simp at hi; omega
      subst this
      rw [gS_r]
      exact ⟨P, hP, Nat.lt_of_lt_of_le hPs tk.size, Nat.le_trans h.nw.ap.size hPl⟩
/-- the first of those that are as told is written over -/
theorem RR.kill {w W W' : World} {te size tl lo P : Nat} {s : Sl} {l : List Sl} {c : List (List Value)} (h : RR w W te size tl lo s l c) (hlo : lo < l.length) (hP : (gS l lo).v.ownBlock = some P) (a : Apart [P] W W') (hPt : ∃ cur, W.heap[P]? = some (.cells cur te (0, 0))) (ht : te ≠ tl) : RR w W' te size tl (lo + 1) s l c := by
  obtain ⟨cur, hPt⟩ := hPt
  have hPw : w.heap.size ≤ P := by obtain ⟨q, e1, _, e3⟩ := h.has lo hlo; rw [hP] at e1; simp at e1; omega
  have ap : Apart [] w W' := h.nw.ap.trans' a (fun y hy => by simp at hy; exact .inr (by omega))
  refine { h with nw := h.nw.keepT a ap (fun k hk cu hh => ?_), each := fun i h0 hi => ⟨own_apart (h.each i (by omega) hi).own a (fun k hk hm => ?_), (h.each i (by omega) hi).new, ap⟩, has := fun i hi => ?_ }
  · simp at hk
    rw [hk, hPt] at hh
    simp at hh
    exact ht hh.2
  · obtain ⟨k1, m1, e1, e2, e3⟩ := h.dif lo i (by omega) hi
    rw [hP] at e1
    rw [hk] at e2
    simp at e1 e2 hm
    omega
  · obtain ⟨q, e1, e2, e3⟩ := h.has i hi
    exact ⟨q, e1, Nat.lt_of_lt_of_le e2 a.size, e3⟩
end Go.Proofs.Ytllhmidpphlbhaa.ds
namespace Go.Proofs.Ytllhmidpphlbhaa.ds
open Go.ChangeShapes Go.WideShapes Go.ChangeAt Go.RowKit Go.Sort
set_option linter.unusedVariables false
set_option linter.unusedSimpArgs false
theorem flat_snoc (l : List S) (x : S) : flat (l ++ [x]) = flat l ++ [.int .i64 x.n, .int .i64 x.b, .int .u64 (x.t : Int)] := by simp [flat, ec]
theorem Rd.pre {w : World} {p : Option Addr} {us vs : List Value} (h : Rd w p (us ++ vs)) : Rd w p us := by
  intro h0
  obtain ⟨P, o, e, hP, hc⟩ := h (by simp; omega)
  refine ⟨P, o, e, hP, fun j u hj => hc j u ?_⟩
  have hj' : j < us.length := by
    by_cases hq : j < us.length
    · exact hq
    · rw [List.getElem?_eq_none (by omega)] at hj; cases hj
  rw [List.getElem?_append_left hj']
  exact hj
/-- a row of one's own: its block -/
theorem Nw.blk {w W : World} {e size : Nat} {s : Sl} {us : List Value} (h : Nw w W e size s us) (h0 : 0 < s.n) : ∃ g cur, s.p = some ⟨g, 0, none⟩ ∧ s.v.ownBlock = some g ∧ W.heap[g]? = some (.cells cur e (0, 0)) ∧ s.n ≤ s.c ∧ cur.size = s.c * size ∧ cur.toList.take (s.n * size) = us ∧ w.heap.size ≤ g ∧ s.c ≤ maxLen := by
  obtain ⟨hl, ⟨hv, hz⟩ | ⟨gB, cap, cur, hv, hb, hr, hle, hm, hs, ht⟩⟩ := h.own
  · omega
  have hv' := hv
  unfold Sl.v at hv'
  simp at hv'
  obtain ⟨hp, hc⟩ := hv'
  have ho : s.v.ownBlock = some gB := by rw [hv]; rfl
  exact ⟨gB, cur, hp, ho, hr, by omega, by rw [hs, hc], ht, h.new gB ho, by omega⟩
/-- .. written over, whatever with -/
theorem Nw.over {w W W' : World} {e size : Nat} {s : Sl} {us : List Value} (h : Nw w W e size s us) (h0 : 0 < s.n) {g : Nat} {cur : Array Value} (hp : s.p = some ⟨g, 0, none⟩) (hc : cur.size = s.c * size) (hb : W'.heap[g]? = some (.cells cur e (0, 0))) (a : Apart [g] W W') : Nw w W' e size s (cur.toList.take (s.n * size)) := by
  obtain ⟨g', cur', hp', ho, hr, hle, hs, ht, hnew, hmx⟩ := h.blk h0
  have : g' = g := by rw [hp] at hp'; simp at hp'; exact hp'.symm
  subst this
  have hsn : s.n * size ≤ s.c * size := Nat.mul_le_mul_right _ hle
  refine ⟨⟨by rw [List.length_take, Array.length_toList, hc]; omega, .inr ⟨g', s.c, cur, by unfold Sl.v; rw [hp], Nat.zero_le _, hb, hle, hmx, hc, rfl⟩⟩, h.new, h.ap.trans' a (fun y hy => by simp at hy; exact .inr (by omega))⟩
/-- bytes that can be read -/
structure RBs (w : World) (s : Sl) (bs : List Nat) : Prop where
  rd : Rd w s.p (byts bs)
  len : bs.length = s.n
  b8 : ∀ b ∈ bs, b < 256
  ok : s.ok
theorem RBs.kept0 {w w' : World} {s : Sl} {bs : List Nat} (h : RBs w s bs) (a : Apart [] w w') : RBs w' s bs := { h with rd := h.rd.kept0 a }
theorem strB_inj {a b : List Nat} (ha : ∀ x ∈ a, x < 256) (hb : ∀ x ∈ b, x < 256) : strB a = strB b ↔ a = b := by
  constructor
  · intro h
    rw [← bsk_strB ha, h, bsk_strB hb]
  · intro h; rw [h]
theorem Bf.rbs {wB w : World} {s : Sl} {l : List Nat} (h : Bf wB w s l) (h8 : ∀ b ∈ l, b < 256) : RBs w s l := ⟨h.nw.rd, h.len.symm, h8, h.nw.ok⟩
theorem bool_f' {v : Bool} {p : Prop} (h : v = true ↔ p) (hp : ¬ p) : v = false := by
  cases v with
  | false => rfl
  | true => exact absurd (h.1 rfl) hp
theorem g_ext {xs ys : List S} (hl : xs.length = ys.length) (h : ∀ i, i < xs.length → g xs i = g ys i) : xs = ys := by
  apply List.ext_getElem hl
  intro i h1 h2
  have := h i h1
  unfold g at this
  rw [List.getD_eq_getElem?_getD, List.getElem?_eq_getElem h1, List.getD_eq_getElem?_getD, List.getElem?_eq_getElem h2] at this
  exact this
/-- the mark behind a list of spans -/
def mkS : S := ⟨-71, -72, 0⟩
/-- a list of spans with a mark behind it, all but the mark -/
theorem Nw.spans {w W : World} {s : Sl} {xs : List S} (h : Nw w W 85 3 s (flat (xs ++ [mkS]))) (hx : ∀ x ∈ xs, x.t < 2 ^ 64) (hl : xs.length ≤ 2000000) : s.n = xs.length + 1 ∧ L W s.p xs.length xs ∧ (⟨s.p, xs.length, s.c⟩ : Sl).ok ∧ xs.length ≤ s.c ∧ s.p ≠ none := by
  have hn : s.n = xs.length + 1 := by
    have := h.own.1
    rw [flat_length, List.length_append] at this
    simp at this
    omega
  obtain ⟨g, cur, hp, _, _, hle, _⟩ := h.blk (by omega)
  have hrd := h.rd
  rw [flat_snoc] at hrd
  exact ⟨hn, ⟨Sp.of_rd hrd.pre, rfl, by omega, hx⟩, fun hq => by simp only at hq; rw [hp] at hq; simp at hq, by omega, by rw [hp]; simp⟩
theorem Nw.bytes {w W : World} {s : Sl} {bs : List Nat} (h : Nw w W 5 1 s (byts (bs ++ [167]))) : s.n = bs.length + 1 ∧ Rd W s.p (byts bs) ∧ (⟨s.p, bs.length, s.c⟩ : Sl).ok ∧ bs.length ≤ s.c ∧ s.p ≠ none := by
  have hn : s.n = bs.length + 1 := by
    have := h.own.1
    rw [byts_len, List.length_append] at this
    simp at this
    omega
  obtain ⟨g, cur, hp, _, _, hle, _⟩ := h.blk (by omega)
  have hrd := h.rd
  rw [byts_app] at hrd
  exact ⟨hn, hrd.pre, fun hq => by simp only at hq; rw [hp] at hq; simp at hq, by omega, by rw [hp]; simp⟩
/-- what is lent: its block X, the lists of bytes and of spans, each with a mark behind; from lo and lo' on they are as told -/
structure LD (w W : World) (X lo lo' : Nat) (sv sx : Sl) (vl xl : List Sl) (vb : List (List Nat)) (xb : List (List S)) : Prop where
  blk : W.heap[X]? = some (.cells #[.slice sv.p sv.n sv.c, .slice sx.p sx.n sx.c] 88 (0, 0))
  nb : w.heap.size ≤ X
  v : RR w W 5 1 28 lo sv vl (vb.map fun b => byts (b ++ [167]))
  x : RR w W 85 3 48 lo' sx xl (xb.map fun b => flat (b ++ [mkS]))
theorem LD.ap {w W : World} {X lo lo' : Nat} {sv sx : Sl} {vl xl : List Sl} {vb : List (List Nat)} {xb : List (List S)} (h : LD w W X lo lo' sv sx vl xl vb xb) : Apart [] w W := h.v.nw.ap
theorem LD.keep {ts : List Nat} {w W W' : World} {X lo lo' : Nat} {sv sx : Sl} {vl xl : List Sl} {vb : List (List Nat)} {xb : List (List S)} (h : LD w W X lo lo' sv sx vl xl vb xb) (k : TK ts W W') (ap : Apart [] w W') (ht : 88 ∉ ts ∧ 5 ∉ ts ∧ 28 ∉ ts ∧ 85 ∉ ts ∧ 48 ∉ ts) : LD w W' X lo lo' sv sx vl xl vb xb :=
  ⟨k.block h.blk ht.1, h.nb, h.v.keep k ap ht.2.1 ht.2.2.1, h.x.keep k ap ht.2.2.2.1 ht.2.2.2.2⟩
theorem LD.kept0 {w W W' : World} {X lo lo' : Nat} {sv sx : Sl} {vl xl : List Sl} {vb : List (List Nat)} {xb : List (List S)} (h : LD w W X lo lo' sv sx vl xl vb xb) (a : Apart [] W W') : LD w W' X lo lo' sv sx vl xl vb xb :=
  h.keep (ts := []) (TK.of0 a) (h.ap.trans a) (by simp)
theorem infoBs : (Try.prog.info? 28).map (fun i => (i.zero, i.size, i.bytes)) = some (some (.slice none 0 0), 1, 24) := by kernel_rfl
theorem infoSs : (Try.prog.info? 48).map (fun i => (i.zero, i.size, i.bytes)) = some (some (.slice none 0 0), 1, 24) := by kernel_rfl
theorem vl_len {w W : World} {X lo lo' : Nat} {sv sx : Sl} {vl xl : List Sl} {vb : List (List Nat)} {xb : List (List S)} (h : LD w W X lo lo' sv sx vl xl vb xb) : vb.length = vl.length ∧ xb.length = xl.length := ⟨by have := h.v.cl; simpa using this, by have := h.x.cl; simpa using this⟩
/-- one more list of spans: the append, then the store into X -/
theorem LD.addX {w W W1 : World} {X : Nat} {sv sx : Sl} {vl xl : List Sl} {vb : List (List Nat)} {xb : List (List S)} (h : LD w W X 0 0 sv sx vl xl vb xb) (a : Apart [] W W1) (t : Sl) (xs : List S) (hn : Nw W W1 85 3 t (flat (xs ++ [mkS]))) (hp : t.p ≠ none) (hl : xl.length ≤ 2000000) :
    ∃ s' W2, (Builtin.append_ #[71, 71] 71 #[.slice sx.p sx.n sx.c, .slice (some ⟨W1.heap.size, 0, none⟩) 1 1]).run Try.prog (W1.alloc (Obj.cells #[.slice t.p t.n t.c] 48)) = .ok (.slice s'.p s'.n s'.c) W2 ∧ W2.heap[X]? = some (.cells #[.slice sv.p sv.n sv.c, .slice sx.p sx.n sx.c] 88 (0, 0)) ∧ LD w (W2.setCell ⟨X, 1, none⟩ (.slice s'.p s'.n s'.c)) X 0 0 sv s' vl (xl ++ [t]) vb (xb ++ [xs]) ∧ TK [48, 88] W (W2.setCell ⟨X, 1, none⟩ (.slice s'.p s'.n s'.c)) := by
  obtain ⟨i0, hif, hz0, hz1, hz2⟩ := info_parts infoSs
  obtain ⟨s', W2, hrun, hr, tk⟩ := h.x.push a 71 71 i0 (by decide) Try.underlying71 hif hz0 hz1 hz2 t (flat (xs ++ [mkS])) hn hp hl
  have hX2 := (TK.of0 (ts := []) a).trans (TK.of0 (Apart.refl [] _)) |>.block h.blk (by simp)
  have hX2 := tk.block hX2 (by decide)
  have aX : Apart [X] W2 (W2.setCell ⟨X, 1, none⟩ (.slice s'.p s'.n s'.c)) := (Apart.refl [X] W2).setCell (.inl (by simp)) _
  have tkX : TK [88] W2 (W2.setCell ⟨X, 1, none⟩ (.slice s'.p s'.n s'.c)) := TK.one aX hX2 (by simp)
  have ap : Apart [] w (W2.setCell ⟨X, 1, none⟩ (.slice s'.p s'.n s'.c)) := hr.nw.ap.trans' aX (fun y hy => by simp at hy; exact .inr (by have := h.nb; omega))
  refine ⟨s', W2, hrun, hX2, ⟨?_, h.nb, ?_, ?_⟩, ?_⟩
  · have := heap_setCell_same W2 X 1 _ 88 (.slice s'.p s'.n s'.c) hX2
    simpa using this
  · exact ((h.v.kept0 a).keep tk hr.nw.ap (by decide) (by decide)).keep tkX ap (by decide) (by decide)
  · rw [List.map_append]
    exact hr.keep tkX ap (by decide) (by decide)
  · exact (TK.of0 a).trans ((tk.mono (by simp)).trans (tkX.mono (by simp)))
/-- one more list of bytes -/
theorem LD.addV {w W W1 : World} {X : Nat} {sv sx : Sl} {vl xl : List Sl} {vb : List (List Nat)} {xb : List (List S)} (h : LD w W X 0 0 sv sx vl xl vb xb) (a : Apart [] W W1) (t : Sl) (bs : List Nat) (hn : Nw W W1 5 1 t (byts (bs ++ [167]))) (hp : t.p ≠ none) (hl : vl.length ≤ 2000000) :
    ∃ s' W2, (Builtin.append_ #[69, 69] 69 #[.slice sv.p sv.n sv.c, .slice (some ⟨W1.heap.size, 0, none⟩) 1 1]).run Try.prog (W1.alloc (Obj.cells #[.slice t.p t.n t.c] 28)) = .ok (.slice s'.p s'.n s'.c) W2 ∧ W2.heap[X]? = some (.cells #[.slice sv.p sv.n sv.c, .slice sx.p sx.n sx.c] 88 (0, 0)) ∧ LD w (W2.setCell ⟨X, 0, none⟩ (.slice s'.p s'.n s'.c)) X 0 0 s' sx (vl ++ [t]) xl (vb ++ [bs]) xb ∧ TK [28, 88] W (W2.setCell ⟨X, 0, none⟩ (.slice s'.p s'.n s'.c)) := by
  obtain ⟨i0, hif, hz0, hz1, hz2⟩ := info_parts infoBs
  obtain ⟨s', W2, hrun, hr, tk⟩ := h.v.push a 69 69 i0 (by decide) Try.underlying69 hif hz0 hz1 hz2 t (byts (bs ++ [167])) hn hp hl
  have hX2 := (TK.of0 (ts := []) a).trans (TK.of0 (Apart.refl [] _)) |>.block h.blk (by simp)
  have hX2 := tk.block hX2 (by decide)
  have aX : Apart [X] W2 (W2.setCell ⟨X, 0, none⟩ (.slice s'.p s'.n s'.c)) := (Apart.refl [X] W2).setCell (.inl (by simp)) _
  have tkX : TK [88] W2 (W2.setCell ⟨X, 0, none⟩ (.slice s'.p s'.n s'.c)) := TK.one aX hX2 (by simp)
  have ap : Apart [] w (W2.setCell ⟨X, 0, none⟩ (.slice s'.p s'.n s'.c)) := hr.nw.ap.trans' aX (fun y hy => by simp at hy; exact .inr (by have := h.nb; omega))
  refine ⟨s', W2, hrun, hX2, ⟨?_, h.nb, ?_, ?_⟩, ?_⟩
  · have := heap_setCell_same W2 X 0 _ 88 (.slice s'.p s'.n s'.c) hX2
    simpa using this
  · rw [List.map_append]
    exact hr.keep tkX ap (by decide) (by decide)
  · exact ((h.x.kept0 a).keep tk hr.nw.ap (by decide) (by decide)).keep tkX ap (by decide) (by decide)
  · exact (TK.of0 a).trans ((tk.mono (by simp)).trans (tkX.mono (by simp)))
end Go.Proofs.Ytllhmidpphlbhaa.ds
