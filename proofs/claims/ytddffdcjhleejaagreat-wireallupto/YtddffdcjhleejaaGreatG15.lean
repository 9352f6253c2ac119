import Derived.Test.YtddffdcjhleejaaGreatG14
namespace Go.Proofs.YtddffdcjhleejaaGreat.ds
open Go.ChangeShapes Go.WideShapes Go.ChangeAt Go.RowKit Go.Sort
set_option linter.unusedVariables false
set_option linter.unusedSimpArgs false
/-- a text's bytes -/
def bsk (k : ByteArray) : List Nat := k.toList.map UInt8.toNat
theorem bsk_lt (k : ByteArray) : ∀ b ∈ bsk k, b < 256 := by
  intro b hb
  simp only [bsk, List.mem_map] at hb
  obtain ⟨x, _, rfl⟩ := hb
  exact x.toNat_lt
theorem strB_fold : ∀ (l : List Nat) (r : ByteArray), ((l.map (fun (b : Nat) => (b : Int))).foldl (fun r n => r.push (UInt8.ofNat n.toNat)) r).toList = r.toList ++ l.map UInt8.ofNat
  | [], r => by simp
  | x :: l, r => by
    simp only [List.map_cons, List.foldl_cons]
    rw [strB_fold l]
    simp [ByteArray.toList_eq]
theorem strB_list (l : List Nat) : (strB l).toList = l.map UInt8.ofNat := by
  unfold strB
  rw [strB_fold]
  simp [ByteArray.toList_eq]
theorem bsk_strB {l : List Nat} (h : ∀ b ∈ l, b < 256) : bsk (strB l) = l := by
  unfold bsk
  rw [strB_list, List.map_map]
  refine (List.map_congr_left (fun b hb => ?_)).trans (List.map_id l)
  have := h b hb
  simp only [Function.comp, id, UInt8.toNat_ofNat']
  omega
theorem strB_bsk (k : ByteArray) : strB (bsk k) = k := by
  apply toList_inj
  rw [strB_list, bsk, List.map_map]
  refine (List.map_congr_left (fun b hb => ?_)).trans (List.map_id _)
  simp
theorem bsk_len (k : ByteArray) : (bsk k).length = k.size := by
  rw [bsk, List.length_map, ByteArray.toList_eq, Array.length_toList]; rfl
/-- a write that may be written -/
structure GoodW (r : Wr) : Prop where
  dot : IsDot r.n r.c
  key : 1 ≤ r.k.size ∧ r.k.size ≤ 16
  val : r.vs.length ≤ 64
  dead : r.d = true → r.vs = []
  ctx : OkL 64 r.xs
  own : hasd r.xs r.n r.c = false
/-- a write as it is written -/
def encV (d : Bool) (vs : List Nat) : List Nat := if d = true then enc 1 else enc 0 ++ encT vs
def encW (r : Wr) : List Nat := (enc r.n.toNat ++ enc r.c.toNat) ++ (encT (bsk r.k) ++ (encV r.d r.vs ++ encSet r.xs))
def keyIs (key k : ByteArray) : Prop := key = ⟨#[]⟩ ∨ k = key
theorem keyOk_iff (key : ByteArray) (k : List Nat) : keyOk key k = true ↔ keyIs key (strB k) := by
  unfold keyOk keyIs
  rw [Bool.or_eq_true, keq_iff, keq_iff]
theorem rvalue_iff {B : List Nat} (hB : ∀ b ∈ B, b < 256) (q dd : Nat) (hd : dd ≤ 1) (hq : q ≤ B.length) (l : List Nat) (q' : Nat) : rvalue B dd q = .ok (l, q') ↔ (l.length ≤ 64 ∧ (dd = 1 → l = [])) ∧ St B q (if dd = 1 then [] else encT l) q' := by
  unfold rvalue
  by_cases h1 : dd = 1
  · rw [if_pos h1, if_pos h1]
    constructor
    · intro h
      simp only [Except.ok.injEq, Prod.mk.injEq] at h
      obtain ⟨rfl, rfl⟩ := h
      exact ⟨⟨by simp, fun _ => rfl⟩, rfl, hq⟩
    · rintro ⟨⟨_, h2⟩, h3, _⟩
      rw [h2 h1, h3]
  · rw [if_neg h1, if_neg h1, rtext_iff hB _ _ _ (by omega)]
    simp [h1]
theorem rwrite_iff {B : List Nat} (hB : ∀ b ∈ B, b < 256) (q : Nat) (an ac : Int) (key : ByteArray) (r : Wr) (q' : Nat) :
    rwrite B q an ac key = .ok (r, q') ↔ (GoodW r ∧ risW an ac r.n r.c = true ∧ keyIs key r.k) ∧ St B q (encW r) q' := by
  unfold rwrite encW
  rw [rb_iff, St_app]
  constructor
  · rintro ⟨⟨n, c⟩, q1, h1, h2⟩
    rw [rdot_iff hB] at h1
    split at h2
    · rename_i hris
      rw [rb_iff] at h2
      obtain ⟨k, q2, h2, h3⟩ := h2
      rw [rtext_iff hB _ _ _ (by omega)] at h2
      split at h3
      · rename_i hkey
        rw [rb_iff] at h3
        obtain ⟨dd, q3, h3, h4⟩ := h3
        rw [rbound_iff hB _ _ _ _ _ (by omega)] at h3
        rw [rb_iff] at h4
        obtain ⟨vs, q4, h4, h5⟩ := h4
        rw [rvalue_iff hB q3 dd h3.1.2 h3.2.len.2] at h4
        rw [rb_iff] at h5
        obtain ⟨xs, q5, h5, h6⟩ := h5
        rw [rset_iff hB] at h5
        split at h6
        · rename_i hhas
          simp only [Except.ok.injEq, Prod.mk.injEq] at h6
          obtain ⟨rfl, rfl⟩ := h6
          have hk8 : ∀ b ∈ k, b < 256 := by
            intro b hb
            obtain ⟨m, _, hm⟩ := St_app.1 h2.2
            have hdr := hm.drop
            refine hB b (List.mem_of_mem_drop (i := m) ?_)
            rw [hdr]; exact List.mem_append_left _ hb
          have hsz : (strB k).size = k.length := by rw [← bsk_len, bsk_strB hk8]
          refine ⟨⟨⟨⟨⟨by simp, by simp; omega⟩, by simp; omega, by simp; omega⟩, by rw [hsz]; exact h2.1, h4.1.1, ?_, h5.1, hhas⟩, hris, (keyOk_iff key k).1 hkey⟩, q1, by simpa using h1.2, ?_⟩
          · intro hd
            exact h4.1.2 (by simpa using hd)
          · rw [St_app]
            refine ⟨q2, by rw [bsk_strB hk8]; exact h2.2, ?_⟩
            rw [St_app]
            refine ⟨q4, ?_, h5.2⟩
            unfold encV
            by_cases hd : dd = 1
            · subst hd
              have := h4.2
              simp only [if_true] at this
              rw [this.1]
              simpa using h3.2
            · have hd0 : dd = 0 := by omega
              subst hd0
              have := h4.2
              simp only [show ((0 : Nat) = 1) = False from by simp, if_false] at this
              simp only [show decide ((0 : Nat) = 1) = false from rfl, Bool.false_eq_true, if_false]
              exact St_app.2 ⟨q3, h3.2, this⟩
        · cases h6
      · cases h3
    · cases h2
  · rintro ⟨⟨hg, hris, hkey⟩, q1, h1, hA⟩
    obtain ⟨q2, h2, hC⟩ := St_app.1 hA
    obtain ⟨q4, h3, h4⟩ := St_app.1 hC
    clear hA hC
    obtain ⟨⟨d1, d2⟩, d3, d4⟩ := hg.dot
    have en : ((r.n.toNat : Nat) : Int) = r.n := Int.toNat_of_nonneg d1
    have ec : ((r.c.toNat : Nat) : Int) = r.c := Int.toNat_of_nonneg (by omega)
    refine ⟨(r.n.toNat, r.c.toNat), q1, (rdot_iff hB _ _ _ _).2 ⟨⟨by omega, by omega, by omega⟩, h1⟩, ?_⟩
    simp only [en, ec]
    rw [if_pos hris, rb_iff]
    refine ⟨bsk r.k, q2, (rtext_iff hB _ _ _ (by omega) _ _).2 ⟨by rw [bsk_len]; exact hg.key, h2⟩, ?_⟩
    rw [if_pos ((keyOk_iff _ _).2 (by rw [strB_bsk]; exact hkey)), rb_iff]
    obtain ⟨n', c', k, d, vs, xs⟩ := r
    simp only at hg hris hkey h1 h2 h3 h4 en ec ⊢
    cases d with
    | true =>
      unfold encV at h3
      rw [if_pos rfl] at h3
      have hv := hg.dead rfl
      simp only at hv
      subst hv
      refine ⟨1, q4, (rbound_iff hB _ _ _ _ _ (by omega)).2 ⟨by omega, h3⟩, ?_⟩
      rw [rb_iff]
      refine ⟨[], q4, by unfold rvalue; rw [if_pos rfl], ?_⟩
      rw [rb_iff]
      refine ⟨xs, q', (rset_iff hB _ _ _).2 ⟨hg.ctx, h4⟩, ?_⟩
      rw [if_pos hg.own, strB_bsk]
      rfl
    | false =>
      unfold encV at h3
      rw [if_neg (by simp)] at h3
      obtain ⟨q3, h3, h5⟩ := St_app.1 h3
      refine ⟨0, q3, (rbound_iff hB _ _ _ _ _ (by omega)).2 ⟨by omega, h3⟩, ?_⟩
      rw [rb_iff]
      refine ⟨vs, q4, (rvalue_iff hB q3 0 (by omega) h3.len.2 _ _).2 ⟨⟨hg.val, by simp⟩, by simpa using h5⟩, ?_⟩
      rw [rb_iff]
      refine ⟨xs, q', (rset_iff hB _ _ _).2 ⟨hg.ctx, h4⟩, ?_⟩
      rw [if_pos hg.own, strB_bsk]
      rfl
theorem GoodW.ris {r : Wr} (h : GoodW r) : risW 0 0 r.n r.c = true := by
  obtain ⟨⟨d1, d2⟩, d3, d4⟩ := h.dot
  unfold risW
  by_cases h0 : 0 < r.n
  · simp [h0]
  · have : r.n = 0 := by omega
    simp [this]; omega
theorem rlone_iff {B : List Nat} (hB : ∀ b ∈ B, b < 256) (q : Nat) (r : Wr) (q' : Nat) : rlone B q = .ok (r, q') ↔ GoodW r ∧ St B q (encW r) q' := by
  unfold rlone
  rw [rwrite_iff hB]
  constructor
  · rintro ⟨⟨h1, _, _⟩, h2⟩; exact ⟨h1, h2⟩
  · rintro ⟨h1, h2⟩; exact ⟨⟨h1, h1.ris, .inl rfl⟩, h2⟩
/-- writes that may stand in a list behind a dot -/
def WsOk (key : ByteArray) : Int → Int → List Wr → Prop
  | _, _, [] => True
  | an, ac, r :: l => (GoodW r ∧ risW an ac r.n r.c = true ∧ keyIs key r.k) ∧ WsOk key r.n r.c l
theorem rwritesA_iff {B : List Nat} (hB : ∀ b ∈ B, b < 256) (key : ByteArray) : ∀ (k : Nat) (an ac : Int) (q : Nat) (l : List Wr) (q' : Nat), q ≤ B.length → (rwritesA B key k an ac q = .ok (l, q') ↔ (l.length = k ∧ WsOk key an ac l) ∧ St B q (l.flatMap encW) q')
  | 0, an, ac, q, l, q', hq => by
    unfold rwritesA
    constructor
    · intro h
      simp only [Except.ok.injEq, Prod.mk.injEq] at h
      obtain ⟨rfl, rfl⟩ := h
      exact ⟨⟨rfl, trivial⟩, rfl, hq⟩
    · rintro ⟨⟨h1, _⟩, h2⟩
      have := List.length_eq_zero_iff.1 h1
      subst this
      rw [h2.1]
  | k + 1, an, ac, q, l, q', hq => by
    unfold rwritesA
    rw [rb_iff]
    constructor
    · rintro ⟨r, q1, h1, h2⟩
      rw [rb_iff] at h2
      obtain ⟨l', q2, h2, h3⟩ := h2
      simp only [Except.ok.injEq, Prod.mk.injEq] at h3
      obtain ⟨rfl, rfl⟩ := h3
      rw [rwrite_iff hB] at h1
      rw [rwritesA_iff hB key k _ _ q1 l' q2 h1.2.len.2] at h2
      exact ⟨⟨by simp [h2.1.1], h1.1, h2.1.2⟩, by rw [List.flatMap_cons, St_app]; exact ⟨q1, h1.2, h2.2⟩⟩
    · rintro ⟨⟨h1, h2⟩, h5⟩
      cases l with
      | nil => simp at h1
      | cons r l =>
        rw [List.flatMap_cons, St_app] at h5
        obtain ⟨q1, h5, h6⟩ := h5
        refine ⟨r, q1, (rwrite_iff hB _ _ _ _ _ _).2 ⟨h2.1, h5⟩, ?_⟩
        rw [rb_iff]
        exact ⟨l, q', (rwritesA_iff hB key k _ _ q1 l q' h5.len.2).2 ⟨⟨by simpa using h1, h2.2⟩, h6⟩, rfl⟩
theorem rwrites_iff {B : List Nat} (hB : ∀ b ∈ B, b < 256) (q most : Nat) (hm : most ≤ 1000) (key : ByteArray) (l : List Wr) (q' : Nat) : rwrites B q most key = .ok (l, q') ↔ (l.length ≤ most ∧ WsOk key 0 0 l) ∧ St B q (enc l.length ++ l.flatMap encW) q' := by
  unfold rwrites
  rw [rb_iff, St_app]
  constructor
  · rintro ⟨k, q1, h1, h2⟩
    rw [rbound_iff hB _ _ _ _ _ (by omega)] at h1
    rw [rwritesA_iff hB key k 0 0 q1 l q' h1.2.len.2] at h2
    obtain ⟨⟨rfl, h3⟩, h6⟩ := h2
    exact ⟨⟨h1.1.2, h3⟩, q1, h1.2, h6⟩
  · rintro ⟨⟨h1, h2⟩, q1, h3, h4⟩
    refine ⟨l.length, q1, (rbound_iff hB _ _ _ _ _ (by omega)).2 ⟨⟨by omega, h1⟩, h3⟩, ?_⟩
    exact (rwritesA_iff hB key _ 0 0 q1 l q' h3.len.2).2 ⟨⟨rfl, h2⟩, h4⟩
theorem ropt_iff {α : Type} {b : Bool} {d : α} {q : Nat} {r : Nat → Except Nat (α × Nat)} {a : α} {q' : Nat} {P : α → Prop} {l : α → List Nat} {B : List Nat} (hq : q ≤ B.length) (h : r q = .ok (a, q') ↔ P a ∧ St B q (l a) q') :
    ropt b d q r = .ok (a, q') ↔ (if b = true then P a else a = d) ∧ St B q (if b = true then l a else []) q' := by
  unfold ropt
  cases b with
  | true => simpa using h
  | false =>
    simp only [Bool.false_eq_true, if_false]
    constructor
    · intro h
      simp only [Except.ok.injEq, Prod.mk.injEq] at h
      obtain ⟨rfl, rfl⟩ := h
      exact ⟨rfl, rfl, hq⟩
    · rintro ⟨rfl, rfl, _⟩; rfl
/-- a message that is one -/
structure VMg (m : Mg) : Prop where
  kind : 1 ≤ m.kind ∧ m.kind ≤ 11
  frm : m.frm ≤ 7
  dst : m.dst ≤ 7
  call : if hasF m.kind 1 = true then m.call ≤ 4096 else m.call = 0
  own : if hasF m.kind 2 = true then m.own ≤ 7 else m.own = 0
  rng : if hasF m.kind 4 = true then m.rng ≤ 15 else m.rng = 0
  key : if hasF m.kind 8 = true then 1 ≤ m.key.length ∧ m.key.length ≤ 16 else m.key = []
  dot : if hasF m.kind 16 = true then m.dn ≤ 7 ∧ 1 ≤ m.dc ∧ m.dc ≤ 1048576 else (m.dn, m.dc) = (0, 0)
  set : if hasF m.kind 32 = true then OkL 64 m.set ∧ (m.kind = 5 → ∀ x ∈ m.set, x.t = 0) else m.set = []
  ws : if hasF m.kind 128 = true then m.ws.length ≤ mostK m.kind ∧ WsOk (strB m.key) 0 0 m.ws else if hasF m.kind 64 = true then ∃ r, m.ws = [r] ∧ GoodW r else m.ws = []
def encO (b : Bool) (l : List Nat) : List Nat := if b = true then l else []
/-- a message as it is written -/
def encM (m : Mg) : List Nat := enc m.kind ++ (enc m.frm ++ (enc m.dst ++ (encO (hasF m.kind 1) (enc m.call) ++ (encO (hasF m.kind 2) (enc m.own) ++ (encO (hasF m.kind 4) (enc m.rng) ++ (encO (hasF m.kind 8) (encT m.key) ++ (encO (hasF m.kind 16) (enc m.dn ++ enc m.dc) ++ (encO (hasF m.kind 32) (encSet m.set) ++ (encO (hasF m.kind 128) (enc m.ws.length) ++ m.ws.flatMap encW)))))))))
theorem rsetOf_iff {B : List Nat} (hB : ∀ b ∈ B, b < 256) (q kind : Nat) (l : List S) (q' : Nat) : rsetOf B q kind = .ok (l, q') ↔ (OkL 64 l ∧ (kind = 5 → ∀ x ∈ l, x.t = 0)) ∧ St B q (encSet l) q' := by
  unfold rsetOf
  by_cases h : kind = 5
  · rw [if_pos h, rbases_iff hB]; simp [h]
  · rw [if_neg h, rset_iff hB]; simp [h]
theorem hasF_not (k : Nat) : ¬ (hasF k 64 = true ∧ hasF k 128 = true) := by
  unfold hasF fldK
  (repeat' split) <;> decide
theorem rmws_iff {B : List Nat} (hB : ∀ b ∈ B, b < 256) (k : Nat) (key : List Nat) (q : Nat) (hq : q ≤ B.length) (l : List Wr) (q' : Nat) :
    rmws B k key q = .ok (l, q') ↔ (if hasF k 128 = true then l.length ≤ mostK k ∧ WsOk (strB key) 0 0 l else if hasF k 64 = true then ∃ r, l = [r] ∧ GoodW r else l = []) ∧ St B q (encO (hasF k 128) (enc l.length) ++ l.flatMap encW) q' := by
  unfold rmws
  have hno := hasF_not k
  by_cases h1 : hasF k 128 = true
  · have h6 : hasF k 64 = false := by
      cases h : hasF k 64 with
      | false => rfl
      | true => exact absurd ⟨h, h1⟩ hno
    rw [h6, h1]
    simp only [ropt, Bool.false_eq_true, if_false, if_true, rb, encO]
    exact rwrites_iff hB q _ (mostK_le k) _ _ _
  · have h1' : hasF k 128 = false := by simpa using h1
    rw [h1']
    simp only [ropt, Bool.false_eq_true, if_false, encO, List.nil_append]
    by_cases h6 : hasF k 64 = true
    · rw [h6]
      simp only [if_true]
      rw [rb_iff]
      constructor
      · rintro ⟨a, q1, h2, h3⟩
        rw [rb_iff] at h2
        obtain ⟨r, q2, h2, h4⟩ := h2
        simp only [Except.ok.injEq, Prod.mk.injEq] at h3 h4
        obtain ⟨rfl, rfl⟩ := h4
        obtain ⟨rfl, rfl⟩ := h3
        rw [rlone_iff hB] at h2
        exact ⟨⟨r, rfl, h2.1⟩, by simpa using h2.2⟩
      · rintro ⟨⟨r, rfl, h2⟩, h3⟩
        refine ⟨[r], q', ?_, rfl⟩
        rw [rb_iff]
        exact ⟨r, q', (rlone_iff hB _ _ _).2 ⟨h2, by simpa using h3⟩, rfl⟩
    · have h6' : hasF k 64 = false := by simpa using h6
      rw [h6']
      simp only [Bool.false_eq_true, if_false, rb]
      constructor
      · intro h
        simp only [Except.ok.injEq, Prod.mk.injEq] at h
        obtain ⟨rfl, rfl⟩ := h
        exact ⟨rfl, rfl, hq⟩
      · rintro ⟨rfl, h2, _⟩
        rw [h2]
/-- a message that stands at a place, whatever comes behind it -/
noncomputable def rmsgP (B : List Nat) (q : Nat) : Except Nat (Mg × Nat) :=
  rb (rbound B q 1 11) fun k q => rb (rbound B q 0 7) fun f q => rb (rbound B q 0 7) fun t q => rb (ropt (hasF k 1) 0 q (fun q => rbound B q 0 4096)) fun ca q =>
  rb (ropt (hasF k 2) 0 q (fun q => rbound B q 0 7)) fun ow q => rb (ropt (hasF k 4) 0 q (fun q => rbound B q 0 15)) fun rg q => rb (ropt (hasF k 8) [] q (fun q => rtext B q 1 16)) fun ky q =>
  rb (ropt (hasF k 16) (0, 0) q (fun q => rdot B q)) fun d q => rb (ropt (hasF k 32) [] q (fun q => rsetOf B q k)) fun st q => rb (rmws B k ky q) fun ws q => .ok (⟨k, f, t, ca, rg, ow, ky, d.1, d.2, st, ws⟩, q)
theorem rmsg_P (B : List Nat) (q : Nat) : rmsg B q = rb (rmsgP B q) (fun m q' => if q' = B.length then .ok (m, q') else .error q') := by
  unfold rmsg rmsgP rm4 rm5 rm6 rm7 rm8 rm9 rm10
  simp only [rb_rb, rb_ok]
set_option maxHeartbeats 2000000 in
theorem rmsgP_iff {B : List Nat} (hB : ∀ b ∈ B, b < 256) (q : Nat) (m : Mg) (q' : Nat) : rmsgP B q = .ok (m, q') ↔ VMg m ∧ St B q (encM m) q' := by
  unfold rmsgP
  constructor
  · intro h
    obtain ⟨k, q1, h1, h⟩ := rb_iff.1 h
    rw [rbound_iff hB _ _ _ _ _ (by omega)] at h1
    obtain ⟨f, q2, h2, h⟩ := rb_iff.1 h
    rw [rbound_iff hB _ _ _ _ _ (by omega)] at h2
    obtain ⟨t, q3, h3, h⟩ := rb_iff.1 h
    rw [rbound_iff hB _ _ _ _ _ (by omega)] at h3
    obtain ⟨ca, q4, h4, h⟩ := rb_iff.1 h
    rw [ropt_iff (r := fun q => rbound B q 0 4096) (P := fun a => 0 ≤ a ∧ a ≤ 4096) (l := enc) h3.2.len.2 (rbound_iff hB _ _ _ _ _ (by omega))] at h4
    obtain ⟨ow, q5, h5, h⟩ := rb_iff.1 h
    rw [ropt_iff (r := fun q => rbound B q 0 7) (P := fun a => 0 ≤ a ∧ a ≤ 7) (l := enc) h4.2.len.2 (rbound_iff hB _ _ _ _ _ (by omega))] at h5
    obtain ⟨rg, q6, h6, h⟩ := rb_iff.1 h
    rw [ropt_iff (r := fun q => rbound B q 0 15) (P := fun a => 0 ≤ a ∧ a ≤ 15) (l := enc) h5.2.len.2 (rbound_iff hB _ _ _ _ _ (by omega))] at h6
    obtain ⟨ky, q7, h7, h⟩ := rb_iff.1 h
    rw [ropt_iff (r := fun q => rtext B q 1 16) (P := fun a => 1 ≤ a.length ∧ a.length ≤ 16) (l := encT) h6.2.len.2 (rtext_iff hB _ _ _ (by omega) _ _)] at h7
    obtain ⟨⟨dn, dc⟩, q8, h8, h⟩ := rb_iff.1 h
    rw [ropt_iff (r := fun q => rdot B q) (P := fun a => a.1 ≤ 7 ∧ 1 ≤ a.2 ∧ a.2 ≤ 1048576) (l := fun a => enc a.1 ++ enc a.2) h7.2.len.2 (rdot_iff hB _ _ _ _)] at h8
    obtain ⟨st, q9, h9, h⟩ := rb_iff.1 h
    rw [ropt_iff (r := fun q => rsetOf B q k) (P := fun a => OkL 64 a ∧ (k = 5 → ∀ x ∈ a, x.t = 0)) (l := encSet) h8.2.len.2 (rsetOf_iff hB _ _ _ _)] at h9
    obtain ⟨ws, q10, h10, h⟩ := rb_iff.1 h
    rw [rmws_iff hB _ _ _ h9.2.len.2] at h10
    simp only [Except.ok.injEq, Prod.mk.injEq] at h
    obtain ⟨rfl, rfl⟩ := h
    simp only [Nat.zero_le, true_and] at h4 h5 h6
    exact ⟨⟨h1.1, h2.1.2, h3.1.2, h4.1, h5.1, h6.1, h7.1, h8.1, h9.1, h10.1⟩, St_app.2 ⟨q1, h1.2, St_app.2 ⟨q2, h2.2, St_app.2 ⟨q3, h3.2, St_app.2 ⟨q4, h4.2, St_app.2 ⟨q5, h5.2, St_app.2 ⟨q6, h6.2, St_app.2 ⟨q7, h7.2, St_app.2 ⟨q8, h8.2, St_app.2 ⟨q9, h9.2, h10.2⟩⟩⟩⟩⟩⟩⟩⟩⟩⟩
  · rintro ⟨v, h⟩
    obtain ⟨k, f, t, ca, rg, ow, ky, dn, dc, st, ws⟩ := m
    obtain ⟨v1, v2, v3, v4, v5, v6, v7, v8, v9, v10⟩ := v
    simp only at v1 v2 v3 v4 v5 v6 v7 v8 v9 v10
    unfold encM at h
    simp only at h
    obtain ⟨q1, h1, h⟩ := St_app.1 h
    obtain ⟨q2, h2, h⟩ := St_app.1 h
    obtain ⟨q3, h3, h⟩ := St_app.1 h
    obtain ⟨q4, h4, h⟩ := St_app.1 h
    obtain ⟨q5, h5, h⟩ := St_app.1 h
    obtain ⟨q6, h6, h⟩ := St_app.1 h
    obtain ⟨q7, h7, h⟩ := St_app.1 h
    obtain ⟨q8, h8, h⟩ := St_app.1 h
    obtain ⟨q9, h9, h10⟩ := St_app.1 h
    refine rb_iff.2 ⟨k, q1, (rbound_iff hB _ _ _ _ _ (by omega)).2 ⟨v1, h1⟩, ?_⟩
    refine rb_iff.2 ⟨f, q2, (rbound_iff hB _ _ _ _ _ (by omega)).2 ⟨⟨by omega, v2⟩, h2⟩, ?_⟩
    refine rb_iff.2 ⟨t, q3, (rbound_iff hB _ _ _ _ _ (by omega)).2 ⟨⟨by omega, v3⟩, h3⟩, ?_⟩
    refine rb_iff.2 ⟨ca, q4, (ropt_iff (r := fun q => rbound B q 0 4096) (P := fun a => 0 ≤ a ∧ a ≤ 4096) (l := enc) h3.len.2 (rbound_iff hB _ _ _ _ _ (by omega))).2 ⟨by simpa using v4, h4⟩, ?_⟩
    refine rb_iff.2 ⟨ow, q5, (ropt_iff (r := fun q => rbound B q 0 7) (P := fun a => 0 ≤ a ∧ a ≤ 7) (l := enc) h4.len.2 (rbound_iff hB _ _ _ _ _ (by omega))).2 ⟨by simpa using v5, h5⟩, ?_⟩
    refine rb_iff.2 ⟨rg, q6, (ropt_iff (r := fun q => rbound B q 0 15) (P := fun a => 0 ≤ a ∧ a ≤ 15) (l := enc) h5.len.2 (rbound_iff hB _ _ _ _ _ (by omega))).2 ⟨by simpa using v6, h6⟩, ?_⟩
    refine rb_iff.2 ⟨ky, q7, (ropt_iff (r := fun q => rtext B q 1 16) (P := fun a => 1 ≤ a.length ∧ a.length ≤ 16) (l := encT) h6.len.2 (rtext_iff hB _ _ _ (by omega) _ _)).2 ⟨v7, h7⟩, ?_⟩
    refine rb_iff.2 ⟨(dn, dc), q8, (ropt_iff (r := fun q => rdot B q) (P := fun a => a.1 ≤ 7 ∧ 1 ≤ a.2 ∧ a.2 ≤ 1048576) (l := fun a => enc a.1 ++ enc a.2) h7.len.2 (rdot_iff hB _ _ _ _)).2 ⟨v8, h8⟩, ?_⟩
    refine rb_iff.2 ⟨st, q9, (ropt_iff (r := fun q => rsetOf B q k) (P := fun a => OkL 64 a ∧ (k = 5 → ∀ x ∈ a, x.t = 0)) (l := encSet) h8.len.2 (rsetOf_iff hB _ _ _ _)).2 ⟨v9, h9⟩, ?_⟩
    exact rb_iff.2 ⟨ws, q', (rmws_iff hB _ _ _ h9.len.2 _ _).2 ⟨v10, h10⟩, rfl⟩
theorem rmsg_iff {B : List Nat} (hB : ∀ b ∈ B, b < 256) (q : Nat) (m : Mg) (q' : Nat) : rmsg B q = .ok (m, q') ↔ VMg m ∧ St B q (encM m) q' ∧ q' = B.length := by
  rw [rmsg_P, rb_iff]
  constructor
  · rintro ⟨a, q1, h1, h2⟩
    rw [rmsgP_iff hB] at h1
    split at h2
    · rename_i hc
      simp only [Except.ok.injEq, Prod.mk.injEq] at h2
      obtain ⟨rfl, rfl⟩ := h2
      exact ⟨h1.1, h1.2, hc⟩
    · cases h2
  · rintro ⟨h1, h2, h3⟩
    exact ⟨m, q', (rmsgP_iff hB _ _ _).2 ⟨h1, h2⟩, by rw [if_pos h3]⟩
end Go.Proofs.YtddffdcjhleejaaGreat.ds
namespace Go.Proofs.YtddffdcjhleejaaGreat.ds
open Go.ChangeShapes Go.WideShapes Go.ChangeAt Go.RowKit Go.Sort
set_option linter.unusedVariables false
set_option linter.unusedSimpArgs false
/-- numbers as they are written one behind the other -/
def encL (l : List Nat) : List Nat := l.flatMap enc
theorem Rd.num {w : World} {p : Option Addr} {ls : List Nat} (h : Rd w p (ls.map fun (n : Nat) => .int .i64 (n : Int))) (i : Nat) (hi : i < ls.length) : ∃ P o, p = some ⟨P, o, none⟩ ∧ P < w.heap.size ∧ w.cell? ⟨P, o + i, none⟩ = some (.int .i64 ((ls.getD i 0 : Nat) : Int)) := by
  obtain ⟨P, o, e, hP, hc⟩ := h (by simp; omega)
  refine ⟨P, o, e, hP, hc i _ ?_⟩
  rw [List.getElem?_map, List.getElem?_eq_getElem hi, List.getD_eq_getElem?_getD, List.getElem?_eq_getElem hi]
  rfl
theorem encL_take {l : List Nat} {i : Nat} (hi : i < l.length) : encL (l.take (i + 1)) = encL (l.take i) ++ enc (l.getD i 0) := by
  unfold encL
  rw [List.take_add_one, List.flatMap_append, List.getD_eq_getElem?_getD, List.getElem?_eq_getElem hi]
  simp
theorem encL_take_le (l : List Nat) (i : Nat) : (encL (l.take i)).length ≤ (encL l).length := by
  have : encL l = encL (l.take i) ++ encL (l.drop i) := by unfold encL; rw [← List.flatMap_append, List.take_append_drop]
  rw [this]; simp
/-- the row of numbers stays: it is no row of bytes -/
structure Nums (w : World) (p : Option Addr) (ls : List Nat) : Prop where
  rd : Rd w p (ls.map fun (n : Nat) => .int .i64 (n : Int))
  blk : ∀ P o, p = some ⟨P, o, none⟩ → ∃ cur, w.heap[P]? = some (.cells cur 3 (0, 0))
theorem Nums.kept {wB w w' : World} {s s' : Sl} {us : List Nat} {p : Option Addr} {ls : List Nat} (h : Nums w p ls) (b : Bf wB w s us) (g : Gw w w' s s') : Nums w' p ls := by
  refine ⟨h.rd.kept g.ap (fun P o e hm => ?_), fun P o e => ?_⟩
  · obtain ⟨cur, hc⟩ := h.blk P o e
    obtain ⟨cu, hc2⟩ := own_typ b.nw.own (k := P) (by simpa using hm)
    rw [hc] at hc2
    simp at hc2
  · obtain ⟨cur, hc⟩ := h.blk P o e
    exact ⟨cur, g.block b hc (by decide)⟩
theorem Nums.made (w : World) (ls : List Nat) : Nums (w.alloc (.cells (ls.map fun (n : Nat) => Value.int .i64 (n : Int)).toArray 3)) (some ⟨w.heap.size, 0, none⟩) ls := by
  refine ⟨fun h0 => ⟨w.heap.size, 0, rfl, by simp, fun j u hj => ?_⟩, fun P o e => ?_⟩
  · rw [Nat.zero_add, cell_of_row _ _ _ _ _ _ (heap_alloc_new w _)]
    simpa using hj
  · simp at e
    obtain ⟨rfl, rfl⟩ := e
    exact ⟨_, heap_alloc_new w _⟩
set_option maxHeartbeats 4000000 in
set_option maxRecDepth 100000 in
theorem aints_ok {wB w : World} {s : Sl} {us : List Nat} (h : Bf wB w s us) {p : Option Addr} {c : Nat} (ls : List Nat) (hn : Nums w p ls) (hlen : ls.length ≤ 1000) (h64 : ∀ n ∈ ls, n < 9223372036854775808) (hl : us.length + (encL ls).length ≤ 1099511627776) :
    Calls Tryz.prog 60 #[.slice s.p s.n s.c, .slice p ls.length c] w fun e w' => AP wB w s (us ++ encL ls) e w' := by
  have HB := hid h
  have HL := hid hl
  have HN := hid hn
  have H64 := hid h64
  clear h hl hn h64
  obtain ⟨K, HK⟩ : ∃ K, Hid (K = ls.length) := ⟨_, rfl⟩
  rw [← HK.out] at hlen ⊢
  go_enter Tryz.func60, Tryz.ntmps60
  go_wp2_with fail
  go_loopw [0, 6, 9] (fun a x b wt => ∃ (i : Nat) (s1 : Sl), a = .slice s1.p s1.n s1.c ∧ b = .int .i64 (i : Nat) ∧ i ≤ K ∧ Bf wB wt s1 (us ++ encL (ls.take i)) ∧ Gw w wt s s1 ∧ Nums wt p ls) (fun _ _ b _ => K - (intOf b).toNat)
  case atStart => exact ⟨0, s, rfl, rfl, by omega, by simpa [encL] using HB.out, Gw.refl _ _, HN.out⟩
  case round =>
    obtain ⟨i, s1, rfl, rfl, hi, hb, hg, hnn⟩ := hrel
    have HB1 := hid hb
    have HG1 := hid hg
    have HN1 := hid hnn
    clear hb hg hnn
    by_cases hlt : i < K
    · have h1 : ((i : Nat) : Int) < (K : Int) := by omega
      have hil : i < ls.length := by have := HK.out; omega
      obtain ⟨P, o, hP, hPl, hc⟩ := HN1.out.rd.num i hil
      subst hP
      obtain ⟨n, Hn⟩ : ∃ n, Hid (n = ls.getD i 0) := ⟨_, rfl⟩
      rw [← Hn.out] at hc
      have hn64 : n < 9223372036854775808 := by
        rw [Hn.out, List.getD_eq_getElem?_getD, List.getElem?_eq_getElem hil]
        exact H64.out _ (List.getElem_mem _)
      have hw1 : IntKind.u64.wrap (n : Int) = (n : Int) := by rw [IntKind.wrap_u64]; omega
      have HLL : Hid ((us ++ encL (ls.take i)).length + (enc n).length ≤ 1099511627776) := by
        unfold Hid
        have a := encL_take_le ls (i + 1)
        rw [encL_take hil, ← Hn.out] at a
        simp only [List.length_append] at a ⊢
        have := HL.out
        omega
      go_wp2_with fail
      refine (anumber_ok HB1.out n (by omega) HLL.out).mono ?_
      rintro e w2 ⟨s2, rfl, hb2, hg2⟩
      have HB2 : Hid (Bf wB w2 s2 (us ++ encL (ls.take (i + 1)))) := by unfold Hid; rw [encL_take hil, ← Hn.out, ← List.append_assoc]; exact hb2
      have HG2 : Hid (Gw w w2 s s2) := HG1.out.trans hg2
      have HN2 : Hid (Nums w2 (some ⟨P, o, none⟩) ls) := HN1.out.kept HB1.out hg2
      clear hb2 hg2 hc
      try dsimp only
      go_wp2_with fail
      go_roundw
      case rel => exact ⟨i + 1, s2, rfl, by go_num, by omega, HB2.out, HG2.out, HN2.out⟩
      case measure => simp [intOf]; omega
    · have h1 : ¬ ((i : Nat) : Int) < (K : Int) := by omega
      have HF : Hid (Bf wB wr s1 (us ++ encL ls)) := by
        unfold Hid
        have := HB1.out
        rw [List.take_of_length_le (by have := HK.out; omega)] at this
        exact this
      go_wp2_with fail
      go_ret
      exact ⟨s1, rfl, HF.out, HG1.out⟩
/-- numbers that were just laid in a row -/
theorem aints_new {wB w : World} {s : Sl} {us : List Nat} (h : Bf wB w s us) (ls : List Nat) (hlen : ls.length ≤ 1000) (h64 : ∀ n ∈ ls, n < 9223372036854775808) (hl : us.length + (encL ls).length ≤ 1099511627776) :
    Calls Tryz.prog 60 #[.slice s.p s.n s.c, .slice (some ⟨w.heap.size, 0, none⟩) ls.length ls.length] (w.alloc (.cells (ls.map fun (n : Nat) => Value.int .i64 (n : Int)).toArray 3)) fun e w' => AP wB w s (us ++ encL ls) e w' := by
  have a : Apart [] w (w.alloc (.cells (ls.map fun (n : Nat) => Value.int .i64 (n : Int)).toArray 3)) := (Apart.refl [] w).alloc _
  refine (aints_ok (h.kept a) ls (Nums.made w ls) hlen h64 hl).mono ?_
  rintro e w' ⟨s', he, hb, hg⟩
  exact ⟨s', he, hb, (Gw.of a).trans hg⟩
set_option maxHeartbeats 4000000 in
set_option maxRecDepth 100000 in
theorem atext_ok {wB w : World} {s : Sl} {us : List Nat} (h : Bf wB w s us) (k : ByteArray) (hk : k.size ≤ 1000000) (hl : us.length + (encT (bsk k)).length ≤ 1099511627776) :
    Calls Tryz.prog 62 #[.slice s.p s.n s.c, .string k] w fun e w' => AP wB w s (us ++ encT (bsk k)) e w' := by
  have HB := hid h
  have hbl := bsk_len k
  have HL : Hid (us.length + ((enc k.size).length + k.size) ≤ 1099511627776) := by unfold Hid; unfold encT at hl; rw [List.length_append, hbl] at hl; exact hl
  have HC : Hid (Calls Tryz.prog 60 #[.slice s.p s.n s.c, .slice (some ⟨w.heap.size, 0, none⟩) 1 1] (w.alloc (.cells #[.int .i64 (k.size : Int)] 3)) fun e w' => AP wB w s (us ++ enc k.size) e w') := by
    have := aints_new h [k.size] (by simp) (by simp; omega) (by have := HL.out; simp [encL]; omega)
    unfold Hid
    simpa [encL] using this
  clear h hl hbl
  go_enter Tryz.func62, Tryz.ntmps62
  go_wp2_with fail
  refine HC.out.mono ?_
  rintro e w2 ⟨s2, rfl, hb2, hg2⟩
  obtain ⟨s3, w3, hrun, hb3, hg3⟩ := app_str hb2 k (by have := HL.out; simp only [List.length_append]; omega)
  have HRUN := hid hrun
  have HB3 : Hid (Bf wB w3 s3 (us ++ encT (bsk k))) := by unfold Hid encT; rw [bsk_len, ← List.append_assoc]; exact hb3
  have HG3 : Hid (Gw w w3 s s3) := hg2.trans hg3
  clear hrun hb3 hg3 hb2 hg2
  try dsimp only
  go_wp2_with (at_builtin; refine wpList_app2 rfl (.tmp 9) (.tmp 10) 30 9 rfl _ _ rfl rfl _ _ HRUN.out ?_)
  go_ret
  exact ⟨s3, rfl, HB3.out, HG3.out⟩
end Go.Proofs.YtddffdcjhleejaaGreat.ds
